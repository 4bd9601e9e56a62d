/- Contracts of the calls of package bits, and of the document's own, that answer codes. -/
import Derived.Test.YtpimfoejlfmimaaLeaf
import Derived.RegionTactic
import Derived.ChangeAlike
namespace Go.Proofs.Ytpimfoejlfmimaa.Cs
open Go.RowKit

/-- codes, as a value -/
def fl (n z v c : Bool) : Value := .agg #[.bool n, .bool z, .bool v, .bool c]

theorem bcell {W w1 : World} (hb : Below W.heap.size W w1) : (∀ b o, b < W.heap.size → w1.cell? ⟨b, o, none⟩ = W.cell? ⟨b, o, none⟩) ∧ (∀ b o, b < W.heap.size → w1.frozen? ⟨b, o, none⟩ = W.frozen? ⟨b, o, none⟩) :=
  ⟨fun b o h => hb.cell (p := ⟨b, o, none⟩) h, fun b o h => hb.frozen (p := ⟨b, o, none⟩) h⟩

set_option maxHeartbeats 400000 in
theorem fit_any (n s : Int) (hs : Sz s) (w : World) :
    Calls Try.prog 35 #[.int .i64 n, .int .i64 s] w fun e w' => e = .returned (.tuple #[.int .u32 (n % W s), .agg #[.bool (ng n s), .bool (zr n s), .bool (!ft n s), .bool false]]) ∧ Below w.heap.size w w' := by
  have hU : U (n % 4294967296) := ⟨by omega, by omega⟩
  have hb := rest_bound hs n
  have hU2 : U (n % W s) := ⟨by omega, by omega⟩
  have HM := Lib.hid (show bits .and .u32 (n % 4294967296) (W s - 1) = n % W s by rw [and_mask hs hU, mod_mod hs])
  go_enter Try.func35, Try.ntmps35
  go_wp2_with (first | (go_at_call 13; refine (mask_any _ hs _).mono ?_; rintro e w' ⟨rfl, rfl⟩) | fail)
  rw [HM.out]
  refine (signs_any _ _ hs hU2 _).mono ?_
  rintro e w1 ⟨rfl, hb1⟩
  rw [ng_of_mod hs, zr_of_mod hs]
  obtain ⟨hc, hf⟩ := bcell hb1
  have hz : w.heap.size < w1.heap.size := by have := hb1.size; simp at this; omega
  go_wp2_with (first | (go_at_call 36; refine (signed_any _ _ hs hU2 _).mono ?_; rintro e w' ⟨rfl, rfl⟩) | fail)
  rw [sg_of_mod hs, sg_ft hs]
  go_region
  go_wp2
  exact bodyPost_ret (v := .tuple #[.int .u32 (n % W s), .agg #[.bool (ng n s), .bool (zr n s), .bool (!ft n s), .bool false]]) (by simp [results, Try.results35, go_sem, hc, hz]) rfl ⟨rfl, by
    refine Below.drew (Below.alloc ?_ (by simp; omega) _)
    iterate 4 refine Below.setCell ?_ (by simp) _
    exact ((Below.refl _ _).alloc (Nat.le_refl _) _).trans (hb1.mono (by simp))⟩


/-- a sum, and a difference, with signs -/
def sm (a b : Int) (c : Bool) (s : Int) : Int := sg a s + sg b s + bt c
def df (a b : Int) (c : Bool) (s : Int) : Int := sg a s - sg b s - bt c

theorem mask_rest {s : Int} (hs : Sz s) : (W s - 1) % W s = W s - 1 := by rcases W_cases hs with h | h | h <;> rw [h] <;> omega
theorem mask_U {s : Int} (hs : Sz s) : U (W s - 1) := by unfold U; rcases W_cases hs with h | h | h <;> rw [h] <;> omega

set_option maxHeartbeats 400000 in
theorem add_any (a b s : Int) (c : Bool) (hs : Sz s) (ha : U a) (hb : U b) (w : World) :
    Calls Try.prog 23 #[.int .u32 a, .int .u32 b, .bool c, .int .i64 s] w fun e w' => e = .returned (.tuple #[.int .u32 (sm a b c s % W s), .agg #[.bool (ng (sm a b c s) s), .bool (zr (sm a b c s) s), .bool (!ft (sm a b c s) s), .bool (decide (W s ≤ a % W s + b % W s + bt c))]]) ∧ Below w.heap.size w w' := by
  have ba := sg_32 hs a
  have bb := sg_32 hs b
  have ra := rest_bound hs a
  have rb := rest_bound hs b
  have bc : 0 ≤ bt c ∧ bt c ≤ 1 := by rcases bt_cases c with h | h <;> omega
  have hm := mask_rest hs
  have hmU := mask_U hs
  have HS := Lib.hid (show sg a s + sg b s + bt c = sm a b c s from rfl)
  have HC := Lib.hid (show decide (W s - 1 < a % W s + b % W s + bt c) = decide (W s ≤ a % W s + b % W s + bt c) by simp only [decide_eq_decide]; omega)
  go_enter Try.func23, Try.ntmps23
  go_wp2_with (first | (go_at_call 36; refine (signed_any _ _ hs (by assumption) _).mono ?_; rintro e w' ⟨rfl, rfl⟩) | (go_at_call 37; refine (one_any _ _).mono ?_; rintro e w' ⟨rfl, rfl⟩) | fail)
  rw [HS.out]
  refine (fit_any _ _ hs _).mono ?_
  rintro e w1 ⟨rfl, hb1⟩
  obtain ⟨hc, hf⟩ := bcell hb1
  have hz : w.heap.size < w1.heap.size := by have := hb1.size; simp at this; omega
  go_wp2_with (first | (go_at_call 38; refine (plain_any _ _ hs (by assumption) _).mono ?_; rintro e w' ⟨rfl, rfl⟩) | (go_at_call 37; refine (one_any _ _).mono ?_; rintro e w' ⟨rfl, rfl⟩) | (go_at_call 13; refine (mask_any _ hs _).mono ?_; rintro e w' ⟨rfl, rfl⟩) | fail)
  rw [HC.out]
  go_region
  go_wp2
  exact bodyPost_ret (v := .tuple #[.int .u32 (sm a b c s % W s), .agg #[.bool (ng (sm a b c s) s), .bool (zr (sm a b c s) s), .bool (!ft (sm a b c s) s), .bool (decide (W s ≤ a % W s + b % W s + bt c))]]) (by simp [results, Try.results23, go_sem, hc, hz]) rfl ⟨rfl, by
    refine Below.drew (Below.alloc ?_ (by simp; omega) _)
    iterate 4 refine Below.setCell ?_ (by simp) _
    exact ((Below.refl _ _).alloc (Nat.le_refl _) _).trans (hb1.mono (by simp))⟩

set_option maxHeartbeats 400000 in
theorem sub_any (a b s : Int) (c : Bool) (hs : Sz s) (ha : U a) (hb : U b) (w : World) :
    Calls Try.prog 25 #[.int .u32 a, .int .u32 b, .bool c, .int .i64 s] w fun e w' => e = .returned (.tuple #[.int .u32 (df a b c s % W s), .agg #[.bool (ng (df a b c s) s), .bool (zr (df a b c s) s), .bool (!ft (df a b c s) s), .bool (decide (a % W s < b % W s + bt c))]]) ∧ Below w.heap.size w w' := by
  have ba := sg_32 hs a
  have bb := sg_32 hs b
  have ra := rest_bound hs a
  have rb := rest_bound hs b
  have bc : 0 ≤ bt c ∧ bt c ≤ 1 := by rcases bt_cases c with h | h <;> omega
  have HS := Lib.hid (show sg a s - sg b s - bt c = df a b c s from rfl)
  go_enter Try.func25, Try.ntmps25
  go_wp2_with (first | (go_at_call 36; refine (signed_any _ _ hs (by assumption) _).mono ?_; rintro e w' ⟨rfl, rfl⟩) | (go_at_call 37; refine (one_any _ _).mono ?_; rintro e w' ⟨rfl, rfl⟩) | fail)
  rw [HS.out]
  refine (fit_any _ _ hs _).mono ?_
  rintro e w1 ⟨rfl, hb1⟩
  obtain ⟨hc, hf⟩ := bcell hb1
  have hz : w.heap.size < w1.heap.size := by have := hb1.size; simp at this; omega
  go_wp2_with (first | (go_at_call 38; refine (plain_any _ _ hs (by assumption) _).mono ?_; rintro e w' ⟨rfl, rfl⟩) | (go_at_call 37; refine (one_any _ _).mono ?_; rintro e w' ⟨rfl, rfl⟩) | fail)
  go_region
  go_wp2
  exact bodyPost_ret (v := .tuple #[.int .u32 (df a b c s % W s), .agg #[.bool (ng (df a b c s) s), .bool (zr (df a b c s) s), .bool (!ft (df a b c s) s), .bool (decide (a % W s < b % W s + bt c))]]) (by simp [results, Try.results25, go_sem, hc, hz]) rfl ⟨rfl, by
    refine Below.drew (Below.alloc ?_ (by simp; omega) _)
    iterate 4 refine Below.setCell ?_ (by simp) _
    exact ((Below.refl _ _).alloc (Nat.le_refl _) _).trans (hb1.mono (by simp))⟩

set_option maxHeartbeats 400000 in
theorem mul_any (a b s : Int) (hs : Sz s) (ha : U a) (hb : U b) (w : World) :
    Calls Try.prog 27 #[.int .u32 a, .int .u32 b, .int .i64 s] w fun e w' => e = .returned (.tuple #[.int .u32 (sg a s * sg b s % W s), .agg #[.bool (ng (sg a s * sg b s) s), .bool (zr (sg a s * sg b s) s), .bool (!ft (sg a s * sg b s) s), .bool false]]) ∧ Below w.heap.size w w' := by
  have ba := sg_32 hs a
  have bb := sg_32 hs b
  have ra := rest_bound hs a
  have rb := rest_bound hs b
  have hm := mul_62 ba bb
  go_enter Try.func27, Try.ntmps27
  go_wp2_with (first | (go_at_call 36; refine (signed_any _ _ hs (by assumption) _).mono ?_; rintro e w' ⟨rfl, rfl⟩) | fail)
  refine (fit_any _ _ hs _).mono ?_
  rintro e w1 ⟨rfl, hb1⟩
  obtain ⟨hc, hf⟩ := bcell hb1
  have hz : w.heap.size < w1.heap.size := by have := hb1.size; simp at this; omega
  go_wp2
  exact bodyPost_ret (v := .tuple #[.int .u32 (sg a s * sg b s % W s), .agg #[.bool (ng (sg a s * sg b s) s), .bool (zr (sg a s * sg b s) s), .bool (!ft (sg a s * sg b s) s), .bool (false)]]) (by simp [results, Try.results27, go_sem, hc]) rfl ⟨rfl, by
    iterate 4 refine Below.setCell ?_ (by simp) _
    exact ((Below.refl _ _).alloc (Nat.le_refl _) _).trans (hb1.mono (by simp))⟩

set_option maxHeartbeats 400000 in
theorem less_any (a b s : Int) (hs : Sz s) (ha : U a) (hb : U b) (w : World) :
    Calls Try.prog 32 #[.int .u32 a, .int .u32 b, .int .i64 s] w fun e w' => e = .returned (.tuple #[.bool (decide (sg a s < sg b s)), .bool (decide (a % W s < b % W s))]) ∧ w = w' := by
  go_enter Try.func32, Try.ntmps32
  go_wp2_with (first | (go_at_call 36; refine (signed_any _ _ hs (by assumption) _).mono ?_; rintro e w' ⟨rfl, rfl⟩) | (go_at_call 38; refine (plain_any _ _ hs (by assumption) _).mono ?_; rintro e w' ⟨rfl, rfl⟩) | fail)
  go_ret2
  exact ⟨rfl, rfl⟩

set_option maxHeartbeats 400000 in
theorem compare_any (a b s : Int) (hs : Sz s) (ha : U a) (hb : U b) (w : World) :
    Calls Try.prog 31 #[.int .u32 a, .int .u32 b, .int .i64 s] w fun e w' => e = .returned (.agg #[.bool (decide (sg a s < sg b s)), .bool (a % W s == b % W s), .bool false, .bool (decide (a % W s < b % W s))]) ∧ Below w.heap.size w w' := by
  go_enter Try.func31, Try.ntmps31
  go_wp2_with (first | (go_at_call 38; refine (plain_any _ _ hs (by assumption) _).mono ?_; rintro e w' ⟨rfl, rfl⟩) | (go_at_call 32; refine (less_any _ _ _ hs ha hb _).mono ?_; rintro e w' ⟨rfl, rfl⟩) | fail)
  exact bodyPost_ret (v := .agg #[.bool (decide (sg a s < sg b s)), .bool (a % W s == b % W s), .bool false, .bool (decide (a % W s < b % W s))]) (by simp [results, Try.results31, go_sem]) rfl ⟨rfl, (Below.refl _ _).alloc (Nat.le_refl _) _⟩

set_option maxHeartbeats 400000 in
theorem rcompare_any (a b s : Int) (hs : Sz s) (ha : U a) (hb : U b) (w : World) :
    Calls Try.prog 33 #[.int .u32 a, .int .u32 b, .int .i64 s] w fun e w' => e = .returned (.agg #[.bool (decide (sg a s < sg b s)), .bool (a % W s == b % W s), .bool false, .bool (decide (a % W s < b % W s))]) ∧ Below w.heap.size w w' := by
  go_enter Try.func33, Try.ntmps33
  go_wp2_with (first | (go_at_call 34; refine (rest_any _ _ hs (by assumption) _).mono ?_; rintro e w' ⟨rfl, rfl⟩) | (go_at_call 16; refine (rsigned_any _ _ hs (by assumption) _).mono ?_; rintro e w' ⟨rfl, rfl⟩) | fail)
  exact bodyPost_ret (v := .agg #[.bool (decide (sg a s < sg b s)), .bool (a % W s == b % W s), .bool false, .bool (decide (a % W s < b % W s))]) (by simp [results, Try.results33, go_sem]) rfl ⟨rfl, (Below.refl _ _).alloc (Nat.le_refl _) _⟩

theorem sm_mod {s : Int} (hs : Sz s) (a b : Int) (c : Bool) : (a % W s + b % W s + bt c) % W s = sm a b c s % W s := by
  have h1 := sg_mod hs a
  have h2 := sg_mod hs b
  unfold sm
  generalize bt c = d
  generalize sg a s = p at h1 ⊢
  generalize sg b s = q at h2 ⊢
  rcases W_cases hs with h | h | h <;> rw [h] at h1 h2 ⊢ <;> omega

theorem df_mod {s : Int} (hs : Sz s) (a b : Int) (c : Bool) : (a % W s - b % W s - bt c) % W s = df a b c s % W s := by
  have h1 := sg_mod hs a
  have h2 := sg_mod hs b
  unfold df
  generalize bt c = d
  generalize sg a s = p at h1 ⊢
  generalize sg b s = q at h2 ⊢
  rcases W_cases hs with h | h | h <;> rw [h] at h1 h2 ⊢ <;> omega

set_option maxHeartbeats 400000 in
theorem radd_any (a b s : Int) (c : Bool) (hs : Sz s) (ha : U a) (hb : U b) (w : World) :
    Calls Try.prog 24 #[.int .u32 a, .int .u32 b, .bool c, .int .i64 s] w fun e w' => e = .returned (.tuple #[.int .u32 (sm a b c s % W s), .agg #[.bool (ng (sm a b c s) s), .bool (zr (sm a b c s) s), .bool (!ft (sm a b c s) s), .bool (decide (W s ≤ a % W s + b % W s + bt c))]]) ∧ Below w.heap.size w w' := by
  have ba := sg_32 hs a
  have bb := sg_32 hs b
  have ra := rest_bound hs a
  have rb := rest_bound hs b
  have bc : 0 ≤ bt c ∧ bt c ≤ 1 := by rcases bt_cases c with h | h <;> omega
  have HS := Lib.hid (show sg a s + sg b s + bt c = sm a b c s from rfl)
  have HX := Lib.hid (sm_mod hs a b c)
  have hr := rest_bound hs (sm a b c s)
  have hU2 : U (sm a b c s % W s) := ⟨by omega, by omega⟩
  go_enter Try.func24, Try.ntmps24
  go_wp2_with (first | (go_at_call 34; refine (rest_any _ _ hs (by assumption) _).mono ?_; rintro e w' ⟨rfl, rfl⟩) | (go_at_call 39; refine (rone_any _ _).mono ?_; rintro e w' ⟨rfl, rfl⟩) | (go_at_call 18; refine (rbits_any _ _ hs (by omega) (by omega) _).mono ?_; rintro e w' ⟨rfl, rfl⟩) | fail)
  rw [HX.out]
  refine (rsigns_any _ _ hs hU2 _).mono ?_
  rintro e w1 ⟨rfl, hb1⟩
  rw [ng_of_mod hs, zr_of_mod hs]
  obtain ⟨hc, hf⟩ := bcell hb1
  have hz : w.heap.size < w1.heap.size := by have := hb1.size; simp at this; omega
  go_wp2_with (first | (go_at_call 12; refine (wide_any _ hs _).mono ?_; rintro e w' ⟨rfl, rfl⟩) | (go_at_call 16; refine (rsigned_any _ _ hs (by assumption) _).mono ?_; rintro e w' ⟨rfl, rfl⟩) | (go_at_call 39; refine (rone_any _ _).mono ?_; rintro e w' ⟨rfl, rfl⟩) | (go_at_call 40; refine (rfits_any _ _ hs _).mono ?_; rintro e w' ⟨rfl, rfl⟩) | fail)
  rw [HS.out]
  go_region
  go_wp2
  exact bodyPost_ret (v := .tuple #[.int .u32 (sm a b c s % W s), .agg #[.bool (ng (sm a b c s) s), .bool (zr (sm a b c s) s), .bool (!ft (sm a b c s) s), .bool (decide (W s ≤ a % W s + b % W s + bt c))]]) (by simp [results, Try.results24, go_sem, hc, hz]) rfl ⟨rfl, by
    refine Below.drew (Below.alloc ?_ (by simp; omega) _)
    iterate 4 refine Below.setCell ?_ (by simp) _
    exact ((Below.refl _ _).alloc (Nat.le_refl _) _).trans (hb1.mono (by simp))⟩

set_option maxHeartbeats 400000 in
theorem rsub_any (a b s : Int) (c : Bool) (hs : Sz s) (ha : U a) (hb : U b) (w : World) :
    Calls Try.prog 26 #[.int .u32 a, .int .u32 b, .bool c, .int .i64 s] w fun e w' => e = .returned (.tuple #[.int .u32 (df a b c s % W s), .agg #[.bool (ng (df a b c s) s), .bool (zr (df a b c s) s), .bool (!ft (df a b c s) s), .bool (decide (a % W s < b % W s + bt c))]]) ∧ Below w.heap.size w w' := by
  have ba := sg_32 hs a
  have bb := sg_32 hs b
  have ra := rest_bound hs a
  have rb := rest_bound hs b
  have bc : 0 ≤ bt c ∧ bt c ≤ 1 := by rcases bt_cases c with h | h <;> omega
  have HS := Lib.hid (show sg a s - sg b s - bt c = df a b c s from rfl)
  have HX := Lib.hid (df_mod hs a b c)
  have HC := Lib.hid (show decide (a % W s - b % W s - bt c < 0) = decide (a % W s < b % W s + bt c) by simp only [decide_eq_decide]; omega)
  have hr := rest_bound hs (df a b c s)
  have hU2 : U (df a b c s % W s) := ⟨by omega, by omega⟩
  go_enter Try.func26, Try.ntmps26
  go_wp2_with (first | (go_at_call 34; refine (rest_any _ _ hs (by assumption) _).mono ?_; rintro e w' ⟨rfl, rfl⟩) | (go_at_call 39; refine (rone_any _ _).mono ?_; rintro e w' ⟨rfl, rfl⟩) | (go_at_call 18; refine (rbits_any _ _ hs (by omega) (by omega) _).mono ?_; rintro e w' ⟨rfl, rfl⟩) | fail)
  rw [HX.out]
  refine (rsigns_any _ _ hs hU2 _).mono ?_
  rintro e w1 ⟨rfl, hb1⟩
  rw [ng_of_mod hs, zr_of_mod hs]
  obtain ⟨hc, hf⟩ := bcell hb1
  have hz : w.heap.size < w1.heap.size := by have := hb1.size; simp at this; omega
  go_wp2_with (first | (go_at_call 12; refine (wide_any _ hs _).mono ?_; rintro e w' ⟨rfl, rfl⟩) | (go_at_call 16; refine (rsigned_any _ _ hs (by assumption) _).mono ?_; rintro e w' ⟨rfl, rfl⟩) | (go_at_call 39; refine (rone_any _ _).mono ?_; rintro e w' ⟨rfl, rfl⟩) | (go_at_call 40; refine (rfits_any _ _ hs _).mono ?_; rintro e w' ⟨rfl, rfl⟩) | fail)
  rw [HS.out, HC.out]
  go_region
  go_wp2
  exact bodyPost_ret (v := .tuple #[.int .u32 (df a b c s % W s), .agg #[.bool (ng (df a b c s) s), .bool (zr (df a b c s) s), .bool (!ft (df a b c s) s), .bool (decide (a % W s < b % W s + bt c))]]) (by simp [results, Try.results26, go_sem, hc, hz]) rfl ⟨rfl, by
    refine Below.drew (Below.alloc ?_ (by simp; omega) _)
    iterate 4 refine Below.setCell ?_ (by simp) _
    exact ((Below.refl _ _).alloc (Nat.le_refl _) _).trans (hb1.mono (by simp))⟩

set_option maxHeartbeats 400000 in
theorem rmul_any (a b s : Int) (hs : Sz s) (ha : U a) (hb : U b) (w : World) :
    Calls Try.prog 28 #[.int .u32 a, .int .u32 b, .int .i64 s] w fun e w' => e = .returned (.tuple #[.int .u32 (sg a s * sg b s % W s), .agg #[.bool (ng (sg a s * sg b s) s), .bool (zr (sg a s * sg b s) s), .bool (!ft (sg a s * sg b s) s), .bool (false)]]) ∧ Below w.heap.size w w' := by
  have ba := sg_32 hs a
  have bb := sg_32 hs b
  have ra := rest_bound hs a
  have rb := rest_bound hs b
  have hm := mul_62 ba bb
  have hr := rest_bound hs (sg a s * sg b s)
  have hU2 : U (sg a s * sg b s % W s) := ⟨by omega, by omega⟩
  go_enter Try.func28, Try.ntmps28
  go_wp2_with (first | (go_at_call 16; refine (rsigned_any _ _ hs (by assumption) _).mono ?_; rintro e w' ⟨rfl, rfl⟩) | (go_at_call 18; refine (rbits_any _ _ hs (by omega) (by omega) _).mono ?_; rintro e w' ⟨rfl, rfl⟩) | fail)
  refine (rsigns_any _ _ hs hU2 _).mono ?_
  rintro e w1 ⟨rfl, hb1⟩
  rw [ng_of_mod hs, zr_of_mod hs]
  obtain ⟨hc, hf⟩ := bcell hb1
  have hz : w.heap.size < w1.heap.size := by have := hb1.size; simp at this; omega
  go_wp2_with (first | (go_at_call 40; refine (rfits_any _ _ hs _).mono ?_; rintro e w' ⟨rfl, rfl⟩) | fail)
  go_region
  go_wp2
  exact bodyPost_ret (v := .tuple #[.int .u32 (sg a s * sg b s % W s), .agg #[.bool (ng (sg a s * sg b s) s), .bool (zr (sg a s * sg b s) s), .bool (!ft (sg a s * sg b s) s), .bool (false)]]) (by simp [results, Try.results28, go_sem, hc, hz]) rfl ⟨rfl, by
    refine Below.drew (Below.alloc ?_ (by simp; omega) _)
    iterate 4 refine Below.setCell ?_ (by simp) _
    exact ((Below.refl _ _).alloc (Nat.le_refl _) _).trans (hb1.mono (by simp))⟩

end Go.Proofs.Ytpimfoejlfmimaa.Cs
