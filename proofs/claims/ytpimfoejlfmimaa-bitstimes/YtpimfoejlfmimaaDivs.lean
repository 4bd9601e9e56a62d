/- Contracts of the two divisions. -/
import Derived.Test.YtpimfoejlfmimaaFlag
import Derived.Deep.RegionWith
namespace Go.Proofs.Ytpimfoejlfmimaa.Cs
open Go.RowKit

/-- a quotient, with signs; by nothing: the number itself -/
def dq (a b s : Int) : Int := if sg b s = 0 then sg a s else (sg a s).tdiv (sg b s)
def dv (a b s : Int) : Bool := sg b s == 0 || !ft (dq a b s) s

theorem ng_congr {s : Int} {x y : Int} (h : x % W s = y % W s) : ng x s = ng y s := by unfold ng; rw [h]
theorem zr_congr {s : Int} {x y : Int} (h : x % W s = y % W s) : zr x s = zr y s := by unfold zr; rw [h]

/-- what a division answers -/
def dvv (a b s : Int) : Value := .tuple #[.int .u32 (dq a b s % W s), .agg #[.bool (ng (dq a b s) s), .bool (zr (dq a b s) s), .bool (dv a b s), .bool (false)], .bool (sg b s != 0)]

theorem ft_div {s : Int} (hs : Sz s) {p q : Int} (hp : -(W s / 2) ≤ p ∧ p < W s / 2) (hq : q ≠ 0) (h : ft (-p) s = true ∨ q ≠ -1) : ft (p.tdiv q) s = true := by
  unfold ft at *
  simp only [decide_eq_true_eq] at *
  by_cases h1 : q = 1
  · subst h1; rw [Int.tdiv_one]; exact hp
  · by_cases h2 : q = -1
    · subst h2
      have h3 := h.resolve_right (fun k => k rfl)
      have h4 : p.tdiv (-1) = -p := by rw [Int.tdiv_neg, Int.tdiv_one]
      rw [h4]; exact h3
    · have h5 : 2 ≤ q.natAbs := by omega
      have h6 : p.natAbs / q.natAbs ≤ p.natAbs / 2 := Nat.div_le_div_left h5 (by omega)
      have h7 : 256 ≤ W s := by rcases W_cases hs with k | k | k <;> omega
      have hn : (p.tdiv q).natAbs = p.natAbs / q.natAbs := Int.natAbs_tdiv p q
      generalize p.tdiv q = d at hn ⊢
      generalize p.natAbs / q.natAbs = k at hn h6
      omega

theorem dvv_zero {a b s : Int} (hs : Sz s) (hq : sg b s = 0) : dvv a b s = .tuple #[.int .u32 (a % W s), .agg #[.bool (ng a s), .bool (zr a s), .bool true, .bool false], .bool false] := by
  have h1 : dq a b s = sg a s := by unfold dq; rw [if_pos hq]
  have h2 : dv a b s = true := by unfold dv; rw [hq]; rfl
  have h3 : (sg b s != 0) = false := by rw [hq]; rfl
  unfold dvv
  rw [h1, h2, h3, ng_congr (sg_mod hs a), zr_congr (sg_mod hs a), sg_mod hs a]

theorem dvv_over {a b s : Int} (hs : Sz s) (hq : sg b s = -1) (hf : ft (-(sg a s)) s = false) : dvv a b s = .tuple #[.int .u32 (sg a s % W s), .agg #[.bool (ng (sg a s) s), .bool (zr (sg a s) s), .bool true, .bool false], .bool true] := by
  have h0 : sg b s ≠ 0 := by omega
  have h1 : dq a b s = -(sg a s) := by unfold dq; rw [if_neg h0, hq, Int.tdiv_neg, Int.tdiv_one]
  have h2 : dv a b s = true := by unfold dv; rw [h1, hf]; simp
  have h3 : (sg b s != 0) = true := by simp [h0]
  have h4 : -(sg a s) % W s = sg a s % W s := by
    have := sg_bound hs a
    unfold ft at hf
    have hf := of_decide_eq_false hf
    generalize sg a s = p at this hf ⊢
    rcases W_cases hs with k | k | k <;> rw [k] at this hf ⊢ <;> omega
  unfold dvv
  rw [h1, h2, h3, ng_congr h4, zr_congr h4, h4]

theorem dvv_plain {a b s : Int} (hs : Sz s) (hq : sg b s ≠ 0) (h : ft (-(sg a s)) s = true ∨ sg b s ≠ -1) : dvv a b s = .tuple #[.int .u32 ((sg a s).tdiv (sg b s) % W s), .agg #[.bool (ng ((sg a s).tdiv (sg b s)) s), .bool (zr ((sg a s).tdiv (sg b s)) s), .bool false, .bool false], .bool true] := by
  have h1 : dq a b s = (sg a s).tdiv (sg b s) := by unfold dq; rw [if_neg hq]
  have h2 : dv a b s = false := by unfold dv; rw [h1, ft_div hs (sg_bound hs a) hq h]; simp [hq]
  have h3 : (sg b s != 0) = true := by simp [hq]
  unfold dvv
  rw [h1, h2, h3]

theorem dvv_not {a b s : Int} (hq : sg b s ≠ 0) : dvv a b s = .tuple #[.int .u32 ((sg a s).tdiv (sg b s) % W s), .agg #[.bool (ng ((sg a s).tdiv (sg b s)) s), .bool (zr ((sg a s).tdiv (sg b s)) s), .bool (!ft ((sg a s).tdiv (sg b s)) s), .bool false], .bool true] := by
  have h1 : dq a b s = (sg a s).tdiv (sg b s) := by unfold dq; rw [if_neg hq]
  have h2 : dv a b s = !ft ((sg a s).tdiv (sg b s)) s := by unfold dv; rw [h1]; simp [hq]
  have h3 : (sg b s != 0) = true := by simp [hq]
  unfold dvv
  rw [h1, h2, h3]

set_option maxHeartbeats 400000 in
theorem div_zero (a b s : Int) (hs : Sz s) (ha : U a) (hb : U b) (hq : sg b s = 0) (w : World) :
    Calls Try.prog 29 #[.int .u32 a, .int .u32 b, .int .i64 s] w fun e w' => e = .returned (dvv a b s) ∧ Below w.heap.size w w' := by
  have HP := Lib.hid (dvv_zero (a := a) hs hq)
  have HM := Lib.hid (and_mask hs ha)
  have hq' : (sg b s == 0) = true := by rw [hq]; rfl
  clear hq
  go_enter Try.func29, Try.ntmps29
  go_wp2_with (first | (go_at_call 36; refine (signed_any _ _ hs (by assumption) _).mono ?_; rintro e w' ⟨rfl, rfl⟩) | fail)
  refine (signs_any _ _ hs ha _).mono ?_
  rintro e w1 ⟨rfl, hb1⟩
  obtain ⟨hc, hf⟩ := bcell hb1
  have hz : w.heap.size < w1.heap.size := by have := hb1.size; simp at this; omega
  go_wp2_with (first | (go_at_call 13; refine (mask_any _ hs _).mono ?_; rintro e w' ⟨rfl, rfl⟩) | fail)
  go_region_with (go_at_call 13; refine (mask_any _ hs _).mono ?_; rintro e w' ⟨rfl, rfl⟩)
  all_goals
    go_wp2
    rw [HM.out]
    exact bodyPost_ret (v := .tuple #[.int .u32 (a % W s), .agg #[.bool (ng a s), .bool (zr a s), .bool true, .bool false], .bool false]) (by simp [results, Try.results29, go_sem, hc, hz]) rfl ⟨by rw [HP.out], by
      refine Below.drew (Below.alloc ?_ (by simp; omega) _)
      iterate 4 refine Below.setCell ?_ (by simp) _
      exact ((Below.refl _ _).alloc (Nat.le_refl _) _).trans (hb1.mono (by simp))⟩

set_option maxHeartbeats 400000 in
theorem div_not (a b s : Int) (hs : Sz s) (ha : U a) (hb : U b) (hq : sg b s ≠ 0) (w : World) :
    Calls Try.prog 29 #[.int .u32 a, .int .u32 b, .int .i64 s] w fun e w' => e = .returned (dvv a b s) ∧ Below w.heap.size w w' := by
  have HP := Lib.hid (dvv_not (a := a) hq)
  have ba := sg_32 hs a
  have bb := sg_32 hs b
  have hd := tdiv_32 (y := sg b s) ba
  have hq' : (sg b s == 0) = false := by simp [hq]
  go_enter Try.func29, Try.ntmps29
  go_wp2_with (first | (go_at_call 36; refine (signed_any _ _ hs (by assumption) _).mono ?_; rintro e w' ⟨rfl, rfl⟩) | fail)
  refine (fit_any _ _ hs _).mono ?_
  rintro e w1 ⟨rfl, hb1⟩
  obtain ⟨hc, hf⟩ := bcell hb1
  have hz : w.heap.size < w1.heap.size := by have := hb1.size; simp at this; omega
  go_wp2
  go_region
  go_wp2
  exact bodyPost_ret (v := .tuple #[.int .u32 ((sg a s).tdiv (sg b s) % W s), .agg #[.bool (ng ((sg a s).tdiv (sg b s)) s), .bool (zr ((sg a s).tdiv (sg b s)) s), .bool (!ft ((sg a s).tdiv (sg b s)) s), .bool false], .bool true]) (by simp [results, Try.results29, go_sem, hc, hz]) rfl ⟨by rw [HP.out], by
    refine Below.drew (Below.alloc ?_ (by simp; omega) _)
    iterate 4 refine Below.setCell ?_ (by simp) _
    exact ((Below.refl _ _).alloc (Nat.le_refl _) _).trans (hb1.mono (by simp))⟩

theorem div_any (a b s : Int) (hs : Sz s) (ha : U a) (hb : U b) (w : World) :
    Calls Try.prog 29 #[.int .u32 a, .int .u32 b, .int .i64 s] w fun e w' => e = .returned (dvv a b s) ∧ Below w.heap.size w w' := by
  by_cases hq : sg b s = 0
  · exact div_zero a b s hs ha hb hq w
  · exact div_not a b s hs ha hb hq w

set_option maxHeartbeats 400000 in
theorem rdiv_zero (a b s : Int) (hs : Sz s) (ha : U a) (hb : U b) (hq : sg b s = 0) (w : World) :
    Calls Try.prog 30 #[.int .u32 a, .int .u32 b, .int .i64 s] w fun e w' => e = .returned (dvv a b s) ∧ Below w.heap.size w w' := by
  have HP := Lib.hid (show dvv a b s = .tuple #[.int .u32 (sg a s % W s), .agg #[.bool (ng (sg a s) s), .bool (zr (sg a s) s), .bool true, .bool false], .bool false] by rw [dvv_zero hs hq, ng_congr (sg_mod hs a), zr_congr (sg_mod hs a), sg_mod hs a])
  have ba := sg_32 hs a
  have hr := rest_bound hs (sg a s)
  have hU2 : U (sg a s % W s) := ⟨by omega, by omega⟩
  have hq' : (sg b s == 0) = true := by rw [hq]; rfl
  have hq2 : (sg b s != 0) = false := by rw [hq]; rfl
  clear hq
  go_enter Try.func30, Try.ntmps30
  go_wp2_with (first | (go_at_call 16; refine (rsigned_any _ _ hs (by assumption) _).mono ?_; rintro e w' ⟨rfl, rfl⟩) | (go_at_call 40; refine (rfits_any _ _ hs _).mono ?_; rintro e w' ⟨rfl, rfl⟩) | (go_at_call 18; refine (rbits_any _ _ hs (by omega) (by omega) _).mono ?_; rintro e w' ⟨rfl, rfl⟩) | fail)
  refine (rsigns_any _ _ hs hU2 _).mono ?_
  rintro e w1 ⟨rfl, hb1⟩
  rw [ng_of_mod hs, zr_of_mod hs]
  obtain ⟨hc, hf⟩ := bcell hb1
  have hz : w.heap.size < w1.heap.size := by have := hb1.size; simp at this; omega
  go_wp2
  go_region
  go_wp2
  exact bodyPost_ret (v := .tuple #[.int .u32 (sg a s % W s), .agg #[.bool (ng (sg a s) s), .bool (zr (sg a s) s), .bool true, .bool false], .bool false]) (by simp [results, Try.results30, go_sem, hc, hz]) rfl ⟨by rw [HP.out], by
    refine Below.drew (Below.alloc ?_ (by simp; omega) _)
    iterate 4 refine Below.setCell ?_ (by simp) _
    exact ((Below.refl _ _).alloc (Nat.le_refl _) _).trans (hb1.mono (by simp))⟩

set_option maxHeartbeats 400000 in
theorem rdiv_over (a b s : Int) (hs : Sz s) (ha : U a) (hb : U b) (hq : sg b s = -1) (hf0 : ft (-(sg a s)) s = false) (w : World) :
    Calls Try.prog 30 #[.int .u32 a, .int .u32 b, .int .i64 s] w fun e w' => e = .returned (dvv a b s) ∧ Below w.heap.size w w' := by
  have HP := Lib.hid (dvv_over hs hq hf0)
  have ba := sg_32 hs a
  have hr := rest_bound hs (sg a s)
  have hU2 : U (sg a s % W s) := ⟨by omega, by omega⟩
  have hq' : (sg b s == 0) = false := by rw [hq]; rfl
  have hq2 : (sg b s != 0) = true := by rw [hq]; rfl
  have hq3 : (sg b s == -1) = true := by rw [hq]; rfl
  clear hq
  go_enter Try.func30, Try.ntmps30
  go_wp2_with (first | (go_at_call 16; refine (rsigned_any _ _ hs (by assumption) _).mono ?_; rintro e w' ⟨rfl, rfl⟩) | (go_at_call 40; refine (rfits_any _ _ hs _).mono ?_; rintro e w' ⟨rfl, rfl⟩) | (go_at_call 18; refine (rbits_any _ _ hs (by omega) (by omega) _).mono ?_; rintro e w' ⟨rfl, rfl⟩) | fail)
  refine (rsigns_any _ _ hs hU2 _).mono ?_
  rintro e w1 ⟨rfl, hb1⟩
  rw [ng_of_mod hs, zr_of_mod hs]
  obtain ⟨hc, hf⟩ := bcell hb1
  have hz : w.heap.size < w1.heap.size := by have := hb1.size; simp at this; omega
  go_wp2
  go_region
  go_wp2
  exact bodyPost_ret (v := .tuple #[.int .u32 (sg a s % W s), .agg #[.bool (ng (sg a s) s), .bool (zr (sg a s) s), .bool true, .bool false], .bool true]) (by simp [results, Try.results30, go_sem, hc, hz]) rfl ⟨by rw [HP.out], by
    refine Below.drew (Below.alloc ?_ (by simp; omega) _)
    iterate 4 refine Below.setCell ?_ (by simp) _
    exact ((Below.refl _ _).alloc (Nat.le_refl _) _).trans (hb1.mono (by simp))⟩

set_option maxHeartbeats 400000 in
theorem rdiv_fits (a b s : Int) (hs : Sz s) (ha : U a) (hb : U b) (hq : sg b s ≠ 0) (hf0 : ft (-(sg a s)) s = true) (w : World) :
    Calls Try.prog 30 #[.int .u32 a, .int .u32 b, .int .i64 s] w fun e w' => e = .returned (dvv a b s) ∧ Below w.heap.size w w' := by
  have HP := Lib.hid (dvv_plain (a := a) hs hq (.inl hf0))
  have ba := sg_32 hs a
  have bb := sg_32 hs b
  have hd := tdiv_32 (y := sg b s) ba
  have hr := rest_bound hs ((sg a s).tdiv (sg b s))
  have hU2 : U ((sg a s).tdiv (sg b s) % W s) := ⟨by omega, by omega⟩
  have hq' : (sg b s == 0) = false := by simp [hq]
  have hq2 : (sg b s != 0) = true := by simp [hq]
  go_enter Try.func30, Try.ntmps30
  go_wp2_with (first | (go_at_call 16; refine (rsigned_any _ _ hs (by assumption) _).mono ?_; rintro e w' ⟨rfl, rfl⟩) | (go_at_call 40; refine (rfits_any _ _ hs _).mono ?_; rintro e w' ⟨rfl, rfl⟩) | (go_at_call 18; refine (rbits_any _ _ hs (by omega) (by omega) _).mono ?_; rintro e w' ⟨rfl, rfl⟩) | fail)
  refine (rsigns_any _ _ hs hU2 _).mono ?_
  rintro e w1 ⟨rfl, hb1⟩
  rw [ng_of_mod hs, zr_of_mod hs]
  obtain ⟨hc, hf⟩ := bcell hb1
  have hz : w.heap.size < w1.heap.size := by have := hb1.size; simp at this; omega
  go_wp2
  go_region
  go_wp2
  exact bodyPost_ret (v := .tuple #[.int .u32 ((sg a s).tdiv (sg b s) % W s), .agg #[.bool (ng ((sg a s).tdiv (sg b s)) s), .bool (zr ((sg a s).tdiv (sg b s)) s), .bool false, .bool false], .bool true]) (by simp [results, Try.results30, go_sem, hc, hz]) rfl ⟨by rw [HP.out], by
    refine Below.drew (Below.alloc ?_ (by simp; omega) _)
    iterate 4 refine Below.setCell ?_ (by simp) _
    exact ((Below.refl _ _).alloc (Nat.le_refl _) _).trans (hb1.mono (by simp))⟩

set_option maxHeartbeats 400000 in
theorem rdiv_other (a b s : Int) (hs : Sz s) (ha : U a) (hb : U b) (hq : sg b s ≠ 0) (hf0 : ft (-(sg a s)) s = false) (h1 : sg b s ≠ -1) (w : World) :
    Calls Try.prog 30 #[.int .u32 a, .int .u32 b, .int .i64 s] w fun e w' => e = .returned (dvv a b s) ∧ Below w.heap.size w w' := by
  have HP := Lib.hid (dvv_plain (a := a) hs hq (.inr h1))
  have ba := sg_32 hs a
  have bb := sg_32 hs b
  have hd := tdiv_32 (y := sg b s) ba
  have hr := rest_bound hs ((sg a s).tdiv (sg b s))
  have hU2 : U ((sg a s).tdiv (sg b s) % W s) := ⟨by omega, by omega⟩
  have hq' : (sg b s == 0) = false := by simp [hq]
  have hq2 : (sg b s != 0) = true := by simp [hq]
  have hq3 : (sg b s == -1) = false := by simp [h1]
  go_enter Try.func30, Try.ntmps30
  go_wp2_with (first | (go_at_call 16; refine (rsigned_any _ _ hs (by assumption) _).mono ?_; rintro e w' ⟨rfl, rfl⟩) | (go_at_call 40; refine (rfits_any _ _ hs _).mono ?_; rintro e w' ⟨rfl, rfl⟩) | (go_at_call 18; refine (rbits_any _ _ hs (by omega) (by omega) _).mono ?_; rintro e w' ⟨rfl, rfl⟩) | fail)
  refine (rsigns_any _ _ hs hU2 _).mono ?_
  rintro e w1 ⟨rfl, hb1⟩
  rw [ng_of_mod hs, zr_of_mod hs]
  obtain ⟨hc, hf⟩ := bcell hb1
  have hz : w.heap.size < w1.heap.size := by have := hb1.size; simp at this; omega
  go_wp2
  go_region
  go_wp2
  exact bodyPost_ret (v := .tuple #[.int .u32 ((sg a s).tdiv (sg b s) % W s), .agg #[.bool (ng ((sg a s).tdiv (sg b s)) s), .bool (zr ((sg a s).tdiv (sg b s)) s), .bool false, .bool false], .bool true]) (by simp [results, Try.results30, go_sem, hc, hz]) rfl ⟨by rw [HP.out], by
    refine Below.drew (Below.alloc ?_ (by simp; omega) _)
    iterate 4 refine Below.setCell ?_ (by simp) _
    exact ((Below.refl _ _).alloc (Nat.le_refl _) _).trans (hb1.mono (by simp))⟩

theorem rdiv_any (a b s : Int) (hs : Sz s) (ha : U a) (hb : U b) (w : World) :
    Calls Try.prog 30 #[.int .u32 a, .int .u32 b, .int .i64 s] w fun e w' => e = .returned (dvv a b s) ∧ Below w.heap.size w w' := by
  by_cases hq : sg b s = 0
  · exact rdiv_zero a b s hs ha hb hq w
  · cases hf0 : ft (-(sg a s)) s
    · by_cases h1 : sg b s = -1
      · exact rdiv_over a b s hs ha hb h1 hf0 w
      · exact rdiv_other a b s hs ha hb hq hf0 h1 w
    · exact rdiv_fits a b s hs ha hb hq hf0 w

end Go.Proofs.Ytpimfoejlfmimaa.Cs
