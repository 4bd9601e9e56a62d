/- Contracts of Convert, the program's and the document's, and the walk of AluConverts. -/
import Derived.Test.YtfninhgjejdafaaADo
namespace Go.Proofs.Ytfninhgjejdafaa.Cs
open Go.RowKit

theorem ex_U (x s : Int) : U (ex x s) := by unfold ex U; omega
theorem ex_rest {f t : Int} (ht : Sz t) (a : Int) : ex a f % W t = sg a f % W t := by unfold ex; exact mod_mod ht _
/-- extended again it is the same just if it fits -/
theorem ex_ft {f t : Int} (hf : Sz f) (ht : Sz t) (a : Int) : (ex (sg a f % W t) t != ex a f) = !ft (sg a f) t := by
  rw [← sg_ft ht (sg a f)]
  have h1 := sg_32 hf a
  have h2 := sg_32 ht (sg a f)
  unfold ex
  rw [sg_of_mod ht]
  generalize sg (sg a f) t = p at *
  generalize sg a f = q at *
  rw [Bool.eq_iff_iff]; simp only [bne_iff_ne, ne_eq]
  omega

set_option maxHeartbeats 400000 in
theorem conv_plain (a f t : Int) (c : Bool) (hf : Sz f) (ht : Sz t) (ha : U a) (w : World) :
    Calls Try.prog 15 #[.int .u32 a, .int .i64 f, .int .i64 t, .bool false, .bool c] w fun e w' => e = .returned (.tuple #[.int .u32 (a % W f % W t), .agg #[.bool false, .bool (zr (a % W f) t), .bool false, .bool c]]) ∧ Below w.heap.size w w' := by
  have r1 := rest_bound hf a
  have hU : U (a % W f) := ⟨by omega, by omega⟩
  have H1 := Lib.hid (and_mask hf ha)
  have H2 := Lib.hid (and_mask ht hU)
  have HZ := Lib.hid (show (a % W f % W t == 0) = zr (a % W f) t from rfl)
  go_enter Try.func15, Try.ntmps15
  go_wp2_with (go_at_call 21; refine (mask_any _ (by assumption) _).mono ?_; rintro e w' ⟨rfl, rfl⟩)
  rw [H1.out, H2.out, HZ.out]
  exact bodyPost_ret (v := .tuple #[.int .u32 (a % W f % W t), .agg #[.bool false, .bool (zr (a % W f) t), .bool false, .bool c]]) (by simp [results, Try.results15, go_sem]) rfl ⟨rfl, by
    repeat refine Below.setCell ?_ (by simp) _
    exact (Below.refl _ _).alloc (Nat.le_refl _) _⟩

set_option maxHeartbeats 400000 in
theorem conv_signed (a f t : Int) (c : Bool) (hf : Sz f) (ht : Sz t) (ha : U a) (w : World) :
    Calls Try.prog 15 #[.int .u32 a, .int .i64 f, .int .i64 t, .bool true, .bool c] w fun e w' => e = .returned (.tuple #[.int .u32 (sg a f % W t), .agg #[.bool (ng (sg a f) t), .bool (zr (sg a f) t), .bool (!ft (sg a f) t), .bool false]]) ∧ Below w.heap.size w w' := by
  have hE := ex_U a f
  have r1 := rest_bound ht (sg a f)
  have hU : U (sg a f % W t) := ⟨by omega, by omega⟩
  have HM := Lib.hid (show bits .and .u32 (ex a f) (W t - 1) = sg a f % W t by rw [and_mask ht hE, ex_rest ht])
  have kS := signs_any (sg a f % W t) t ht hU
  rw [ng_of_mod ht, zr_of_mod ht] at kS
  have KS := Lib.hid kS
  have KE := Lib.hid (extend_any a f hf ha)
  have KX := Lib.hid (extend_any (sg a f % W t) t ht hU)
  have HF := Lib.hid (ex_ft hf ht a)
  clear kS
  go_enter Try.func15, Try.ntmps15
  go_wp2_with (first | (go_at_call 21; refine (mask_any _ (by assumption) _).mono ?_; rintro e w' ⟨rfl, rfl⟩) | fail)
  refine (KE.out _).mono ?_
  rintro e w' ⟨rfl, rfl⟩
  go_wp2_with (first | (go_at_call 21; refine (mask_any _ (by assumption) _).mono ?_; rintro e w' ⟨rfl, rfl⟩) | fail)
  rw [HM.out]
  refine (KS.out _).mono ?_
  rintro e w1 ⟨rfl, hb1⟩
  obtain ⟨hc, hfz⟩ := bcell hb1
  have hz : w.heap.size < w1.heap.size := by have := hb1.size; simp at this; omega
  go_wp2_with fail
  refine (KX.out _).mono ?_
  rintro e w' ⟨rfl, rfl⟩
  go_wp2
  rw [HF.out]
  go_region
  go_wp2
  exact bodyPost_ret (v := .tuple #[.int .u32 (sg a f % W t), .agg #[.bool (ng (sg a f) t), .bool (zr (sg a f) t), .bool (!ft (sg a f) t), .bool false]]) (by simp [results, Try.results15, go_sem, hc, hz]) rfl ⟨rfl, by
    refine Below.drew (Below.alloc ?_ (by simp; omega) _)
    iterate 4 refine Below.setCell ?_ (by simp) _
    exact ((Below.refl _ _).alloc (Nat.le_refl _) _).trans (hb1.mono (by simp))⟩

/-! the document's -/
set_option maxHeartbeats 400000 in
theorem rconv_plain (a f t : Int) (c : Bool) (hf : Sz f) (ht : Sz t) (ha : U a) (w : World) :
    Calls Try.prog 16 #[.int .u32 a, .int .i64 f, .int .i64 t, .bool false, .bool c] w fun e w' => e = .returned (.tuple #[.int .u32 (a % W f % W t), .agg #[.bool false, .bool (zr (a % W f) t), .bool false, .bool c]]) ∧ Below w.heap.size w w' := by
  have r1 := rest_bound hf a
  have r2 := rest_bound ht (a % W f)
  have hU : U (a % W f % W t) := ⟨by omega, by omega⟩
  have KR := Lib.hid (rest_any a f hf ha)
  have KB := Lib.hid (rbits_any (a % W f) t ht (by omega) (by omega))
  have kS := rsigns_any (a % W f % W t) t ht hU
  rw [ng_of_mod ht, zr_of_mod ht] at kS
  generalize zr (a % W f) t = z at *
  generalize ng (a % W f) t = n at *
  generalize a % W f % W t = x at *
  generalize a % W f = r at *
  have KS := Lib.hid kS
  clear kS
  go_enter Try.func16, Try.ntmps16
  go_wp2_with (first | (go_at_call 19; refine (KR.out _).mono ?_; rintro e w' ⟨rfl, rfl⟩) | (go_at_call 35; refine (KB.out _).mono ?_; rintro e w' ⟨rfl, rfl⟩) | fail)
  refine (KS.out _).mono ?_
  rintro e w1 ⟨rfl, hb1⟩
  obtain ⟨hc, hfz⟩ := bcell hb1
  have hz : w.heap.size < w1.heap.size := by have := hb1.size; simp at this; omega
  go_wp2
  go_region
  go_wp2
  exact bodyPost_ret (v := .tuple #[.int .u32 x, .agg #[.bool false, .bool z, .bool false, .bool c]]) (by simp [results, Try.results16, go_sem, hc, hz]) rfl ⟨rfl, by
    refine Below.drew (Below.alloc ?_ (by simp; omega) _)
    iterate 4 refine Below.setCell ?_ (by simp) _
    exact ((Below.refl _ _).alloc (Nat.le_refl _) _).trans (hb1.mono (by simp))⟩

set_option maxHeartbeats 400000 in
theorem rconv_signed (a f t : Int) (c : Bool) (hf : Sz f) (ht : Sz t) (ha : U a) (w : World) :
    Calls Try.prog 16 #[.int .u32 a, .int .i64 f, .int .i64 t, .bool true, .bool c] w fun e w' => e = .returned (.tuple #[.int .u32 (sg a f % W t), .agg #[.bool (ng (sg a f) t), .bool (zr (sg a f) t), .bool (!ft (sg a f) t), .bool false]]) ∧ Below w.heap.size w w' := by
  have r1 := rest_bound ht (sg a f)
  have b1 := sg_32 hf a
  have hU : U (sg a f % W t) := ⟨by omega, by omega⟩
  have KR := Lib.hid (rest_any a f hf ha)
  have KG := Lib.hid (rsigned_any a f hf ha)
  have KB := Lib.hid (rbits_any (sg a f) t ht (by omega) (by omega))
  have KF := Lib.hid (rfits_any (sg a f) t ht)
  have kS := rsigns_any (sg a f % W t) t ht hU
  rw [ng_of_mod ht, zr_of_mod ht] at kS
  have KS := Lib.hid kS
  clear kS
  go_enter Try.func16, Try.ntmps16
  go_wp2_with (first | (go_at_call 19; refine (KR.out _).mono ?_; rintro e w' ⟨rfl, rfl⟩) | (go_at_call 17; refine (KG.out _).mono ?_; rintro e w' ⟨rfl, rfl⟩) | (go_at_call 35; refine (KB.out _).mono ?_; rintro e w' ⟨rfl, rfl⟩) | fail)
  refine (KS.out _).mono ?_
  rintro e w1 ⟨rfl, hb1⟩
  obtain ⟨hc, hfz⟩ := bcell hb1
  have hz : w.heap.size < w1.heap.size := by have := hb1.size; simp at this; omega
  go_wp2_with (go_at_call 36; refine (KF.out _).mono ?_; rintro e w' ⟨rfl, rfl⟩)
  go_region
  go_wp2
  exact bodyPost_ret (v := .tuple #[.int .u32 (sg a f % W t), .agg #[.bool (ng (sg a f) t), .bool (zr (sg a f) t), .bool (!ft (sg a f) t), .bool false]]) (by simp [results, Try.results16, go_sem, hc, hz]) rfl ⟨rfl, by
    refine Below.drew (Below.alloc ?_ (by simp; omega) _)
    iterate 4 refine Below.setCell ?_ (by simp) _
    exact ((Below.refl _ _).alloc (Nat.le_refl _) _).trans (hb1.mono (by simp))⟩

/-! the law -/
set_option maxHeartbeats 1000000 in
theorem aconv_plain (a f t : Int) (c : Bool) (hf : Sz f) (ht : Sz t) (ha : U a) (w : World) :
    Calls Try.prog 4 #[.int .u32 a, .int .i64 f, .int .i64 t, .bool false, .bool c] w fun e w' => e = .returned (.bool true) ∧ Below w.heap.size w w' := by
  have K1 := Lib.hid (conv_plain a f t c hf ht ha)
  have K2 := Lib.hid (rconv_plain a f t c hf ht ha)
  generalize zr (a % W f) t = z at *
  generalize a % W f % W t = x at *
  go_enter Try.func4, Try.ntmps4
  go_wp2_with fail
  refine (alive8 _).mono ?_
  rintro e w1 ⟨rfl, hb1⟩
  go_wp2_with (first | (go_at_call 10; refine (size_any _ (by assumption) _).mono ?_; rintro e w' ⟨rfl, rfl⟩) | fail)
  refine (K1.out _).mono ?_
  rintro e w2 ⟨rfl, hb2⟩
  go_wp2_with fail
  refine (K2.out _).mono ?_
  rintro e w3 ⟨rfl, hb3⟩
  have c2 := fun o => hb3.cell (p := ⟨w2.heap.size, o, none⟩) (by simp)
  have z3 : w2.heap.size < w3.heap.size := by have := hb3.size; simp at this; omega
  go_wp2
  go_ret
  have hx := below3 (below2 hb1 hb2) hb3
  exact ⟨rfl, hx.alloc hx.size _⟩

theorem sg_as (x s y : Int) (hs : Sz s) (hx : U x) (hy : sg x s = y) (w : World) :
    Calls Try.prog 17 #[.int .u32 x, .int .i64 s] w fun e w' => e = .returned (.int .i64 y) ∧ w = w' := hy ▸ rsigned_any x s hs hx w

set_option maxHeartbeats 1000000 in
theorem aconv_signed (a f t : Int) (c : Bool) (hf : Sz f) (ht : Sz t) (ha : U a) (w : World) :
    Calls Try.prog 4 #[.int .u32 a, .int .i64 f, .int .i64 t, .bool true, .bool c] w fun e w' => e = .returned (.bool true) ∧ Below w.heap.size w w' := by
  have r1 := rest_bound ht (sg a f)
  have hU : U (sg a f % W t) := ⟨by omega, by omega⟩
  have k1 := conv_signed a f t c hf ht ha
  have k2 := rconv_signed a f t c hf ht ha
  have k3 := rsigned_any a f hf ha
  have k4 : ft (sg a f) t = true → ∀ w, Calls Try.prog 17 #[.int .u32 (sg a f % W t), .int .i64 t] w fun e w' => e = .returned (.int .i64 (sg a f)) ∧ w = w' := fun h => sg_as _ t _ ht hU (by
    have e := sg_ft ht (sg a f)
    rw [h] at e
    rw [sg_of_mod ht]; simpa using e)
  generalize ft (sg a f) t = v at *
  generalize zr (sg a f) t = z at *
  generalize ng (sg a f) t = n at *
  generalize sg a f % W t = x at *
  generalize sg a f = y at *
  have K1 := Lib.hid k1
  have K2 := Lib.hid k2
  have K3 := Lib.hid k3
  have K4 := Lib.hid k4
  clear k1 k2 k3 k4 r1 hU
  cases v
  all_goals
    go_enter Try.func4, Try.ntmps4
    go_wp2_with fail
    refine (alive8 _).mono ?_
    rintro e w1 ⟨rfl, hb1⟩
    go_wp2_with (first | (go_at_call 10; refine (size_any _ (by assumption) _).mono ?_; rintro e w' ⟨rfl, rfl⟩) | fail)
    refine (K1.out _).mono ?_
    rintro e w2 ⟨rfl, hb2⟩
    go_wp2_with fail
    refine (K2.out _).mono ?_
    rintro e w3 ⟨rfl, hb3⟩
    have c2 := fun o => hb3.cell (p := ⟨w2.heap.size, o, none⟩) (by simp)
    have z3 : w2.heap.size < w3.heap.size := by have := hb3.size; simp at this; omega
    have hx := below3 (below2 hb1 hb2) hb3
  · go_wp2
    go_ret
    exact ⟨rfl, hx.alloc hx.size _⟩
  · go_wp2_with fail
    refine (K4.out trivial _).mono ?_
    rintro e w' ⟨rfl, rfl⟩
    go_wp2_with fail
    refine (K3.out _).mono ?_
    rintro e w' ⟨rfl, rfl⟩
    go_wp2
    go_ret
    exact ⟨rfl, hx.alloc hx.size _⟩

set_option maxHeartbeats 400000 in
theorem aconv_not1 (a f t : Int) (u c : Bool) (hf : ¬ Sz f) (w : World) :
    Calls Try.prog 4 #[.int .u32 a, .int .i64 f, .int .i64 t, .bool u, .bool c] w fun e w' => e = .returned (.bool true) ∧ Below w.heap.size w w' := by
  go_enter Try.func4, Try.ntmps4
  go_wp2_with fail
  refine (alive8 _).mono ?_
  rintro e w1 ⟨rfl, hb1⟩
  go_wp2_with (first | (go_at_call 10; refine (size_not _ hf _).mono ?_; rintro e w' ⟨rfl, rfl⟩) | fail)
  go_ret
  exact ⟨rfl, hb1⟩

set_option maxHeartbeats 400000 in
theorem aconv_not2 (a f t : Int) (u c : Bool) (hf : Sz f) (ht : ¬ Sz t) (w : World) :
    Calls Try.prog 4 #[.int .u32 a, .int .i64 f, .int .i64 t, .bool u, .bool c] w fun e w' => e = .returned (.bool true) ∧ Below w.heap.size w w' := by
  go_enter Try.func4, Try.ntmps4
  go_wp2_with fail
  refine (alive8 _).mono ?_
  rintro e w1 ⟨rfl, hb1⟩
  go_wp2_with fail
  refine (size_any _ hf _).mono ?_
  rintro e w' ⟨rfl, rfl⟩
  go_wp2_with fail
  refine (size_not _ ht _).mono ?_
  rintro e w' ⟨rfl, rfl⟩
  go_wp2
  go_ret
  exact ⟨rfl, hb1⟩

theorem aconv_walk (a f t : Int) (u c : Bool) (ha : (Lit.int .u32 a).wf = true) (_ : (Lit.int .i64 f).wf = true) (_ : (Lit.int .i64 t).wf = true) (w : World) :
    Calls Try.prog 4 #[.int .u32 a, .int .i64 f, .int .i64 t, .bool u, .bool c] w fun e w' => e = .returned (.bool true) ∧ Below w.heap.size w w' := by
  by_cases hf : Sz f
  · by_cases ht : Sz t
    · cases u
      · exact aconv_plain a f t c hf ht (U_of ha) w
      · exact aconv_signed a f t c hf ht (U_of ha) w
    · exact aconv_not2 a f t u c hf ht w
  · exact aconv_not1 a f t u c hf w
end Go.Proofs.Ytfninhgjejdafaa.Cs
