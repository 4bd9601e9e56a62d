/- The walk of BitsCompares. -/
import Derived.Test.YtpimfoejlfmimaaAlive
import Derived.Test.YtpimfoejlfmimaaLater
namespace Go.Proofs.Ytpimfoejlfmimaa.Cs
open Go.RowKit

theorem undrew {B : Nat} {w w' : World} (h : Below B w.drew w') : Below B w w' := ⟨h.os, h.tape, h.output, h.size, h.block⟩

theorem zr_df {s : Int} (hs : Sz s) (a b : Int) : zr (df a b false s) s = (a % W s == b % W s) := by
  have h := df_mod hs a b false
  unfold zr
  rw [← h]
  have e : bt false = 0 := rfl
  rw [e, Bool.eq_iff_iff]; simp only [beq_iff_eq]
  rcases W_cases hs with k | k | k <;> rw [k] <;> omega

theorem ng_df {s : Int} (hs : Sz s) (a b : Int) (hf : ft (df a b false s) s = true) : ng (df a b false s) s = decide (sg a s < sg b s) := by
  have h := sg_ft hs (df a b false s)
  rw [hf] at h
  have h : sg (df a b false s) s = df a b false s := by simpa using h
  rw [ng_sg hs, h]
  have e : bt false = 0 := rfl
  unfold df; rw [e]; simp only [decide_eq_decide]; omega

set_option maxHeartbeats 2000000 in
theorem compares_fits (a b s : Int) (hs : Sz s) (ha : U a) (hb : U b) (hf : ft (df a b false s) s = true) (w : World) :
    Calls Try.prog 6 #[.int .u32 a, .int .u32 b, .int .i64 s] w fun e w' => e = .returned (.bool true) ∧ Below w.heap.size w w' := by
  have kC := compare_any a b s hs ha hb
  have kL := less_any a b s hs ha hb
  have kS := sub_any a b s false hs ha hb
  have kR := rcompare_any a b s hs ha hb
  have d1 : decide (a % W s < b % W s + bt false) = decide (a % W s < b % W s) := by simp [bt]
  have d2 : zr (df a b false s) s = (a % W s == b % W s) := zr_df hs a b
  rw [ng_df hs a b hf] at kS
  rw [d1, d2, hf] at kS
  generalize decide (sg a s < sg b s) = n at kC kL kS kR
  generalize (a % W s == b % W s) = z at kC kS kR
  generalize decide (a % W s < b % W s) = c at kC kL kS kR
  clear d1 d2 hf
  have KC := Lib.hid kC
  have KL := Lib.hid kL
  have KS := Lib.hid kS
  have KR := Lib.hid kR
  clear kC kL kS kR
  go_enter Try.func6, Try.ntmps6
  go_wp2_with fail
  refine (alive_any _).mono ?_
  rintro e w1 ⟨rfl, hb1⟩
  go_wp2_with (first | (go_at_call 11; refine (size_any _ hs _).mono ?_; rintro e w' ⟨rfl, rfl⟩) | fail)
  refine (KC.out _).mono ?_
  rintro e w2 ⟨rfl, hb2⟩
  go_wp2_with fail
  refine (KL.out _).mono ?_
  rintro e w' ⟨rfl, rfl⟩
  go_wp2_with fail
  refine (KS.out _).mono ?_
  rintro e w3 ⟨rfl, hb3⟩
  have c2 := fun o => hb3.cell (p := ⟨w2.heap.size, o, none⟩) (by simp)
  have z3 : w2.heap.size < w3.heap.size := by have := hb3.size; simp at this; omega
  go_wp2_with fail
  generalize hw3 : w3.alloc (.cells #[.bool n, .bool z, .bool false, .bool c] 32) = W3
  have f0 : W3.cell? ⟨w2.heap.size, 0, none⟩ = some (.bool n) := by rw [← hw3]; simp [z3, c2, go_sem]
  have f1 : W3.cell? ⟨w2.heap.size, 1, none⟩ = some (.bool z) := by rw [← hw3]; simp [z3, c2, go_sem]
  have f2 : W3.cell? ⟨w2.heap.size, 2, none⟩ = some (.bool false) := by rw [← hw3]; simp [z3, c2, go_sem]
  have f3 : W3.cell? ⟨w2.heap.size, 3, none⟩ = some (.bool c) := by rw [← hw3]; simp [z3, c2, go_sem]
  have g0 : W3.cell? ⟨w3.heap.size, 0, none⟩ = some (.bool n) := by rw [← hw3]; simp [go_sem]
  have g1 : W3.cell? ⟨w3.heap.size, 1, none⟩ = some (.bool z) := by rw [← hw3]; simp [go_sem]
  have g2 : W3.cell? ⟨w3.heap.size, 2, none⟩ = some (.bool false) := by rw [← hw3]; simp [go_sem]
  have g3 : W3.cell? ⟨w3.heap.size, 3, none⟩ = some (.bool c) := by rw [← hw3]; simp [go_sem]
  have b3 : Below w3.heap.size w3 W3 := by rw [← hw3]; exact (Below.refl _ _).alloc (Nat.le_refl _) _
  clear hw3 c2
  replace f0 := later_cell f0
  replace f1 := later_cell f1
  replace f2 := later_cell f2
  replace f3 := later_cell f3
  replace g0 := later_cell g0
  replace g1 := later_cell g1
  replace g2 := later_cell g2
  replace g3 := later_cell g3
  refine wp_region_later (by kernel_rfl) (by kernel_rfl) ?_
  repeat (go_big_quiet_step (exact later_of (KR.out _)))
  refine wpQuiet_nil ?_
  rintro _ ⟨⟨w4, hb4⟩, rfl⟩
  go_wp2
  go_ret
  exact ⟨rfl, below2 (below2 (below3 (below2 hb1 hb2) hb3) b3) hb4⟩

set_option maxHeartbeats 2000000 in
theorem compares_over (a b s : Int) (hs : Sz s) (ha : U a) (hb : U b) (hf : ft (df a b false s) s = false) (w : World) :
    Calls Try.prog 6 #[.int .u32 a, .int .u32 b, .int .i64 s] w fun e w' => e = .returned (.bool true) ∧ Below w.heap.size w w' := by
  have kC := compare_any a b s hs ha hb
  have kL := less_any a b s hs ha hb
  have kS := sub_any a b s false hs ha hb
  have kR := rcompare_any a b s hs ha hb
  have d1 : decide (a % W s < b % W s + bt false) = decide (a % W s < b % W s) := by simp [bt]
  have d2 : zr (df a b false s) s = (a % W s == b % W s) := zr_df hs a b
  rw [d1, d2, hf] at kS
  generalize decide (sg a s < sg b s) = n at kC kL kS kR
  generalize (a % W s == b % W s) = z at kC kS kR
  generalize decide (a % W s < b % W s) = c at kC kL kS kR
  generalize ng (df a b false s) s = m at kS
  clear d1 d2 hf
  have KC := Lib.hid kC
  have KL := Lib.hid kL
  have KS := Lib.hid kS
  have KR := Lib.hid kR
  clear kC kL kS kR
  go_enter Try.func6, Try.ntmps6
  go_wp2_with fail
  refine (alive_any _).mono ?_
  rintro e w1 ⟨rfl, hb1⟩
  go_wp2_with (first | (go_at_call 11; refine (size_any _ hs _).mono ?_; rintro e w' ⟨rfl, rfl⟩) | fail)
  refine (KC.out _).mono ?_
  rintro e w2 ⟨rfl, hb2⟩
  go_wp2_with fail
  refine (KL.out _).mono ?_
  rintro e w' ⟨rfl, rfl⟩
  go_wp2_with fail
  refine (KS.out _).mono ?_
  rintro e w3 ⟨rfl, hb3⟩
  have c2 := fun o => hb3.cell (p := ⟨w2.heap.size, o, none⟩) (by simp)
  have z3 : w2.heap.size < w3.heap.size := by have := hb3.size; simp at this; omega
  go_wp2_with fail
  generalize hw3 : w3.alloc (.cells #[.bool m, .bool z, .bool true, .bool c] 32) = W3
  have f0 : W3.cell? ⟨w2.heap.size, 0, none⟩ = some (.bool n) := by rw [← hw3]; simp [z3, c2, go_sem]
  have f1 : W3.cell? ⟨w2.heap.size, 1, none⟩ = some (.bool z) := by rw [← hw3]; simp [z3, c2, go_sem]
  have f2 : W3.cell? ⟨w2.heap.size, 2, none⟩ = some (.bool false) := by rw [← hw3]; simp [z3, c2, go_sem]
  have f3 : W3.cell? ⟨w2.heap.size, 3, none⟩ = some (.bool c) := by rw [← hw3]; simp [z3, c2, go_sem]
  have g0 : W3.cell? ⟨w3.heap.size, 0, none⟩ = some (.bool m) := by rw [← hw3]; simp [go_sem]
  have g1 : W3.cell? ⟨w3.heap.size, 1, none⟩ = some (.bool z) := by rw [← hw3]; simp [go_sem]
  have g2 : W3.cell? ⟨w3.heap.size, 2, none⟩ = some (.bool true) := by rw [← hw3]; simp [go_sem]
  have g3 : W3.cell? ⟨w3.heap.size, 3, none⟩ = some (.bool c) := by rw [← hw3]; simp [go_sem]
  have b3 : Below w3.heap.size w3 W3 := by rw [← hw3]; exact (Below.refl _ _).alloc (Nat.le_refl _) _
  clear hw3 c2
  replace f0 := later_cell f0
  replace f1 := later_cell f1
  replace f2 := later_cell f2
  replace f3 := later_cell f3
  replace g0 := later_cell g0
  replace g1 := later_cell g1
  replace g2 := later_cell g2
  replace g3 := later_cell g3
  refine wp_region_later (by kernel_rfl) (by kernel_rfl) ?_
  repeat (go_big_quiet_step (exact later_of (KR.out _)))
  refine wpQuiet_nil ?_
  rintro _ ⟨⟨w4, hb4⟩, rfl⟩
  go_wp2
  go_ret
  exact ⟨rfl, below2 (below2 (below3 (below2 hb1 hb2) hb3) b3) hb4⟩

set_option maxHeartbeats 400000 in
theorem compares_not (a b s : Int) (hs : ¬ Sz s) (w : World) :
    Calls Try.prog 6 #[.int .u32 a, .int .u32 b, .int .i64 s] w fun e w' => e = .returned (.bool true) ∧ Below w.heap.size w w' := by
  go_enter Try.func6, Try.ntmps6
  go_wp2_with fail
  refine (alive_any _).mono ?_
  rintro e w1 ⟨rfl, hb1⟩
  go_wp2_with (first | (go_at_call 11; refine (size_not _ hs _).mono ?_; rintro e w' ⟨rfl, rfl⟩) | fail)
  go_ret
  exact ⟨rfl, hb1⟩

theorem compares_walk (a b s : Int) (ha : (Lit.int .u32 a).wf = true) (hb : (Lit.int .u32 b).wf = true) (_ : (Lit.int .i64 s).wf = true) (w : World) :
    Calls Try.prog 6 #[.int .u32 a, .int .u32 b, .int .i64 s] w fun e w' => e = .returned (.bool true) ∧ Below w.heap.size w w' := by
  by_cases hs : Sz s
  · cases hf : ft (df a b false s) s
    · exact compares_over a b s hs (U_of ha) (U_of hb) hf w
    · exact compares_fits a b s hs (U_of ha) (U_of hb) hf w
  · exact compares_not a b s hs w
end Go.Proofs.Ytpimfoejlfmimaa.Cs
