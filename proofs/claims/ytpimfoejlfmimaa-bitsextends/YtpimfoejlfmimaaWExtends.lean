/- The walk of BitsExtends. -/
import Derived.Test.YtpimfoejlfmimaaAlive
namespace Go.Proofs.Ytpimfoejlfmimaa.Cs
open Go.RowKit

theorem ex_U (x s : Int) : U (ex x s) := by unfold U ex; omega
theorem sg_ex {s : Int} (hs : Sz s) (x : Int) : sg (ex x s) 4 = sg x s := by
  have := sg_32 hs x
  unfold ex
  generalize sg x s = p at this ⊢
  unfold sg; rw [W4]; split <;> omega
theorem sg_ex' {s : Int} (hs : Sz s) (x : Int) : sg (ex x s) s = sg x s := by
  have h1 : ex x s % W s = x % W s := by rw [← sg_mod hs x]; unfold ex; exact mod_mod hs _
  rw [← sg_of_mod hs, h1, sg_of_mod hs]
theorem ex_ex {s : Int} (hs : Sz s) (x : Int) : ex (ex x s) s = ex x s := by
  have := sg_ex' hs x
  unfold ex at *; rw [this]
theorem ng_ex {s : Int} (hs : Sz s) (x : Int) : ng (ex x s) 4 = ng x s := by
  rw [ng_sg (.inr (.inr rfl)), ng_sg hs, sg_ex hs]
theorem zr_ex {s : Int} (hs : Sz s) (x : Int) : zr (ex x s) 4 = zr x s := by
  have h := sg_ex hs x
  have e1 : zr (ex x s) 4 = (sg (ex x s) 4 == 0) := by
    unfold zr sg; rw [W4]; split <;> (first | rfl | (rw [Bool.eq_iff_iff]; simp only [beq_iff_eq]; omega))
  have e2 : zr x s = (sg x s == 0) := by
    unfold zr sg; rcases W_cases hs with k | k | k <;> rw [k] <;> split <;> (first | rfl | (rw [Bool.eq_iff_iff]; simp only [beq_iff_eq]; omega))
  rw [e1, e2, h]

set_option maxHeartbeats 1000000 in
theorem extends_yes (x s : Int) (hs : Sz s) (hx : U x) (w : World) :
    Calls Try.prog 9 #[.int .u32 x, .int .i64 s] w fun e w' => e = .returned (.bool true) ∧ Below w.heap.size w w' := by
  have hy := ex_U x s
  have h4 : Sz 4 := .inr (.inr rfl)
  have k1 := sg_ex hs x
  have k2 := ex_ex hs x
  have k3 := ng_ex hs x
  have k4 := zr_ex hs x
  go_enter Try.func9, Try.ntmps9
  go_wp2_with fail
  refine (alive_any _).mono ?_
  rintro e w1 ⟨rfl, hb1⟩
  go_wp2_with (first | (go_at_call 11; refine (size_any _ hs _).mono ?_; rintro e w' ⟨rfl, rfl⟩) | (go_at_call 17; refine (extend_any _ _ (by assumption) (by assumption) _).mono ?_; rintro e w' ⟨rfl, rfl⟩) | (go_at_call 16; refine (rsigned_any _ _ (by assumption) (by assumption) _).mono ?_; rintro e w' ⟨rfl, rfl⟩) | fail)
  refine (signs_any _ _ h4 hy _).mono ?_
  rintro e w2 ⟨rfl, hb2⟩
  go_wp2_with fail
  refine (signs_any _ _ hs hx _).mono ?_
  rintro e w3 ⟨rfl, hb3⟩
  go_wp2_with (first | (go_at_call 15; refine (neg_any _ _ (by assumption) (by assumption) _).mono ?_; rintro e w' ⟨rfl, rfl⟩) | fail)
  go_ret
  exact ⟨rfl, below2 (below2 hb1 hb2) hb3⟩

set_option maxHeartbeats 400000 in
theorem extends_not (x s : Int) (hs : ¬ Sz s) (w : World) :
    Calls Try.prog 9 #[.int .u32 x, .int .i64 s] w fun e w' => e = .returned (.bool true) ∧ Below w.heap.size w w' := by
  go_enter Try.func9, Try.ntmps9
  go_wp2_with fail
  refine (alive_any _).mono ?_
  rintro e w1 ⟨rfl, hb1⟩
  go_wp2_with (first | (go_at_call 11; refine (size_not _ hs _).mono ?_; rintro e w' ⟨rfl, rfl⟩) | fail)
  go_ret
  exact ⟨rfl, hb1⟩

theorem extends_walk (x s : Int) (hx : (Lit.int .u32 x).wf = true) (_ : (Lit.int .i64 s).wf = true) (w : World) :
    Calls Try.prog 9 #[.int .u32 x, .int .i64 s] w fun e w' => e = .returned (.bool true) ∧ Below w.heap.size w w' := by
  by_cases hs : Sz s
  · exact extends_yes x s hs (U_of hx) w
  · exact extends_not x s hs w
end Go.Proofs.Ytpimfoejlfmimaa.Cs
