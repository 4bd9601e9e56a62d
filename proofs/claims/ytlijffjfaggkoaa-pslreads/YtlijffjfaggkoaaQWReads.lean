/- The walk of PslReads. -/
import Derived.Test.YtlijffjfaggkoaaQRef2
namespace Go.Proofs.Ytlijffjfaggkoaa.Cs
open Go.RowKit

set_option maxHeartbeats 2000000 in
theorem qreads_walk (x : Int) (hx : (Lit.int .u32 x).wf = true) (w : World) :
    Calls Try.prog 3 #[.int .u32 x] w fun e w' => e = .returned (.bool true) ∧ Below w.heap.size w w' := by
  have hx := U_of hx
  have C := Lib.hid (of_any x hx)
  have KF := Lib.hid (flags_any x hx)
  have KI := Lib.hid (ipl_any x hx)
  have KU := Lib.hid (user_any x hx)
  have KG := Lib.hid (good_any x hx)
  have KR := Lib.hid (rgood_any x hx)
  clear hx
  generalize gd x = g at *
  generalize ip x = p at *
  generalize rk x 32 = r at *
  generalize bi x 24 = u at *
  generalize bi x 22 = s at *
  generalize bi x 0 = b0 at *
  generalize bi x 1 = b1 at *
  generalize bi x 2 = b2 at *
  generalize bi x 3 = b3 at *
  generalize bi x 27 = b27 at *
  go_enter Try.func3, Try.ntmps3
  go_wp2_with (first | (go_at_call 9; refine (alive_any _).mono ?_; rintro e w' ⟨rfl, rfl⟩) | fail)
  refine (C.out _).mono ?_
  rintro e w1 ⟨rfl, hb1⟩
  go_wp2_with fail
  generalize hW : w1.alloc (.cells #[.bool b3, .bool b2, .bool b1, .bool b0, .int .i64 p, .bool s, .bool u, .bool b27, .bool r] 27) = W
  have bW : Below w1.heap.size w1 W := by rw [← hW]; exact (Below.refl _ _).alloc (Nat.le_refl _) _
  have f0 : W.cell? ⟨w1.heap.size, 0, none⟩ = some (.bool b3) := by rw [← hW]; simp [go_sem]
  have f1 : W.cell? ⟨w1.heap.size, 1, none⟩ = some (.bool b2) := by rw [← hW]; simp [go_sem]
  have f2 : W.cell? ⟨w1.heap.size, 2, none⟩ = some (.bool b1) := by rw [← hW]; simp [go_sem]
  have f3 : W.cell? ⟨w1.heap.size, 3, none⟩ = some (.bool b0) := by rw [← hW]; simp [go_sem]
  have f4 : W.cell? ⟨w1.heap.size, 4, none⟩ = some (.int .i64 p) := by rw [← hW]; simp [go_sem]
  have f6 : W.cell? ⟨w1.heap.size, 6, none⟩ = some (.bool u) := by rw [← hW]; simp [go_sem]
  clear hW
  replace f0 := later_cell f0
  replace f1 := later_cell f1
  replace f2 := later_cell f2
  replace f3 := later_cell f3
  replace f4 := later_cell f4
  replace f6 := later_cell f6
  refine wp_region_later (by kernel_rfl) (by kernel_rfl) ?_
  repeat (go_big_quiet_step (first
    | (go_at_call 11; exact later_of (KF.out _))
    | (go_at_call 12; exact later_same (KI.out _))
    | (go_at_call 13; exact later_same (KU.out _))
    | (go_at_call 14; exact later_same (KG.out _))
    | (go_at_call 15; exact later_of (KR.out _))))
  refine wpQuiet_nil ?_
  rintro _ ⟨⟨w4, hb4⟩, rfl⟩
  go_wp2
  go_ret
  exact ⟨rfl, below2 (below2 hb1 bW) hb4⟩
end Go.Proofs.Ytlijffjfaggkoaa.Cs
