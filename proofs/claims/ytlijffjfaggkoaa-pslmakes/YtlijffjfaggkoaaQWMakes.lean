/- The walk of PslMakes. -/
import Derived.Test.YtlijffjfaggkoaaQRef2
import Derived.Test.YtlijffjfaggkoaaQNum2
import Derived.Test.YtlijffjfaggkoaaQFlg
namespace Go.Proofs.Ytlijffjfaggkoaa.Cs
open Go.RowKit

set_option maxHeartbeats 2000000 in
theorem qmakes_in (x l : Int) (n z v c : Bool) (hx : U x) (w : World) :
    Calls Try.prog 4 #[.int .u32 x, .agg #[.bool n, .bool z, .bool v, .bool c], .int .i64 l] w fun e w' => e = .returned (.bool true) ∧ Below w.heap.size w w' := by
  have K1 := Lib.hid (codes_any n z v c)
  have K2 := Lib.hid (rcodes_any n z v c)
  have K3 := Lib.hid (with_any x n z v c hx)
  have K4 := Lib.hid (rwith_any x n z v c hx)
  have K5 := Lib.hid (at_any x l hx)
  have K6 := Lib.hid (rat_any x l hx)
  have K7 := Lib.hid (enter_any x l hx)
  have K8 := Lib.hid (renter_any x l hx)
  have K9 := Lib.hid (good_as (en x l) true (en_U x l) (en_good x l))
  clear hx
  generalize wi x (cd n z v c) = a at *
  generalize cd n z v c = b at *
  generalize la x l = d at *
  generalize en x l = q at *
  go_enter Try.func4, Try.ntmps4
  go_wp2_with (first | (go_at_call 9; refine (alive_any _).mono ?_; rintro e w' ⟨rfl, rfl⟩) | fail)
  generalize hW : w.alloc (.cells #[.bool n, .bool z, .bool v, .bool c] 25) = W
  have bW : Below w.heap.size w W := by rw [← hW]; exact (Below.refl _ _).alloc (Nat.le_refl _) _
  have f0 : W.cell? ⟨w.heap.size, 0, none⟩ = some (.bool n) := by rw [← hW]; simp [go_sem]
  have f1 : W.cell? ⟨w.heap.size, 1, none⟩ = some (.bool z) := by rw [← hW]; simp [go_sem]
  have f2 : W.cell? ⟨w.heap.size, 2, none⟩ = some (.bool v) := by rw [← hW]; simp [go_sem]
  have f3 : W.cell? ⟨w.heap.size, 3, none⟩ = some (.bool c) := by rw [← hW]; simp [go_sem]
  clear hW
  replace f0 := later_cell f0
  replace f1 := later_cell f1
  replace f2 := later_cell f2
  replace f3 := later_cell f3
  refine wp_region_later (by kernel_rfl) (by kernel_rfl) ?_
  repeat (go_big_quiet_step (first
    | (go_at_call 16; exact later_of (K1.out _))
    | (go_at_call 17; exact later_of (K2.out _))
    | (go_at_call 18; exact later_of (K3.out _))
    | (go_at_call 19; exact later_of (K4.out _))
    | (go_at_call 20; exact later_same (K5.out _))
    | (go_at_call 21; exact later_of (K6.out _))
    | (go_at_call 22; exact later_same (K7.out _))
    | (go_at_call 23; exact later_of (K8.out _))
    | (go_at_call 14; exact later_same (K9.out _))))
  refine wpQuiet_nil ?_
  rintro _ ⟨⟨w4, hb4⟩, rfl⟩
  go_wp2
  go_ret
  exact ⟨rfl, below2 bW hb4⟩

theorem qmakes_walk (x : Int) (f : Fl) (l : Int) (w : World) (hx : (Lit.int .u32 x).wf = true) (_ : f.Ok) (_ : (Lit.int .i64 l).wf = true) :
    Calls Try.prog 4 #[.int .u32 x, .agg #[.bool f.n, .bool f.z, .bool f.v, .bool f.c], .int .i64 l] w fun e w' => e = .returned (.bool true) ∧ Below w.heap.size w w' := qmakes_in x l _ _ _ _ (U_of hx) w
end Go.Proofs.Ytlijffjfaggkoaa.Cs
