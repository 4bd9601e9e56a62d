/- The walk of PslBranches. -/
import Derived.Test.YtlijffjfaggkoaaQBr
import Derived.Test.YtlijffjfaggkoaaQRef2
import Derived.Test.YtlijffjfaggkoaaQNum2
import Derived.Test.YtlijffjfaggkoaaQFlg
namespace Go.Proofs.Ytlijffjfaggkoaa.Cs
open Go.RowKit

theorem branch_as (k : Int) (n z v c b : Bool) (hb : br k n z v c = b) (w : World) :
    Calls Try.prog 26 #[.int .i64 k, .agg #[.bool n, .bool z, .bool v, .bool c]] w fun e w' => e = .returned (.bool b) ∧ Below w.heap.size w w' := hb ▸ branch_any k n z v c w

set_option maxHeartbeats 2000000 in
theorem qbranches_in (k : Int) (n z v c : Bool) (w : World) :
    Calls Try.prog 6 #[.int .i64 k, .agg #[.bool n, .bool z, .bool v, .bool c]] w fun e w' => e = .returned (.bool true) ∧ Below w.heap.size w w' := by
  have K1 := Lib.hid (branch_any k n z v c)
  have K2 := Lib.hid (rbranch_any k n z v c)
  have K3 := Lib.hid (fun h => branch_as _ n z v c false (br_both k n z v c h))
  generalize br k n z v c = b at *
  cases b
  all_goals
    go_enter Try.func6, Try.ntmps6
    go_wp2_with (first | (go_at_call 9; refine (alive_any _).mono ?_; rintro e w' ⟨rfl, rfl⟩) | fail)
    refine (K1.out _).mono ?_
    rintro e w1 ⟨rfl, hb1⟩
    have c1 := fun o => hb1.cell (p := ⟨w.heap.size, o, none⟩) (by simp)
    go_wp2_with fail
    refine (K2.out _).mono ?_
    rintro e w2 ⟨rfl, hb2⟩
    have hs := hb1.size
    have c2 := fun o => hb2.cell (p := ⟨w.heap.size, o, none⟩) (by simp at hs; simp; omega)
    have HB := Lib.hid (below2 (below2 ((Below.refl w.heap.size w).alloc (Nat.le_refl _) _) hb1) hb2)
    clear hb1 hb2 hs
    go_wp2_with fail
  · go_ret
    exact ⟨rfl, HB.out⟩
  · refine (K3.out (by trivial) _).mono ?_
    rintro e w3 ⟨rfl, hb3⟩
    go_wp2
    go_ret
    exact ⟨rfl, below2 HB.out hb3⟩
theorem qbranches_walk (k : Int) (f : Fl) (w : World) (_ : (Lit.int .i64 k).wf = true) (_ : f.Ok) :
    Calls Try.prog 6 #[.int .i64 k, .agg #[.bool f.n, .bool f.z, .bool f.v, .bool f.c]] w fun e w' => e = .returned (.bool true) ∧ Below w.heap.size w w' := qbranches_in k _ _ _ _ w
end Go.Proofs.Ytlijffjfaggkoaa.Cs
