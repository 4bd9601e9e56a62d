/- What every law of layer 9 asks first. -/
import Derived.Test.YtfhhlieacmkheaaSFld
import Derived.OpenShut
namespace Go.Proofs.Ytfhhlieacmkheaa.Cs
open Go.RowKit

theorem ash_alive (w : World) :
    Calls Try.prog 10 #[.int .u8 1, .int .u32 1073741824] w fun e w' => e = .returned (.tuple #[.int .u32 2147483648, .agg #[.bool true, .bool false, .bool true, .bool false]]) ∧ Below w.heap.size w w' :=
  (ash_any 1 1073741824 ⟨by omega, by omega⟩ w).mono fun _ _ h => ⟨h.1.trans rfl, h.2⟩

set_option maxHeartbeats 400000 in
theorem alive9 (w : World) :
    Calls Try.prog 9 #[] w fun e w' => e = .returned (.bool true) ∧ Below w.heap.size w w' := by
  go_enter Try.func9, Try.ntmps9
  go_wp2_with fail
  refine (ash_alive _).mono ?_
  rintro e w1 ⟨rfl, hb1⟩
  go_wp2
  go_ret
  exact ⟨rfl, hb1.alloc hb1.size _⟩

theorem U_of {x : Int} (h : (Lit.int .u32 x).wf = true) : U x := by
  have := bounds_u32 h
  exact ⟨by omega, by omega⟩
theorem B_of {x : Int} (h : (Lit.int .u8 x).wf = true) : B x := by
  have := bounds_u8 h
  exact ⟨by omega, by omega⟩
theorem V_of {x : Int} (h : (Lit.int .u64 x).wf = true) : V x := by
  have := bounds_u64 h
  exact ⟨by omega, by omega⟩
theorem below3 {w w1 w2 : World} {o : Obj} (h : Below w.heap.size w w1) (k : Below (w1.alloc o).heap.size (w1.alloc o) w2) : Below w.heap.size w w2 := below2 (h.alloc h.size o) k

end Go.Proofs.Ytfhhlieacmkheaa.Cs
