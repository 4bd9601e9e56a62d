/- What every law of layer 1 asks first. -/
import Derived.Test.YtpimfoejlfmimaaFlag
import Derived.OpenShut
namespace Go.Proofs.Ytpimfoejlfmimaa.Cs
open Go.RowKit

theorem add_alive (w : World) :
    Calls Try.prog 23 #[.int .u32 127, .int .u32 1, .bool false, .int .i64 1] w fun e w' => e = .returned (.tuple #[.int .u32 128, .agg #[.bool true, .bool false, .bool true, .bool false]]) ∧ Below w.heap.size w w' :=
  (add_any 127 1 1 false (.inl rfl) ⟨by omega, by omega⟩ ⟨by omega, by omega⟩ w).mono fun _ _ h => ⟨h.1.trans rfl, h.2⟩

set_option maxHeartbeats 400000 in
theorem alive_any (w : World) :
    Calls Try.prog 10 #[] w fun e w' => e = .returned (.bool true) ∧ Below w.heap.size w w' := by
  go_enter Try.func10, Try.ntmps10
  go_wp2_with fail
  refine (add_alive _).mono ?_
  rintro e w1 ⟨rfl, hb1⟩
  go_wp2
  go_ret
  exact ⟨rfl, hb1.alloc hb1.size _⟩
theorem U_of {x : Int} (h : (Lit.int .u32 x).wf = true) : U x := by
  have := bounds_u32 h
  exact ⟨by omega, by omega⟩

theorem below2 {w w1 w2 : World} (h : Below w.heap.size w w1) (k : Below w1.heap.size w1 w2) : Below w.heap.size w w2 := h.trans (k.mono h.size)
theorem below3 {w w1 w2 : World} {o : Obj} (h : Below w.heap.size w w1) (k : Below (w1.alloc o).heap.size (w1.alloc o) w2) : Below w.heap.size w w2 := below2 (h.alloc h.size o) k

end Go.Proofs.Ytpimfoejlfmimaa.Cs
