/- What every law of layer 1 asks first. -/
import Derived.Test.YtpimfoejlfmimaaFlag
namespace Go.Proofs.Ytpimfoejlfmimaa.Cs
open Go.RowKit

theorem add_alive (w : World) :
    Calls Try.prog 23 #[.int .u32 127, .int .u32 1, .bool false, .int .i64 1] w fun e w' => e = .returned (.tuple #[.int .u32 128, .agg #[.bool true, .bool false, .bool true, .bool false]]) ∧ Below w.heap.size w w' :=
  (add_any 127 1 1 false (.inl rfl) ⟨by omega, by omega⟩ ⟨by omega, by omega⟩ w).mono fun _ _ h => ⟨h.1.trans rfl, h.2⟩

set_option maxHeartbeats 400000 in
theorem alive_any (w : World) :
    Calls Try.prog 10 #[] w fun e w' => e = .returned (.bool true) ∧ Below w.heap.size w w' := by
  go_enter Try.func10, Try.ntmps10
  go_wp2_with fail
  refine (add_alive _).mono ?_
  rintro e w1 ⟨rfl, hb1⟩
  go_wp2
  go_ret
  exact ⟨rfl, hb1.alloc hb1.size _⟩
end Go.Proofs.Ytpimfoejlfmimaa.Cs
