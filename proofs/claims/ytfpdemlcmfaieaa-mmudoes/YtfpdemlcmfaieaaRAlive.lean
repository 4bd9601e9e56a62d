/- What every law of layer 2 asks first. -/
import Derived.Test.YtfpdemlcmfaieaaRam4
namespace Go.Proofs.Ytfpdemlcmfaieaa.Rm
open Go.RowKit

theorem bel_trans {w w1 w2 : World} (h : Below w.heap.size w w1) (k : Below w1.heap.size w1 w2) : Below w.heap.size w w2 := h.trans (k.mono h.size)

theorem a_get (g r : Nat) (w : World) (h : Mem w g r [0, 0, 0, 0]) :
    Calls Try.prog 35 #[.pointer (some ⟨g, 0, none⟩), .int .u32 0, .int .i64 2] w fun e w' => e = .returned (.tuple #[.int .u32 0, .int .i64 0]) ∧ w = w' :=
  get_ok g r [0, 0, 0, 0] 0 2 w h (by omega) (by simp)
theorem a_put (g r : Nat) (w : World) (h : Mem w g r [0, 0, 0, 0]) :
    Calls Try.prog 33 #[.pointer (some ⟨g, 0, none⟩), .int .u32 0, .int .u32 258, .int .i64 2] w fun e w' => e = .returned (.int .i64 0) ∧ Mem w' g r [2, 1, 0, 0] ∧ w.grownBy w' (some r) :=
  put_ok g r [0, 0, 0, 0] 0 2 258 w h (by omega) (by simp)
theorem a_bytes (g r : Nat) (w : World) (h : Mem w g r [2, 1, 0, 0]) :
    Calls Try.prog 30 #[.pointer (some ⟨g, 0, none⟩), .int .u32 0, .int .i64 2] w (NewBytes w [2, 1]) :=
  bytes_ok g r [2, 1, 0, 0] 0 2 w h (by simp)

end Go.Proofs.Ytfpdemlcmfaieaa.Rm
