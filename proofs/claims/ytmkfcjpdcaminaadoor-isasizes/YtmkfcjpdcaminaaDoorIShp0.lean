/- Shapes of instructions as values. -/
import Derived.Test.YtmkfcjpdcaminaaDoorIIsa1
namespace Go.Proofs.YtmkfcjpdcaminaaDoor.Cs
open Go.RowKit

/-- A shape as a value. -/
abbrev shv (s : Int × Int × List UInt8) : Value := .agg #[.int .i64 s.1, .int .i64 s.2.1, .string (sb s.2.2)]
def ShE (w : World) (s : Int × Int × List UInt8) (e : Ending) (w' : World) : Prop := e = .returned (shv s) ∧ Below w.heap.size w w'
/-- A family's shapes, the size an x. -/
def fms : List (Int × Int × List UInt8) := [(14, 6, [114, 120, 109, 120]), (15, 6, [114, 120, 114, 120, 119, 120]), (14, 7, [114, 120, 109, 120]), (15, 7, [114, 120, 114, 120, 119, 120]), (14, 10, [114, 120, 109, 120]), (15, 10, [114, 120, 114, 120, 119, 120]), (14, 11, [114, 120, 109, 120]), (15, 11, [114, 120, 114, 120, 119, 120]), (14, 12, [114, 120, 109, 120]), (15, 12, [114, 120, 114, 120, 119, 120]), (14, 13, [114, 120, 109, 120]), (15, 13, [114, 120, 114, 120, 119, 120]), (14, 14, [114, 120, 109, 120]), (15, 14, [114, 120, 114, 120, 119, 120]), (12, 3, [114, 120, 119, 120]), (0, 0, []), (12, 1, [114, 120, 119, 120]), (17, 16, [114, 120, 114, 120]), (12, 2, [114, 120, 119, 120]), (17, 15, [114, 120, 114, 120]), (13, 18, [119, 120]), (16, 17, [114, 120]), (13, 4, [109, 120]), (13, 5, [109, 120])]
theorem al1 (w : World) (o : Obj) : Below w.heap.size w (w.alloc o) := (Below.refl _ _).alloc (Nat.le_refl _) _

end Go.Proofs.YtmkfcjpdcaminaaDoor.Cs
