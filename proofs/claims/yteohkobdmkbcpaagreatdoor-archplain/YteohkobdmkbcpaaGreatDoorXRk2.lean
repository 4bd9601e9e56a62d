/- Contract: the ways of reckon, of two operands. -/
import Derived.Test.YteohkobdmkbcpaaGreatDoorXRek
import Derived.Test.YteohkobdmkbcpaaGreatDoorXDis2
namespace Go.Proofs.YteohkobdmkbcpaaGreatDoor.Cs
open Go.RowKit
set_option linter.unusedVariables false
set_option linter.unusedSimpArgs false

/-- What reckon does. -/
def fRek (c : Mc) (D : Dg) : Option Rz × Mc := c.rek D.op.cls D.op.alu D.l
theorem rek2_way (q : Tl.Ia.Oq → Prop) (hq : ∀ o, q o → o.ops.length = 2) : Way 109 fRek q := by
  intro w0 a S0 c w d D h hd hqD hf
  have hn : D.l.length = 2 := hf.1.trans (hq _ hqD)
  have oa := (hf.2 0 (by omega)).1
  have ob := (hf.2 1 (by omega)).1
  exact reckon_2 w0 a S0 c w d D h hd hn _ _ _ _ _ _ _ _ D.op.cls D.op.alu rfl rfl rfl oa rfl ob
theorem rek2_do (q : Tl.Ia.Oq → Prop) (k : Nat) (hk : k = 11 ∨ k = 12 ∨ k = 13 ∨ k = 14 ∨ k = 15 ∨ k = 16) (hqk : ∀ o, q o → o.cls = (k + 1 : Nat)) (hq : ∀ o, q o → o.ops.length = 2) : Way 63 fRek q := by
  have hcf : ∀ xs W, Sem.run Tryz.prog (callFunc 109 xs) W = .ok (.enter 109 xs) W := fun xs W => by kernel_rfl
  refine do_wayq q fRek k 109 hqk (by omega) ?_ hcf (rek2_way q hq)
  rcases hk with rfl | rfl | rfl | rfl | rfl | rfl <;> rfl

end Go.Proofs.YteohkobdmkbcpaaGreatDoor.Cs
