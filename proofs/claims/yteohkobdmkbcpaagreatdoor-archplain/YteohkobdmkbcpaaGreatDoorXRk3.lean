/- Contract: the ways of reckon, of three operands. -/
import Derived.Test.YteohkobdmkbcpaaGreatDoorXRek3
import Derived.Test.YteohkobdmkbcpaaGreatDoorXRk2
namespace Go.Proofs.YteohkobdmkbcpaaGreatDoor.Cs
open Go.RowKit
set_option linter.unusedVariables false
set_option linter.unusedSimpArgs false

theorem rek3_way (q : Tl.Ia.Oq → Prop) (hq : ∀ o, q o → o.ops.length = 3) : Way 109 fRek q := by
  intro w0 a S0 c w d D h hd hqD hf
  have hn : D.l.length = 3 := hf.1.trans (hq _ hqD)
  have oa := (hf.2 0 (by omega)).1
  have ob := (hf.2 1 (by omega)).1
  have ol := (hf.2 2 (by omega)).1
  exact reckon_3 w0 a S0 c w d D h hd hn _ _ _ _ _ _ _ _ _ _ _ _ D.op.cls D.op.alu rfl rfl rfl oa rfl ob rfl ol
theorem rek3_do (q : Tl.Ia.Oq → Prop) (k : Nat) (hk : k = 11 ∨ k = 12 ∨ k = 13 ∨ k = 14 ∨ k = 15 ∨ k = 16) (hqk : ∀ o, q o → o.cls = (k + 1 : Nat)) (hq : ∀ o, q o → o.ops.length = 3) : Way 63 fRek q := by
  have hcf : ∀ xs W, Sem.run Tryz.prog (callFunc 109 xs) W = .ok (.enter 109 xs) W := fun xs W => by kernel_rfl
  refine do_wayq q fRek k 109 hqk (by omega) ?_ hcf (rek3_way q hq)
  rcases hk with rfl | rfl | rfl | rfl | rfl | rfl <;> rfl

end Go.Proofs.YteohkobdmkbcpaaGreatDoor.Cs
