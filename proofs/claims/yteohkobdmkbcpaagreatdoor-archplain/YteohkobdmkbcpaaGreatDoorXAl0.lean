/- Two steps of a machine, as numbers. -/
import Derived.Test.YteohkobdmkbcpaaGreatDoorXRk2
import Derived.Test.YteohkobdmkbcpaaGreatDoorXMad
namespace Go.Proofs.YteohkobdmkbcpaaGreatDoor.Cs
open Go.RowKit
set_option linter.unusedVariables false
set_option linter.unusedSimpArgs false

def al0 : Mc := ⟨Hr.Re.nul, Mm.noTabs, 0, 0, [208, 5, 81, 0]⟩
def al1 : Mc := ⟨⟨[0, 5, 0, 0, 0, 0, 0, 0, 0, 0, 0, 0, 0, 0, 0, 3], 0, 0, 0⟩, Mm.noTabs, 0, 0, [208, 5, 81, 0]⟩
def al2 : Mc := ⟨⟨[0, 5, 0, 0, 0, 0, 0, 0, 0, 0, 0, 0, 0, 0, 0, 4], 0, 0, 0⟩, Mm.noTabs, 0, 1, [208, 5, 81, 0]⟩
def fStd (c : Mc) (D : Dg) : Option Rz × Mc := c.std
theorem al0_inst : al0.inst fRek fRek = (none, al1) := by kernel_rfl
theorem al1_inst : al1.inst fStd fStd = (none, al2) := by kernel_rfl
theorem al0_fet : al0.fet.1 = 208 := by kernel_rfl
theorem al0_fp : al0.fet.2.2.fp = false := by kernel_rfl
theorem al1_fet : al1.fet.1 = 0 := by kernel_rfl
theorem al1_fp : al1.fet.2.2.fp = false := by kernel_rfl
theorem std_do (q : Tl.Ia.Oq → Prop) (hqk : ∀ o, q o → o.cls = (0 + 1 : Nat)) : Way 63 fStd q := by
  have hcf : ∀ xs W, Sem.run Tryz.prog (callFunc 93 xs) W = .ok (.enter 93 xs) W := fun xs W => by kernel_rfl
  refine do_wayq q fStd 0 93 hqk (by omega) rfl hcf ?_
  intro w0 a S0 c w d D h hd hq hf
  exact stand_way w0 a S0 c w d D h hd trivial hf
section
variable {w0 : World} {a : Ad} {S0 : Nat → Prop}
theorem al0_step (w : World) (h : Ch w0 a S0 al0 w) : Calls Tryz.prog 13 #[.pointer (some ⟨a.g, 0, none⟩), .int .u32 0] w fun e w' => e = .returned (.tuple #[.int .i64 0, .int .i64 0]) ∧ Ch w0 a S0 al1 w' ∧ Mv a w w' := by
  refine step_run fRek fRek w h 0 (by simp [U, Pt.U]) rfl (by kernel_rfl) al1 al0_inst ?_ ?_
  · intro x c' hx h1 h2
    have e : x = 208 := by rw [← al0_fet, hx]
    subst e
    exact rek2_do _ 11 (.inl rfl) (fun o ho => by rw [ho]; kernel_rfl) (fun o ho => by rw [ho]; kernel_rfl)
  · intro x c' hx h1 h2
    have e := al0_fp
    rw [hx] at e
    rw [show c'.fp = false from e] at h2
    exact absurd h2 (by decide)
theorem al1_step (w : World) (h : Ch w0 a S0 al1 w) : Calls Tryz.prog 13 #[.pointer (some ⟨a.g, 0, none⟩), .int .u32 0] w fun e w' => e = .returned (.tuple #[.int .i64 0, .int .i64 0]) ∧ Ch w0 a S0 al2 w' ∧ Mv a w w' := by
  refine step_run fStd fStd w h 0 (by simp [U, Pt.U]) rfl (by kernel_rfl) al2 al1_inst ?_ ?_
  · intro x c' hx h1 h2
    have e : x = 0 := by rw [← al1_fet, hx]
    subst e
    exact std_do _ (fun o ho => by rw [ho]; kernel_rfl)
  · intro x c' hx h1 h2
    have e := al1_fp
    rw [hx] at e
    rw [show c'.fp = false from e] at h2
    exact absurd h2 (by decide)
end

end Go.Proofs.YteohkobdmkbcpaaGreatDoor.Cs
