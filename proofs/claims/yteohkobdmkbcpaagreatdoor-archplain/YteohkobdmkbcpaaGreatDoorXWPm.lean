/- ArchPlain: its parameters as they come in. -/
import Derived.Test.YteohkobdmkbcpaaGreatDoorXWPl
import Derived.Test.YteohkobdmkbcpaaGreatDoorXSt0
namespace Go.Proofs.YteohkobdmkbcpaaGreatDoor.Cs
open Go.RowKit
set_option linter.unusedVariables false
set_option linter.unusedSimpArgs false

structure T3 where
  a : Int
  b : Int
  c : Int
def T3.val (t : T3) : Value := .agg #[.int .i64 t.a, .int .i64 t.b, .int .i64 t.c]
set_option maxRecDepth 100000 in
theorem three_of' {H : Type} {enc : TypeId × Value → H} {w : World} {base b0 : Nat} {r : Reach} {spare : Nat → Bool} {held : Bool} {v : Value} {d : DataW H} {ps : List MemPlace}
    (hval : Value.okWide Tryz.prog w r b0 60 v) (hd : DataW.Trod enc Tryz.prog w base spare held 60 v d ps) : ∃ t : T3, v = t.val := by
  obtain ⟨a, b, c, e⟩ := three_of hval hd
  exact ⟨⟨a, b, c⟩, e⟩
set_option maxRecDepth 100000 in
theorem of_laid_p {W : World} (h : laidMetH Tryz.prog Rows.archPlainRow.laid W) (hs : W.ShapedOpen Tryz.prog) : 7 ≤ W.heap.size ∧ Tl.Ia.Gl W := by
  rw [show Rows.archPlainRow.laid = Rows.archLevelsRow.laid from rfl] at h
  exact of_laid h hs
theorem plain_law (s : Sx') (low size : Int) (t : T3) (W : World) (hs : s.Ok) (h1 : (Lit.int .i64 low).wf = true) (h2 : (Lit.int .i64 size).wf = true) (hT : 7 ≤ W.heap.size ∧ Tl.Ia.Gl W) :
    Calls Tryz.prog 8 #[Hr.sv s.e s.x, .int .i64 low, .int .i64 size, t.val] W fun e w' => e = .returned (.bool true) ∧ Below W.heap.size W w' := by
  obtain ⟨⟨rs, p, k, u⟩, ⟨a0, a1, a2, a3, a4, a5, a6⟩⟩ := s
  exact plain_walk rs p k u a0 a1 a2 a3 a4 a5 a6 low size t.a t.b t.c W hs.1 ⟨hs.2.a0, hs.2.a1, hs.2.a2, hs.2.a3, hs.2.a5⟩ hT
end Go.Proofs.YteohkobdmkbcpaaGreatDoor.Cs
