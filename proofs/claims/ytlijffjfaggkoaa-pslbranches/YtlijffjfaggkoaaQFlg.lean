/- Condition codes that come in. -/
import Derived.Test.YtlijffjfaggkoaaPsl
import Derived.ChangeSame
namespace Go.Proofs.Ytlijffjfaggkoaa.Cs
open Go.RowKit Go.ChangeShapes Go.WideShapes

structure Fl where
  n : Bool
  z : Bool
  v : Bool
  c : Bool
def Fl.Ok (_ : Fl) : Prop := True

set_option maxRecDepth 100000 in
theorem flags_of {H : Type} {enc : TypeId × Value → H} {w : World} {base b0 : Nat} {r : Reach} {spare : Nat → Bool} {held : Bool} {v : Value} {d : DataW H} {ps : List MemPlace}
    (hval : Value.okWide Try.prog w r b0 25 v) (hd : DataW.Trod enc Try.prog w base spare held 25 v d ps) : ∃ t : Fl, v = .agg #[.bool t.n, .bool t.z, .bool t.v, .bool t.c] ∧ t.Ok := by
  have hc : Try.prog.cellsOf 25 = 4 := by kernel_rfl
  have hu : Try.prog.cellsOf 4 = 1 := by kernel_rfl
  obtain ⟨cs, rfl, hsz⟩ := okWide_struct Try.underlying25 hval
  obtain ⟨fuel, hf⟩ := hd
  obtain ⟨ys, n', _, _, _, hyl, hf⟩ := DataW.trod_struct Try.underlying25 hf
  rw [hc] at hsz
  obtain ⟨l⟩ := cs
  match l, hsz, ys, hyl with
  | [v0, v1, v2, v3], _, [y0, y1, y2, y3], _ =>
    have g0 := hf 0 _ rfl
    have g1 := hf 1 _ rfl
    have g2 := hf 2 _ rfl
    have g3 := hf 3 _ rfl
    simp [hu, Value.cells] at g0 g1 g2 g3
    obtain ⟨a0, e0, _⟩ := DataW.trod_bool Try.underlying4 g0
    obtain ⟨a1, e1, _⟩ := DataW.trod_bool Try.underlying4 g1
    obtain ⟨a2, e2, _⟩ := DataW.trod_bool Try.underlying4 g2
    obtain ⟨a3, e3, _⟩ := DataW.trod_bool Try.underlying4 g3
    simp at e0 e1 e2 e3
    subst e0 e1 e2 e3
    exact ⟨⟨a0, a1, a2, a3⟩, rfl, trivial⟩
end Go.Proofs.Ytlijffjfaggkoaa.Cs
