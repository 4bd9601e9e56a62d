/- A state that comes in, with what fits its other numbers; three numbers that come in; ArchPlain: its parameters. -/
import Derived.Test.YteohkobdmkbcpaaGreatDoorXMad
import Derived.OpenShut
import Derived.ChangeSame
import Derived.Test.YteohkobdmkbcpaaGreatDoorXWPl
namespace Go.Proofs.YteohkobdmkbcpaaGreatDoor.Cs
open Go.RowKit Go.ChangeShapes Go.WideShapes Ps Tl Hr
set_option linter.unusedVariables false
set_option linter.unusedSimpArgs false
set_option linter.constructorNameAsVariable false

structure Xok (x : Hr.Xs) : Prop where
  a0 : Pt.U x.a0
  a1 : Pt.U x.a1
  a2 : Pt.U x.a2
  a3 : Pt.U x.a3
  a4 : Pt.U x.a4
  a5 : Pt.U x.a5
section
variable {H : Type} {enc : TypeId × Value → H} {w : World} {base : Nat} {spare : Nat → Bool} {held : Bool} {fuel : Nat} {cs : List Value} {x : DataW H × List MemPlace}
set_option maxRecDepth 100000 in
theorem state_cells' (h : DataW.trod enc Tryz.prog w base spare held fuel 28 cs = some x) : ∃ (e : Hr.Re) (y : Hr.Xs), cs = e.cells y.l ∧ e.Ok ∧ Xok y := by
  obtain ⟨ys, n', _, _, hl, hyl, hf⟩ := DataW.trod_struct Tryz.underlying28 h
  rw [cells_st] at hl
  match cs, hl, ys, hyl with
  | [v0, v1, v2, v3, v4, v5, v6, v7, v8, v9, v10, v11, v12, v13, v14, v15, v16, v17, v18, v19, v20, v21, v22, v23, v24, v25], _, [y0, y1, y2, y3, y4, y5, y6], _ =>
    have g0 := hf 0 _ rfl
    have g1 := hf 1 _ rfl
    have g2 := hf 2 _ rfl
    have g3 := hf 3 _ rfl
    have g4 := hf 4 _ rfl
    have g5 := hf 5 _ rfl
    have g6 := hf 6 _ rfl
    simp [cells_arr, cells_u32, cells_int, cells_tab] at g0 g1 g2 g3 g4 g5 g6
    obtain ⟨rs, er, hrl, hru⟩ := ints_of g0
    obtain ⟨p, e1, _, h1⟩ := DataW.trod_int Tryz.underlying23 g1
    obtain ⟨k, e2, _, h2⟩ := DataW.trod_int Tryz.underlying23 g2
    obtain ⟨u, e3, _, h3⟩ := DataW.trod_int Tryz.underlying23 g3
    obtain ⟨a5, e5, _, h5⟩ := DataW.trod_int Tryz.underlying23 g5
    obtain ⟨a6, e6, _, _⟩ := DataW.trod_int Tryz.underlying3 g6
    obtain ⟨zs, n2, _, _, _, hzl, hf4⟩ := DataW.trod_struct Tryz.underlying26 g4
    match zs, hzl with
    | [z0, z1, z2, z3, z4], _ =>
      have i0 := hf4 0 _ rfl
      have i1 := hf4 1 _ rfl
      have i2 := hf4 2 _ rfl
      have i3 := hf4 3 _ rfl
      have i4 := hf4 4 _ rfl
      simp [cells_u32] at i0 i1 i2 i3 i4
      obtain ⟨b0, d0, _, k0⟩ := DataW.trod_int Tryz.underlying23 i0
      obtain ⟨b1, d1, _, k1⟩ := DataW.trod_int Tryz.underlying23 i1
      obtain ⟨b2, d2, _, k2⟩ := DataW.trod_int Tryz.underlying23 i2
      obtain ⟨b3, d3, _, k3⟩ := DataW.trod_int Tryz.underlying23 i3
      obtain ⟨b4, d4, _, k4⟩ := DataW.trod_int Tryz.underlying23 i4
      simp at e1 e2 e3 e5 e6 d0 d1 d2 d3 d4
      subst e1 e2 e3 e5 e6 d0 d1 d2 d3 d4
      refine ⟨⟨rs, p, k, u⟩, ⟨b0, b1, b2, b3, b4, a5, a6⟩, ?_, ⟨hrl, hru, U_of' h1, U_of' h2, U_of' h3⟩, ⟨U_of' k0, U_of' k1, U_of' k2, U_of' k3, U_of' k4, U_of' h5⟩⟩
      unfold Hr.Re.cells
      rw [← er]
      rfl
end
structure Sx' where
  e : Hr.Re
  x : Hr.Xs
def Sx'.Ok (t : Sx') : Prop := t.e.Ok ∧ Xok t.x
set_option maxRecDepth 100000 in
theorem state_of' {H : Type} {enc : TypeId × Value → H} {w : World} {base b0 : Nat} {r : Reach} {spare : Nat → Bool} {held : Bool} {v : Value} {d : DataW H} {ps : List MemPlace}
    (hval : Value.okWide Tryz.prog w r b0 28 v) (hd : DataW.Trod enc Tryz.prog w base spare held 28 v d ps) : ∃ t : Sx', v = Hr.sv t.e t.x ∧ t.Ok := by
  obtain ⟨cs, rfl, _⟩ := okWide_struct Tryz.underlying28 hval
  obtain ⟨fuel, hf⟩ := hd
  obtain ⟨e, y, he, ho⟩ := state_cells' hf
  refine ⟨⟨e, y⟩, ?_, ho⟩
  unfold Hr.sv
  rw [← he]; rfl
theorem cells_i64 : Tryz.prog.cellsOf 3 = 1 := by kernel_rfl
theorem cells_a3 : Tryz.prog.cellsOf 60 = 3 := by kernel_rfl
theorem okWide_arr {P : Program} {w : World} {r : Reach} {base n : Nat} {t u : TypeId} {v : Value} (ht : P.underlying t = some (.array n u)) (h : Value.okWide P w r base t v) : ∃ cs, v = .agg cs ∧ cs.size = P.cellsOf t := by
  simp only [Value.okWide, ht] at h
  obtain ⟨cs, h1, h2, _⟩ := h
  exact ⟨cs, h1, h2⟩
set_option maxRecDepth 100000 in
theorem three_of {H : Type} {enc : TypeId × Value → H} {w : World} {base b0 : Nat} {r : Reach} {spare : Nat → Bool} {held : Bool} {v : Value} {d : DataW H} {ps : List MemPlace}
    (hval : Value.okWide Tryz.prog w r b0 60 v) (hd : DataW.Trod enc Tryz.prog w base spare held 60 v d ps) : ∃ a b c : Int, v = .agg #[.int .i64 a, .int .i64 b, .int .i64 c] := by
  obtain ⟨cs, rfl, hz⟩ := okWide_arr Tryz.underlying60 hval
  obtain ⟨fuel, hf⟩ := hd
  rw [cells_a3] at hz
  obtain ⟨l⟩ := cs
  match l, hz with
  | [v0, v1, v2], _ =>
    cases fuel with
    | zero => simp [DataW.trod] at hf
    | succ n =>
    obtain ⟨xs, m, _, _, hl, hxl, hf⟩ := DataW.trod_array Tryz.underlying60 hf
    have g0 := hf 0 (by decide)
    have g1 := hf 1 (by decide)
    have g2 := hf 2 (by decide)
    simp [cells_i64, Value.cells] at g0 g1 g2
    rw [List.getElem?_eq_getElem (by omega)] at g0 g1 g2
    obtain ⟨a, e0, _, _⟩ := DataW.trod_int Tryz.underlying3 g0
    obtain ⟨b, e1, _, _⟩ := DataW.trod_int Tryz.underlying3 g1
    obtain ⟨c, e2, _, _⟩ := DataW.trod_int Tryz.underlying3 g2
    simp at e0 e1 e2
    exact ⟨a, b, c, by rw [e0, e1, e2]⟩
end Go.Proofs.YteohkobdmkbcpaaGreatDoor.Cs

namespace Go.Proofs.YteohkobdmkbcpaaGreatDoor.Cs
open Go.RowKit
set_option linter.unusedVariables false
set_option linter.unusedSimpArgs false

structure T3 where
  a : Int
  b : Int
  c : Int
def T3.val (t : T3) : Value := .agg #[.int .i64 t.a, .int .i64 t.b, .int .i64 t.c]
set_option maxRecDepth 100000 in
theorem three_of' {H : Type} {enc : TypeId × Value → H} {w : World} {base b0 : Nat} {r : Reach} {spare : Nat → Bool} {held : Bool} {v : Value} {d : DataW H} {ps : List MemPlace}
    (hval : Value.okWide Tryz.prog w r b0 60 v) (hd : DataW.Trod enc Tryz.prog w base spare held 60 v d ps) : ∃ t : T3, v = t.val := by
  obtain ⟨a, b, c, e⟩ := three_of hval hd
  exact ⟨⟨a, b, c⟩, e⟩
set_option maxRecDepth 100000 in
theorem of_laid_p {W : World} (h : laidMetH Tryz.prog Rows.archPlainRow.laid W) (hs : W.ShapedOpen Tryz.prog) : 7 ≤ W.heap.size ∧ Tl.Ia.Gl W := by
  rw [show Rows.archPlainRow.laid = Rows.archLevelsRow.laid from rfl] at h
  exact of_laid h hs
theorem plain_law (s : Sx') (low size : Int) (t : T3) (W : World) (hs : s.Ok) (h1 : (Lit.int .i64 low).wf = true) (h2 : (Lit.int .i64 size).wf = true) (hT : 7 ≤ W.heap.size ∧ Tl.Ia.Gl W) :
    Calls Tryz.prog 8 #[Hr.sv s.e s.x, .int .i64 low, .int .i64 size, t.val] W fun e w' => e = .returned (.bool true) ∧ Below W.heap.size W w' := by
  obtain ⟨⟨rs, p, k, u⟩, ⟨a0, a1, a2, a3, a4, a5, a6⟩⟩ := s
  exact plain_walk rs p k u a0 a1 a2 a3 a4 a5 a6 low size t.a t.b t.c W hs.1 ⟨hs.2.a0, hs.2.a1, hs.2.a2, hs.2.a3, hs.2.a5⟩ hT
end Go.Proofs.YteohkobdmkbcpaaGreatDoor.Cs
