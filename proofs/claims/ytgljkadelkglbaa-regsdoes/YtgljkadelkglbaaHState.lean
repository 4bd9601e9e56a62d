/- A state that comes in. -/
import Derived.Test.YtgljkadelkglbaaHMem
import Derived.OpenShut
import Derived.ChangeSame
namespace Go.Proofs.Ytgljkadelkglbaa.Cs
open Go.RowKit Go.ChangeShapes Go.WideShapes Ps Tl

theorem cells_arr : Try.prog.cellsOf 24 = 16 := by kernel_rfl
theorem cells_u32 : Try.prog.cellsOf 23 = 1 := by kernel_rfl
theorem cells_int : Try.prog.cellsOf 3 = 1 := by kernel_rfl
theorem cells_tab : Try.prog.cellsOf 26 = 5 := by kernel_rfl
theorem cells_st : Try.prog.cellsOf 28 = 26 := by kernel_rfl

section
variable {H : Type} {enc : TypeId × Value → H} {w : World} {base : Nat} {spare : Nat → Bool} {held : Bool} {fuel : Nat} {cs : List Value} {x : DataW H × List MemPlace}
theorem U_of' {a : Int} (h : (Lit.int .u32 a).wf = true) : U a := by have := bounds_u32 h; exact ⟨by omega, by omega⟩
def num (v : Value) : Int := match v with | .int _ a => a | _ => 0
theorem ints_of (h : DataW.trod enc Try.prog w base spare held fuel 24 cs = some x) : ∃ rs, cs = c1 rs ∧ rs.length = 16 ∧ ∀ i, U (rs.getD i 0) := by
  obtain ⟨xs, m, _, _, hl, hxl, hf⟩ := DataW.trod_array Try.underlying24 h
  rw [cells_arr] at hl
  have key : ∀ i, i < 16 → ∃ a, cs[i]? = some (.int .u32 a) ∧ U a := fun i hi => by
    have g := hf i hi
    rw [cells_u32, Nat.mul_one, List.getElem?_eq_getElem (by omega)] at g
    obtain ⟨a, e, _, hw⟩ := DataW.trod_int Try.underlying23 g
    refine ⟨a, ?_, U_of' hw⟩
    have : ((cs.drop i).take 1)[0]? = some (.int .u32 a) := by rw [e]; rfl
    simpa using this
  refine ⟨cs.map num, ?_, by simp [hl], fun i => ?_⟩
  · apply List.ext_getElem?
    intro i
    by_cases hi : i < 16
    · obtain ⟨a, ha, _⟩ := key i hi
      simp [c1, ha, num]
    · rw [List.getElem?_eq_none (by omega), List.getElem?_eq_none (by simp [c1]; omega)]
  · by_cases hi : i < 16
    · obtain ⟨a, ha, hu⟩ := key i hi
      simp only [List.getD, List.getElem?_map, ha, Option.map_some, Option.getD_some, num]
      exact hu
    · simp only [List.getD, List.getElem?_map, List.getElem?_eq_none (show cs.length ≤ i by omega), Option.map_none, Option.getD_none]
      exact ⟨by omega, by omega⟩
set_option maxRecDepth 100000 in
theorem state_cells (h : DataW.trod enc Try.prog w base spare held fuel 28 cs = some x) : ∃ (e : Re) (y : Xs), cs = e.cells y.l ∧ e.Ok := by
  obtain ⟨ys, n', _, _, hl, hyl, hf⟩ := DataW.trod_struct Try.underlying28 h
  rw [cells_st] at hl
  match cs, hl, ys, hyl with
  | [v0, v1, v2, v3, v4, v5, v6, v7, v8, v9, v10, v11, v12, v13, v14, v15, v16, v17, v18, v19, v20, v21, v22, v23, v24, v25], _, [y0, y1, y2, y3, y4, y5, y6], _ =>
    have g0 := hf 0 _ rfl
    have g1 := hf 1 _ rfl
    have g2 := hf 2 _ rfl
    have g3 := hf 3 _ rfl
    have g4 := hf 4 _ rfl
    have g5 := hf 5 _ rfl
    have g6 := hf 6 _ rfl
    simp [cells_arr, cells_u32, cells_int, cells_tab] at g0 g1 g2 g3 g4 g5 g6
    obtain ⟨rs, er, hrl, hru⟩ := ints_of g0
    obtain ⟨p, e1, _, h1⟩ := DataW.trod_int Try.underlying23 g1
    obtain ⟨k, e2, _, h2⟩ := DataW.trod_int Try.underlying23 g2
    obtain ⟨u, e3, _, h3⟩ := DataW.trod_int Try.underlying23 g3
    obtain ⟨a5, e5, _, _⟩ := DataW.trod_int Try.underlying23 g5
    obtain ⟨a6, e6, _, _⟩ := DataW.trod_int Try.underlying3 g6
    obtain ⟨zs, n2, _, _, _, hzl, hf4⟩ := DataW.trod_struct Try.underlying26 g4
    match zs, hzl with
    | [z0, z1, z2, z3, z4], _ =>
      have i0 := hf4 0 _ rfl
      have i1 := hf4 1 _ rfl
      have i2 := hf4 2 _ rfl
      have i3 := hf4 3 _ rfl
      have i4 := hf4 4 _ rfl
      simp [cells_u32] at i0 i1 i2 i3 i4
      obtain ⟨b0, d0, _, _⟩ := DataW.trod_int Try.underlying23 i0
      obtain ⟨b1, d1, _, _⟩ := DataW.trod_int Try.underlying23 i1
      obtain ⟨b2, d2, _, _⟩ := DataW.trod_int Try.underlying23 i2
      obtain ⟨b3, d3, _, _⟩ := DataW.trod_int Try.underlying23 i3
      obtain ⟨b4, d4, _, _⟩ := DataW.trod_int Try.underlying23 i4
      simp at e1 e2 e3 e5 e6 d0 d1 d2 d3 d4
      subst e1 e2 e3 e5 e6 d0 d1 d2 d3 d4
      refine ⟨⟨rs, p, k, u⟩, ⟨b0, b1, b2, b3, b4, a5, a6⟩, ?_, ⟨hrl, hru, U_of' h1, U_of' h2, U_of' h3⟩⟩
      unfold Re.cells
      rw [← er]
      rfl
end
/-- a state: its numbers, and what else it holds -/
structure Sx where
  e : Re
  x : Xs
def Sx.Ok (t : Sx) : Prop := t.e.Ok
theorem state_of {H : Type} {enc : TypeId × Value → H} {w : World} {base b0 : Nat} {r : Reach} {spare : Nat → Bool} {held : Bool} {v : Value} {d : DataW H} {ps : List MemPlace}
    (hval : Value.okWide Try.prog w r b0 28 v) (hd : DataW.Trod enc Try.prog w base spare held 28 v d ps) : ∃ t : Sx, v = sv t.e t.x ∧ t.Ok := by
  obtain ⟨cs, rfl, _⟩ := okWide_struct Try.underlying28 hval
  obtain ⟨fuel, hf⟩ := hd
  obtain ⟨e, y, he, ho⟩ := state_cells hf
  refine ⟨⟨e, y⟩, ?_, ho⟩
  unfold sv
  rw [← he]; rfl
end Go.Proofs.Ytgljkadelkglbaa.Cs
