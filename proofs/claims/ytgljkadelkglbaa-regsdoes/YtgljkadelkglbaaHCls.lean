/- A slice of calls that came in; a call in a variable of the call's own. -/
import Derived.Test.YtgljkadelkglbaaHLaw
import Derived.Deep.Slices
namespace Go.Proofs.Ytgljkadelkglbaa.Cs
open Go.RowKit Go.ChangeShapes Go.WideShapes Ps Tl

/-- one call -/
structure Cl where
  K : Int
  N : Int
  X : Int
  Z : Int
  V : Bool
  s : Re
  y : Xs
def Cl.cells (c : Cl) : List Value := .int .i64 c.K :: .int .i64 c.N :: .int .u32 c.X :: .int .i64 c.Z :: .bool c.V :: c.s.cells c.y.l
structure Cl.Ok (c : Cl) : Prop where
  x : U c.X
  s : c.s.Ok
theorem Cl.length {c : Cl} (h : c.Ok) : c.cells.length = 31 := by
  simp only [Cl.cells, List.length_cons, Re.length h.s]; rfl
theorem Cl.one (c : Cl) : ∀ v ∈ c.cells, v.oneCell' = true := by
  intro v hv
  simp only [Cl.cells, List.mem_cons] at hv
  rcases hv with rfl | rfl | rfl | rfl | rfl | hv
  · rfl
  · rfl
  · rfl
  · rfl
  · rfl
  · exact one_cells c.y.one v hv
def Cls (w : World) (A : Option Addr) (n _c : Nat) : Prop := n < 2 ^ 63 ∧ ∀ k, k < n → ∃ (ad : Addr) (c : Cl), A = some ad ∧ c.Ok ∧ ad.block < w.heap.size ∧ ∀ j v, c.cells[j]? = some v → w.cell? ((ad.add (k * 31)).add j) = some v

theorem call_cellsOf : Try.prog.cellsOf 38 = 31 := by kernel_rfl
theorem cells_bool : Try.prog.cellsOf 4 = 1 := by kernel_rfl
theorem addr_block (a : Addr) (n : Nat) : (a.add n).block = a.block := by unfold Addr.add; split <;> rfl

set_option maxRecDepth 100000 in
theorem calls_of {H : Type} {enc : TypeId × Value → H} {w : World} {base : Nat} {held : Bool} {fuel : Nat} {A : Option Addr} {len cap : Nat} {x : DataW H × List MemPlace}
    (h : DataW.trod enc Try.prog w base (fun _ => true) held fuel 22 [.slice A len cap] = some x) : Cls w A len cap := by
  have hbig : len < 2 ^ 63 := by
    rcases Deep.open_slice Try.underlying22 h with ⟨hcs, _⟩ | ⟨ad, l, c, m, n, D, Pl, hcs, _, hl, hm, _⟩
    · simp at hcs
      omega
    · simp at hcs
      unfold maxLen at hm
      omega
  refine ⟨hbig, ?_⟩
  intro k hk
  rcases Deep.open_slice Try.underlying22 h with ⟨hcs, _⟩ | ⟨ad, l, c, m, n, D, Pl, hcs, _, hl, _, hmm, _, hi⟩
  · simp at hcs
    omega
  · simp at hcs
    obtain ⟨rfl, rfl, rfl⟩ := hcs
    have hkm : k < m := by rw [hmm]; split <;> omega
    obtain ⟨cs, hc, ht⟩ := hi k hkm
    rw [call_cellsOf] at hc
    obtain ⟨_, hlen, hat⟩ := World.cells?_some hc
    obtain ⟨ys, n', _, _, _, hyl, hf⟩ := DataW.trod_struct Try.underlying38 ht
    match cs, hlen, ys, hyl with
    | v0 :: v1 :: v2 :: v3 :: v4 :: rest, hlen, [y0, y1, y2, y3, y4, y5], _ =>
      have g0 := hf 0 _ rfl
      have g1 := hf 1 _ rfl
      have g2 := hf 2 _ rfl
      have g3 := hf 3 _ rfl
      have g4 := hf 4 _ rfl
      have g5 := hf 5 _ rfl
      have hr : rest.length = 26 := by simp only [List.length_cons] at hlen; omega
      simp [cells_int, cells_u32, cells_bool, cells_st] at g0 g1 g2 g3 g4 g5
      rw [List.take_of_length_le (by omega)] at g5
      obtain ⟨K, e0, _, _⟩ := DataW.trod_int Try.underlying3 g0
      obtain ⟨N, e1, _, _⟩ := DataW.trod_int Try.underlying3 g1
      obtain ⟨X, e2, _, hX⟩ := DataW.trod_int Try.underlying23 g2
      obtain ⟨Z, e3, _, _⟩ := DataW.trod_int Try.underlying3 g3
      obtain ⟨V, e4, _⟩ := DataW.trod_bool Try.underlying4 g4
      obtain ⟨s, y, es, hs⟩ := state_cells g5
      simp at e0 e1 e2 e3 e4
      subst e0 e1 e2 e3 e4 es
      have h0 := hat 0 (by omega)
      have hb := block_lt_of_cell (v := .int .i64 K) (by simpa using h0)
      rw [addr_block, addr_block] at hb
      refine ⟨ad, ⟨K, N, X, Z, V, s, y⟩, rfl, ⟨U_of' hX, hs⟩, hb, fun j v hv => ?_⟩
      have hj : j < 31 := by
        have := (List.getElem?_eq_some_iff.1 hv).1
        rw [Cl.length ⟨U_of' hX, hs⟩] at this
        exact this
      rw [hat j hj]
      exact hv
end Go.Proofs.Ytgljkadelkglbaa.Cs
