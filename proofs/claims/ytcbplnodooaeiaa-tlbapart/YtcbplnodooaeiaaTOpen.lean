/- What the frame of a law hands of a slice of calls. -/
import Derived.Test.YtcbplnodooaeiaaWDoes
import Derived.ChangeSame
namespace Go.Proofs.Ytcbplnodooaeiaa.Cs
open Go.RowKit Go.ChangeShapes Go.WideShapes

theorem call_cellsOf : Try.prog.cellsOf 32 = 3 := by kernel_rfl
theorem int_cellsOf : Try.prog.cellsOf 3 = 1 := by kernel_rfl
theorem u32_cellsOf : Try.prog.cellsOf 30 = 1 := by kernel_rfl

theorem src3_of {H : Type} {enc : TypeId × Value → H} {w : World} {base : Nat} {spare : Nat → Bool} {held : Bool} {fuel : Nat} {A : Option Addr} {len cap : Nat} {x : DataW H × List MemPlace}
    (h : DataW.trod enc Try.prog w base spare held fuel 22 [.slice A len cap] = some x) : Src3 w A len := by
  intro k hk
  rcases Deep.open_slice Try.underlying22 h with ⟨hcs, _⟩ | ⟨ad, l, c, m, n, D, Pl, hcs, _, hl, _, hmm, _, hi⟩
  · simp at hcs
    omega
  · simp at hcs
    obtain ⟨rfl, rfl, rfl⟩ := hcs
    have hkm : k < m := by rw [hmm]; split <;> omega
    obtain ⟨cs, hc, ht⟩ := hi k hkm
    rw [call_cellsOf] at hc
    obtain ⟨_, hlen, hat⟩ := World.cells?_some hc
    obtain ⟨ys, n', _, _, _, hyl, hf⟩ := DataW.trod_struct Try.underlying32 ht
    match cs, hlen, ys, hyl with
    | [v0, v1, v2], _, [y0, y1, y2], _ =>
      have g0 := hf 0 _ rfl
      have g1 := hf 1 _ rfl
      have g2 := hf 2 _ rfl
      simp [int_cellsOf, u32_cellsOf] at g0 g1 g2
      obtain ⟨K, e0, _, _⟩ := DataW.trod_int Try.underlying3 g0
      obtain ⟨p, e1, _, hp⟩ := DataW.trod_int Try.underlying30 g1
      obtain ⟨z, e2, _, hz⟩ := DataW.trod_int Try.underlying30 g2
      simp at e0 e1 e2
      subst e0 e1 e2
      have a0 := hat 0 (by omega)
      have a1 := hat 1 (by omega)
      have a2 := hat 2 (by omega)
      rw [Deep.add_add] at a0 a1 a2
      have bp := bounds_u32 hp
      have bz := bounds_u32 hz
      have hb := block_lt_of_cell (v := .int .i64 K) (by simpa using a0)
      refine ⟨ad, K, p, z, rfl, ?_, by simpa using a0, by simpa using a1, by simpa using a2, ⟨by omega, by omega⟩, ⟨by omega, by omega⟩⟩
      rw [block_add] at hb
      exact hb

theorem does_walk (A : Option Addr) (n c : Nat) (w : World) (h : Src3 w A n) :
    Calls Try.prog 3 #[.slice A n c] w fun e w' => e = .returned (.bool true) ∧ Below w.heap.size w w' := by
  by_cases hn : 200 < n
  · exact does_long A n c w hn
  · exact does_short A n c w h (by omega)

end Go.Proofs.Ytcbplnodooaeiaa.Cs
