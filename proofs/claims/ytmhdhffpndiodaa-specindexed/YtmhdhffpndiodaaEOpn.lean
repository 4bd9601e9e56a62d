/- What comes in: bytes, an operand, a specifier. -/
import Derived.Test.YtmhdhffpndiodaaEWDec
import Derived.OpenShut
namespace Go.Proofs.Ytmhdhffpndiodaa.Cs
open Go.RowKit Go.ChangeShapes Go.WideShapes

structure Sp.Ok (s : Sp) : Prop where
  k0 : -9223372036854775808 ≤ s.k
  k1 : s.k < 9223372036854775808
  r0 : -9223372036854775808 ≤ s.r
  r1 : s.r < 9223372036854775808
  i0 : -9223372036854775808 ≤ s.i
  i1 : s.i < 9223372036854775808
  x0 : 0 ≤ s.x
  x1 : s.x < 4294967296
  n0 : -9223372036854775808 ≤ s.n
  n1 : s.n < 9223372036854775808

theorem by_of {w : World} {A : Option Addr} {len cap : Nat} {zs : List Int}
    (h : (A = none ∧ len = 0 ∧ cap = 0 ∧ zs = []) ∨ ∃ x : Addr, A = some x ∧ len ≤ cap ∧ cap ≤ maxLen ∧ zs.length = cap ∧ (∀ i, i < zs.length → w.cell? (x.add i) = some (.int .u8 (zs.getD i 0))) ∧ ∀ n ∈ zs, (Lit.int .u8 n).wf = true) : ∃ ys, By w A len cap ys := by
  rcases h with ⟨rfl, rfl, rfl, rfl⟩ | ⟨x, rfl, hl, hm, hz, hc, hw⟩
  · exact ⟨[], rfl, Byt.nil, fun h0 => by simp at h0, by omega, by omega⟩
  · have hlen : (zs.take len).length = len := by simp; omega
    refine ⟨zs.take len, hlen, fun y hy => ?_, fun h0 => ⟨x, rfl, ?_, fun j v hv => ?_⟩, hl, by simpa [maxLen] using hm⟩
    · have := bounds_u8 (hw y (List.mem_of_mem_take hy))
      omega
    · have h1 := hc 0 (by omega)
      have h2 : (x.add 0).block < w.heap.size := by
        rcases Nat.lt_or_ge (x.add 0).block w.heap.size with hlt | hge
        · exact hlt
        · unfold World.cell? at h1
          rw [Array.getElem?_eq_none hge] at h1
          simp at h1
      rwa [block_add] at h2
    · have hj := (List.getElem?_eq_some_iff.1 hv).1
      rw [cel_length, hlen] at hj
      rw [cel_get _ j (by omega)] at hv
      injection hv with hv
      subst hv
      rw [hc j (by omega)]
      simp [List.getD, hj]

set_option maxRecDepth 100000 in
theorem operand_of {H : Type} {enc : TypeId × Value → H} {w : World} {base b0 : Nat} {r : Reach} {spare : Nat → Bool} {held : Bool} {v : Value} {d : DataW H} {ps : List MemPlace}
    (hval : Value.okWide Try.prog w r b0 24 v) (hd : DataW.Trod enc Try.prog w base spare held 24 v d ps) : ∃ t : Oa, v = .agg #[.int .u8 t.a, .int .i64 t.z] ∧ t.Ok := by
  have hc : Try.prog.cellsOf 24 = 2 := by kernel_rfl
  have hu : Try.prog.cellsOf 5 = 1 := by kernel_rfl
  have hi : Try.prog.cellsOf 3 = 1 := by kernel_rfl
  obtain ⟨cs, rfl, hsz⟩ := okWide_struct Try.underlying24 hval
  obtain ⟨fuel, hf⟩ := hd
  obtain ⟨ys, n', _, _, _, hyl, hf⟩ := DataW.trod_struct Try.underlying24 hf
  rw [hc] at hsz
  obtain ⟨l⟩ := cs
  match l, hsz, ys, hyl with
  | [v0, v1], _, [y0, y1], _ =>
    have g0 := hf 0 _ rfl
    have g1 := hf 1 _ rfl
    simp [hu, hi, Value.cells] at g0 g1
    obtain ⟨a0, e0, _, h0⟩ := DataW.trod_int Try.underlying5 g0
    obtain ⟨a1, e1, _, h1⟩ := DataW.trod_int Try.underlying3 g1
    simp at e0 e1
    subst e0 e1
    have b0 := bounds_u8 h0
    have b1 := bounds_i64 h1
    exact ⟨⟨a0, a1⟩, rfl, ⟨by show 0 ≤ a0; omega, by show a0 < 256; omega, by show _ ≤ a1; omega, by show a1 < _; omega⟩⟩

set_option maxRecDepth 100000 in
theorem spec_of {H : Type} {enc : TypeId × Value → H} {w : World} {base b0 : Nat} {r : Reach} {spare : Nat → Bool} {held : Bool} {v : Value} {d : DataW H} {ps : List MemPlace}
    (hval : Value.okWide Try.prog w r b0 28 v) (hd : DataW.Trod enc Try.prog w base spare held 28 v d ps) : ∃ t : Sp, v = t.val ∧ t.Ok := by
  have hc : Try.prog.cellsOf 28 = 5 := by kernel_rfl
  have hu : Try.prog.cellsOf 26 = 1 := by kernel_rfl
  have hi : Try.prog.cellsOf 3 = 1 := by kernel_rfl
  obtain ⟨cs, rfl, hsz⟩ := okWide_struct Try.underlying28 hval
  obtain ⟨fuel, hf⟩ := hd
  obtain ⟨ys, n', _, _, _, hyl, hf⟩ := DataW.trod_struct Try.underlying28 hf
  rw [hc] at hsz
  obtain ⟨l⟩ := cs
  match l, hsz, ys, hyl with
  | [v0, v1, v2, v3, v4], _, [y0, y1, y2, y3, y4], _ =>
    have g0 := hf 0 _ rfl
    have g1 := hf 1 _ rfl
    have g2 := hf 2 _ rfl
    have g3 := hf 3 _ rfl
    have g4 := hf 4 _ rfl
    simp [hu, hi, Value.cells] at g0 g1 g2 g3 g4
    obtain ⟨a0, e0, _, h0⟩ := DataW.trod_int Try.underlying3 g0
    obtain ⟨a1, e1, _, h1⟩ := DataW.trod_int Try.underlying3 g1
    obtain ⟨a2, e2, _, h2⟩ := DataW.trod_int Try.underlying3 g2
    obtain ⟨a3, e3, _, h3⟩ := DataW.trod_int Try.underlying26 g3
    obtain ⟨a4, e4, _, h4⟩ := DataW.trod_int Try.underlying3 g4
    simp at e0 e1 e2 e3 e4
    subst e0 e1 e2 e3 e4
    have b0 := bounds_i64 h0
    have b1 := bounds_i64 h1
    have b2 := bounds_i64 h2
    have b3 := bounds_u32 h3
    have b4 := bounds_i64 h4
    refine ⟨⟨a0, a1, a2, a3, a4⟩, rfl, ?_⟩
    constructor <;> simp only <;> omega

end Go.Proofs.Ytmhdhffpndiodaa.Cs
