/- A slice of calls that came in. -/
import Derived.Test.YtfpdemlcmfaieaaDMem
import Derived.Deep.Slices
import Derived.ChangeSame
namespace Go.Proofs.Ytfpdemlcmfaieaa.Cs
open Go.RowKit Go.ChangeShapes Go.WideShapes

/-- One call, at an address. -/
structure One (w : World) (ad : Addr) (m : Nat) (c : Cal) (ys : List Int) : Prop where
  c0 : w.cell? (ad.add m) = some (.int .i64 c.K)
  c1 : w.cell? (ad.add (m + 1)) = some (.int .u32 c.va)
  c2 : w.cell? (ad.add (m + 2)) = some (.int .u32 c.x)
  c3 : w.cell? (ad.add (m + 3)) = some (.int .i64 c.n)
  c4 : w.cell? (ad.add (m + 4)) = some (.bool c.u)
  c5 : w.cell? (ad.add (m + 5)) = some (.bool c.wr)
  c6 : w.cell? (ad.add (m + 6)) = some (.slice c.A c.m c.c)
  c7 : w.cell? (ad.add (m + 7)) = some (.int .u32 c.t.pb)
  c8 : w.cell? (ad.add (m + 8)) = some (.int .u32 c.t.pn)
  c9 : w.cell? (ad.add (m + 9)) = some (.int .u32 c.t.sb)
  c10 : w.cell? (ad.add (m + 10)) = some (.int .u32 c.t.sn)
  c11 : w.cell? (ad.add (m + 11)) = some (.int .u32 c.t.me)
  va : U c.va
  x : U c.x
  t : c.t.Ok
  bytes : In w c.A c.m c.c ys
  lt : ad.block < w.heap.size
def Cls (w : World) (A : Option Addr) (n _c : Nat) : Prop := n < 2 ^ 63 ∧ ∀ k, k < n → ∃ (ad : Addr) (c : Cal) (ys : List Int), A = some ad ∧ One w ad (k * 12) c ys

theorem call_cellsOf : Try.prog.cellsOf 45 = 12 := by kernel_rfl
theorem tab_cellsOf : Try.prog.cellsOf 25 = 5 := by kernel_rfl
theorem int_cellsOf : Try.prog.cellsOf 3 = 1 := by kernel_rfl
theorem u32_cellsOf : Try.prog.cellsOf 23 = 1 := by kernel_rfl
theorem bool_cellsOf : Try.prog.cellsOf 4 = 1 := by kernel_rfl
theorem sl_cellsOf : Try.prog.cellsOf 22 = 1 := by kernel_rfl

set_option maxRecDepth 100000 in
theorem calls_of {H : Type} {enc : TypeId × Value → H} {w : World} {base : Nat} {held : Bool} {fuel : Nat} {A : Option Addr} {len cap : Nat} {x : DataW H × List MemPlace}
    (h : DataW.trod enc Try.prog w base (fun _ => true) held fuel 26 [.slice A len cap] = some x) : Cls w A len cap := by
  have hbig : len < 2 ^ 63 := by
    rcases Deep.open_slice Try.underlying26 h with ⟨hcs, _⟩ | ⟨ad, l, c, m, n, D, Pl, hcs, _, hl, hm, _⟩
    · simp at hcs
      omega
    · simp at hcs
      unfold maxLen at hm
      omega
  refine ⟨hbig, ?_⟩
  intro k hk
  rcases Deep.open_slice Try.underlying26 h with ⟨hcs, _⟩ | ⟨ad, l, c, m, n, D, Pl, hcs, _, hl, _, hmm, _, hi⟩
  · simp at hcs
    omega
  · simp at hcs
    obtain ⟨rfl, rfl, rfl⟩ := hcs
    have hkm : k < m := by rw [hmm]; split <;> omega
    obtain ⟨cs, hc, ht⟩ := hi k hkm
    rw [call_cellsOf] at hc
    obtain ⟨_, hlen, hat⟩ := World.cells?_some hc
    obtain ⟨ys, n', _, _, _, hyl, hf⟩ := DataW.trod_struct Try.underlying45 ht
    match cs, hlen, ys, hyl with
    | [v0, v1, v2, v3, v4, v5, v6, v7, v8, v9, v10, v11], _, [y0, y1, y2, y3, y4, y5, y6, y7], _ =>
      have g0 := hf 0 _ rfl
      have g1 := hf 1 _ rfl
      have g2 := hf 2 _ rfl
      have g3 := hf 3 _ rfl
      have g4 := hf 4 _ rfl
      have g5 := hf 5 _ rfl
      have g6 := hf 6 _ rfl
      have g7 := hf 7 _ rfl
      simp [int_cellsOf, u32_cellsOf, bool_cellsOf, sl_cellsOf, tab_cellsOf] at g0 g1 g2 g3 g4 g5 g6 g7
      obtain ⟨K, e0, _, _⟩ := DataW.trod_int Try.underlying3 g0
      obtain ⟨va, e1, _, hva⟩ := DataW.trod_int Try.underlying23 g1
      obtain ⟨xx, e2, _, hxx⟩ := DataW.trod_int Try.underlying23 g2
      obtain ⟨nn, e3, _, _⟩ := DataW.trod_int Try.underlying3 g3
      obtain ⟨u, e4, _⟩ := DataW.trod_bool Try.underlying4 g4
      obtain ⟨wt, e5, _⟩ := DataW.trod_bool Try.underlying4 g5
      obtain ⟨zs, n2, _, _, _, hzl, hf7⟩ := DataW.trod_struct Try.underlying25 g7
      match zs, hzl with
      | [z0, z1, z2, z3, z4], _ =>
        have i0 := hf7 0 _ rfl
        have i1 := hf7 1 _ rfl
        have i2 := hf7 2 _ rfl
        have i3 := hf7 3 _ rfl
        have i4 := hf7 4 _ rfl
        simp [u32_cellsOf] at i0 i1 i2 i3 i4
        obtain ⟨a0, d0, _, h0⟩ := DataW.trod_int Try.underlying23 i0
        obtain ⟨a1, d1, _, h1⟩ := DataW.trod_int Try.underlying23 i1
        obtain ⟨a2, d2, _, h2⟩ := DataW.trod_int Try.underlying23 i2
        obtain ⟨a3, d3, _, h3⟩ := DataW.trod_int Try.underlying23 i3
        obtain ⟨a4, d4, _, h4⟩ := DataW.trod_int Try.underlying23 i4
        simp at e0 e1 e2 e3 e4 e5 d0 d1 d2 d3 d4
        subst e0 e1 e2 e3 e4 e5 d0 d1 d2 d3 d4
        have b0 := bounds_u32 h0
        have b1 := bounds_u32 h1
        have b2 := bounds_u32 h2
        have b3 := bounds_u32 h3
        have b4 := bounds_u32 h4
        have bv := bounds_u32 hva
        have bx := bounds_u32 hxx
        have u0 : U a0 := ⟨by omega, by omega⟩
        have u1 : U a1 := ⟨by omega, by omega⟩
        have u2 : U a2 := ⟨by omega, by omega⟩
        have u3 : U a3 := ⟨by omega, by omega⟩
        have u4 : U a4 := ⟨by omega, by omega⟩
        have uv : U va := ⟨by omega, by omega⟩
        have ux : U xx := ⟨by omega, by omega⟩
        obtain ⟨B, bm, bc, bz, e6, hIn⟩ : ∃ B bm bc, ∃ bz : List Int, v6 = .slice B bm bc ∧ ((B = none ∧ bm = 0 ∧ bc = 0 ∧ bz = []) ∨ ∃ q : Addr, B = some q ∧ bm ≤ bc ∧ bc ≤ maxLen ∧ bz.length = bc ∧ (∀ i, i < bz.length → w.cell? (q.add i) = some (.int .u8 (bz.getD i 0))) ∧ ∀ n ∈ bz, (Lit.int .u8 n).wf = true) := by
          rcases open_ints Try.underlying22 Try.underlying5 (by kernel_rfl) g6 with ⟨hcs, _⟩ | ⟨q, l6, c6, zs6, hcs, _, hl6, hm6, hz6, _, hcell, hwz⟩
          · simp at hcs
            exact ⟨none, 0, 0, [], hcs, .inl ⟨rfl, rfl, rfl, rfl⟩⟩
          · simp at hcs
            exact ⟨some q, l6, c6, zs6, hcs, .inr ⟨q, rfl, hl6, hm6, by simpa using hz6, hcell, hwz⟩⟩
        subst e6
        obtain ⟨ys6, hin⟩ := in_of hIn
        have q0 := hat 0 (by omega)
        have q1 := hat 1 (by omega)
        have q2 := hat 2 (by omega)
        have q3 := hat 3 (by omega)
        have q4 := hat 4 (by omega)
        have q5 := hat 5 (by omega)
        have q6 := hat 6 (by omega)
        have q7 := hat 7 (by omega)
        have q8 := hat 8 (by omega)
        have q9 := hat 9 (by omega)
        have q10 := hat 10 (by omega)
        have q11 := hat 11 (by omega)
        rw [Deep.add_add] at q0 q1 q2 q3 q4 q5 q6 q7 q8 q9 q10 q11
        have hb := block_lt_of_cell (v := .int .i64 K) (by simpa using q0)
        rw [Rm.block_add] at hb
        exact ⟨ad, ⟨K, va, xx, nn, u, wt, B, bm, bc, ⟨a0, a1, a2, a3, a4⟩⟩, ys6, rfl, ⟨by simpa using q0, by simpa using q1, by simpa using q2, by simpa using q3, by simpa using q4, by simpa using q5, by simpa using q6, by simpa using q7, by simpa using q8, by simpa using q9, by simpa using q10, by simpa using q11, uv, ux, ⟨u0, u1, u2, u3, u4⟩, hin, hb⟩⟩

theorem add_next (a : Addr) (m j : Nat) (b o : Nat) (s : Option Nat) (h : a.add m = ⟨b, o, s⟩) : a.add (m + (j + 1)) = ⟨b, o + (j + 1), none⟩ := by
  have e : (a.add m).add (j + 1) = a.add (m + (j + 1)) := Deep.add_add a m (j + 1)
  rw [← e, h]; rfl
/-- A call, as it is read in a later world. -/
structure At (W : World) (b o : Nat) (s : Option Nat) (c : Cal) : Prop where
  c0 : W.cell? ⟨b, o, s⟩ = some (.int .i64 c.K)
  c1 : W.cell? ⟨b, o + 1, none⟩ = some (.int .u32 c.va)
  c2 : W.cell? ⟨b, o + 2, none⟩ = some (.int .u32 c.x)
  c3 : W.cell? ⟨b, o + 3, none⟩ = some (.int .i64 c.n)
  c4 : W.cell? ⟨b, o + 4, none⟩ = some (.bool c.u)
  c5 : W.cell? ⟨b, o + 5, none⟩ = some (.bool c.wr)
  c6 : W.cell? ⟨b, o + 6, none⟩ = some (.slice c.A c.m c.c)
  c7 : W.cell? ⟨b, o + 7, none⟩ = some (.int .u32 c.t.pb)
  c8 : W.cell? ⟨b, o + 8, none⟩ = some (.int .u32 c.t.pn)
  c9 : W.cell? ⟨b, o + 9, none⟩ = some (.int .u32 c.t.sb)
  c10 : W.cell? ⟨b, o + 10, none⟩ = some (.int .u32 c.t.sn)
  c11 : W.cell? ⟨b, o + 11, none⟩ = some (.int .u32 c.t.me)
theorem One.at_ {w W : World} {ad : Addr} {k : Nat} {c : Cal} {ys : List Int} (x : One w ad (k * 12) c ys) (hb : Below w.heap.size w W) : ∃ b o s, ad.add (k * 12) = ⟨b, o, s⟩ ∧ At W b o s c := by
  obtain ⟨b, o, s, ha⟩ : ∃ b o s, ad.add (k * 12) = ⟨b, o, s⟩ := ⟨_, _, _, rfl⟩
  have hbl : b < w.heap.size := by
    have := Rm.block_add ad (k * 12)
    rw [ha] at this
    rw [show b = ad.block from this]; exact x.lt
  have key : ∀ j v, w.cell? (ad.add (k * 12 + (j + 1))) = some v → W.cell? ⟨b, o + (j + 1), none⟩ = some v := fun j v h => by
    rw [add_next ad (k * 12) j b o s ha] at h
    exact (hb.cell (p := ⟨b, o + (j + 1), none⟩) hbl).trans h
  have h0 := x.c0
  rw [ha] at h0
  exact ⟨b, o, s, ha, ⟨(hb.cell (p := ⟨b, o, s⟩) hbl).trans h0, key 0 _ x.c1, key 1 _ x.c2, key 2 _ x.c3, key 3 _ x.c4, key 4 _ x.c5, key 5 _ x.c6, key 6 _ x.c7, key 7 _ x.c8, key 8 _ x.c9, key 9 _ x.c10, key 10 _ x.c11⟩⟩

end Go.Proofs.Ytfpdemlcmfaieaa.Cs
