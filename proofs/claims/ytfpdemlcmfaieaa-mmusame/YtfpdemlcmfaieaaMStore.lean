/- Contracts of package mmu: Store. -/
import Derived.Test.YtfpdemlcmfaieaaMGet
import Derived.Deep.Slices
namespace Go.Proofs.Ytfpdemlcmfaieaa.Cs
open Go.RowKit

/-- All runs' pages are marked. -/
def mks (t : Tabs) : List Run → List Int × Rows → List Int × Rows
  | [], o => o
  | x :: l, o => mks t l (mkMem t o.1 o.2 x.va, mkRows t o.2 x.va)
/-- All runs' bytes are put. -/
def pts : List Run → List Int → List Int → List Int
  | [], xs, _ => xs
  | x :: l, xs, ys => pts l (splice xs x.pa.toNat (ys.take x.n)) (ys.drop x.n)
theorem drop_at {l : List Run} {k : Nat} {x : Run} (h : l[k]? = some x) : l.drop k = x :: l.drop (k + 1) := by
  have hk := (List.getElem?_eq_some_iff.1 h).1
  rw [List.drop_eq_getElem_cons hk, (List.getElem?_eq_some_iff.1 h).2]

/-- A slice that is read: bytes, room, and none of the blocks that turn. -/
structure Sl (W : World) (T : Nat → Prop) (A : Option Addr) (c : Nat) (ys : List Int) : Prop where
  src : Rm.Src W A ys
  byt : Rm.Byt ys
  cap : ys.length ≤ c
  max : c ≤ 9223372036854775807
  far : 0 < ys.length → ∀ ad, A = some ad → ¬ T ad.block ∧ ad.block < W.heap.size
section
variable {W W' : World} {T T' : Nat → Prop} {A : Option Addr} {c : Nat} {ys : List Int}
theorem Sl.mods (h : Sl W T A c ys) (m : Tl.Mods T W W') (hT : ∀ k, T' k → T k ∨ W.heap.size ≤ k) : Sl W' T' A c ys :=
  ⟨fun h0 => by
    obtain ⟨ad, e, hl, hc⟩ := h.src h0
    exact ⟨ad, e, Nat.lt_of_lt_of_le hl m.size, fun j v hv => by
      have e2 := m.block ad.block hl (h.far h0 ad e).1
      have := hc j v hv
      unfold World.cell? at this ⊢
      rw [Rm.block_add] at this ⊢
      rw [e2]; exact this⟩,
   h.byt, h.cap, h.max, fun h0 ad e => ⟨fun ht => by
    rcases hT _ ht with x | x
    · exact (h.far h0 ad e).1 x
    · have := (h.far h0 ad e).2; omega, Nat.lt_of_lt_of_le (h.far h0 ad e).2 m.size⟩⟩
theorem Sl.step (h : Sl W T A c ys) (s : Tl.Step T T' W W') : Sl W' T' A c ys := h.mods s.mods s.grow
theorem Sl.take (h : Sl W T A c ys) (n : Nat) : Rm.Src W A (ys.take n) := fun h0 => by
  obtain ⟨ad, e, hl, hc⟩ := h.src (by rw [List.length_take] at h0; omega)
  refine ⟨ad, e, hl, fun j v hv => hc j v ?_⟩
  rw [Rm.cel, List.map_take, List.getElem?_take] at hv
  split at hv
  · exact hv
  · cases hv
theorem Sl.drop {ad : Addr} (h : Sl W T (some ad) c ys) {n : Nat} (hn : n ≤ ys.length) : Sl W T (some (ad.add n)) (c - n) (ys.drop n) := by
  refine ⟨fun h0 => ?_, h.byt.drop n, by have := h.cap; simp; omega, by have := h.max; omega, fun h0 ad' e => ?_⟩
  · obtain ⟨ad', e, hl, hc⟩ := h.src (by simp at h0; omega)
    injection e with e
    subst e
    refine ⟨_, rfl, by rw [Rm.block_add]; exact hl, fun j v hv => ?_⟩
    rw [Deep.add_add]
    refine hc (n + j) v ?_
    rw [Rm.cel, List.map_drop, List.getElem?_drop] at hv
    exact hv
  · injection e with e
    subst e
    rw [Rm.block_add]
    exact h.far (by simp at h0; omega) ad rfl
theorem Sl.none : Sl W T A 0 [] :=
  ⟨fun h0 => absurd h0 (by simp), by intro x hx; simp at hx, by simp, by omega, fun h0 => absurd h0 (by simp)⟩
end

/-- The first loop: pages are marked. -/
structure L1 (w : World) (g rg tg r : Nat) (T0 S : Nat → Prop) (t : Tabs) (xs : List Int) (rows : Rows) (l : List Run) (o : List Int × Rows) (v : Value) (A : Option Addr) (c : Nat) (ys : List Int) (k : Nat) (W : World) : Prop where
  eq : o = mks t (l.drop k) (xs, rows)
  list : R3 W v l
  sl : Sl W (Rg S r) A c ys
  ms : Ms W g rg r tg S t rows xs
  st : Tl.Step T0 (Rg S r) w W
  ft : Ft W w.heap.size
/-- The second one: bytes are put. -/
structure L2 (N : Nat) (w : World) (g rg tg r : Nat) (T0 S : Nat → Prop) (t : Tabs) (xs : List Int) (rows : Rows) (l : List Run) (o : List Int) (v : Value) (A : Option Addr) (c : Nat) (ys : List Int) (k : Nat) (W : World) : Prop where
  eq : o = pts (l.drop k) xs ys
  ln : xs.length = N
  good : ∀ x ∈ l, Good N x
  len : ((l.drop k).map Run.n).sum = ys.length
  list : R3 W v l
  sl : Sl W (Rg S r) A c ys
  ms : Ms W g rg r tg S t rows xs
  st : Tl.Step T0 (Rg S r) w W
  ft : Ft W w.heap.size
section
variable {w W W' : World} {g rg tg r : Nat} {T0 S S' : Nat → Prop} {t : Tabs} {xs xs' : List Int} {rows rows' : Rows} {l : List Run} {o : List Int × Rows} {o' : List Int} {v : Value} {A A' : Option Addr} {c c' : Nat} {ys ys' : List Int} {k N : Nat} {x : Run}
theorem row_rg (h : R3 W v l) (m : Ms W g rg r tg S t rows xs) : Tl.Apart (Rg S r) (Tl.Bl v) := fun k hs hb => by
  rcases hs with hs | rfl
  · exact row_tb h m.mx.tb k hs hb
  · exact (row_mem h m.mem).2 hb
theorem ft_rg {F : Nat} (h : Ft W F) (m : Ms W g rg r tg S t rows xs) : ¬ Rg S r F := fun hs => by
  rcases hs with hs | rfl
  · exact h.tb m.mx.tb hs
  · exact absurd ((mem_typ m.mem).2.ne h.typ) (by decide)
theorem L1.below (h : L1 w g rg tg r T0 S t xs rows l o v A c ys k W) (b : Below W.heap.size W W') : L1 w g rg tg r T0 S t xs rows l o v A c ys k W' :=
  ⟨h.eq, Tl.own_below h.list b, h.sl.step (Tl.Step.of_below b), h.ms.below b, h.st.trans (Tl.Step.of_below b), h.ft.below b⟩
theorem L1.next (h : L1 w g rg tg r T0 S t xs rows l o v A c ys k W) (hx : l[k]? = some x) (hm : Ms W' g rg r tg S' t (mkRows t rows x.va) (mkMem t xs rows x.va)) (s : Tl.Step (Rg S r) (Rg S' r) W W') :
    L1 w g rg tg r T0 S' t (mkMem t xs rows x.va) (mkRows t rows x.va) l o v A c ys (k + 1) W' :=
  ⟨by rw [h.eq, drop_at hx]; rfl, Tl.own_mods h.list s.mods (row_rg h.list h.ms), h.sl.step s, hm, h.st.trans s, h.ft.mods s.mods (ft_rg h.ft h.ms)⟩
theorem L2.below (h : L2 N w g rg tg r T0 S t xs rows l o' v A c ys k W) (b : Below W.heap.size W W') : L2 N w g rg tg r T0 S t xs rows l o' v A c ys k W' :=
  ⟨h.eq, h.ln, h.good, h.len, Tl.own_below h.list b, h.sl.step (Tl.Step.of_below b), h.ms.below b, h.st.trans (Tl.Step.of_below b), h.ft.below b⟩
theorem L2.next (h : L2 N w g rg tg r T0 S t xs rows l o' v A c ys k W) (hx : l[k]? = some x) (hm : Rm.Mem W' rg r (splice xs x.pa.toNat (ys.take x.n))) (hg : W.grownBy W' (some r)) (hA : Sl W (Rg S r) A' c' (ys.drop x.n)) :
    L2 N w g rg tg r T0 S t (splice xs x.pa.toNat (ys.take x.n)) rows l o' v A' c' (ys.drop x.n) (k + 1) W' := by
  obtain ⟨m, s⟩ := h.ms.wrote hm hg
  obtain ⟨_, ⟨p0, _⟩, pf, _⟩ := h.good x (List.mem_of_getElem? hx)
  refine ⟨by rw [h.eq, drop_at hx]; rfl, by rw [length_splice _ _ _ (by rw [List.length_take, h.ln]; omega), h.ln], h.good, ?_, Tl.own_mods h.list s.mods (row_rg h.list h.ms), hA.step s, m, h.st.trans s, h.ft.mods s.mods (ft_rg h.ft h.ms)⟩
  have := h.len
  rw [drop_at hx] at this
  simp at this
  simp
  omega
end

end Go.Proofs.Ytfpdemlcmfaieaa.Cs
