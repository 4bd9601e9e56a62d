/- Four of them: what is behind tables, and the document's that buffers nothing; another one whose buffer is seen, and the document's. -/
import Derived.Test.YtfpdemlcmfaieaaSMat
import Derived.Test.YtfpdemlcmfaieaaDTop
namespace Go.Proofs.Ytfpdemlcmfaieaa.Cs
open Go.RowKit

theorem pos_row {xs : Rows} {q : Int} (h : Tl.pos xs q < xs.length) : (Tl.row xs (Tl.pos xs q)).1 = q := by
  induction xs with
  | nil => simp at h
  | cons r xs ih =>
    by_cases e : r.1 = q
    · rw [Tl.pos_cons_eq e]; exact e
    · rw [Tl.pos_cons_ne e] at h ⊢
      exact ih (by simpa using h)
/-- The first k entries that are buffered are the memory's. -/
def Chk (t : Tabs) (xs : List Int) (rows : Rows) (k : Nat) : Prop := ∀ j, j < k → rdE t xs ((Tl.row rows j).1 * 512 % 4294967296) false = .ok (Tl.row rows j).2
theorem Chk.next {t : Tabs} {xs : List Int} {rows : Rows} {k : Nat} (h : Chk t xs rows k) (e : rdE t xs ((Tl.row rows k).1 * 512 % 4294967296) false = .ok (Tl.row rows k).2) : Chk t xs rows (k + 1) := fun j hj => by
  by_cases e' : j = k
  · subst e'; exact e
  · exact h j (by omega)
theorem Chk.coh {t : Tabs} {xs : List Int} {rows : Rows} (h : Chk t xs rows rows.length) : Coh t xs rows := fun va x hv hg => by
  obtain ⟨h1, h2⟩ := got_hav hg
  have hp : Tl.pos rows (va / 512) < rows.length := of_decide_eq_true h1
  have := h _ hp
  rw [pos_row hp] at this
  rw [show (Tl.row rows (Tl.pos rows (va / 512))).2 = x from h2] at this
  obtain ⟨v0, v1⟩ := hv
  exact rdE_page (by omega) this

section
variable {w W W' : World} {d d2 : Ids} {S S' T T' S2 T2 : Nat → Prop} {a a2 a' a2' b b2 : St} {p p' q : Bool}
theorem Lq.lo (l : Lq w d S T a a2 p W) : Tl.Lo W.heap.size (Ux d S T) := fun k hk => by
  rcases hk with (hk | hk) | hk | (hk | hk) | hk
  · exact l.ms.mx.tb.lo k hk
  · exact hk ▸ l.ms.mem.rlt
  · exact hk ▸ l.ms.mx.glt
  · exact l.rs.mx.rf.lo k hk
  · exact hk ▸ l.rs.mem.rlt
  · exact hk ▸ l.rs.mx.glt
theorem Lq.pair (l : Lq w d S T a a2 p W) (k : Lq w d2 S2 T2 b b2 q W) (ap : Tl.Apart (Ux d S T) (Ux d2 S2 T2)) (h : Bw W d S T S' T' a' a2' p' W') :
    Lq w d S' T' a' a2' p' W' ∧ Lq w d2 S2 T2 b b2 q W' ∧ Tl.Apart (Ux d S' T') (Ux d2 S2 T2) := by
  have m := h.st.mods
  have no : ∀ i, Ux d2 S2 T2 i → ¬ Ux d S T i := fun i h2 h1 => ap i h1 h2
  have kr := fun (i : Nat) (ty : TypeId) (h : Typ W i ty) h1 h2 h3 h4 h5 h6 h7 => keep_ux l.bw m (fun _ e => e) (k := i) (ty := ty) h h1 h2 h3 h4 h5 h6 h7
  refine ⟨⟨h.ms, h.rs, h.rr, h.st.ab l.ab l.bel.size, h.st.below l.bel l.ab l.bel.size⟩, ⟨⟨?_, ?_⟩, ⟨?_, ?_⟩, k.rr, k.ab, m.below k.bel l.ab k.bel.size⟩, h.st.apart ap k.lo⟩
  · exact k.ms.mx.mods m (no _ (.inr (.inl rfl))) (fun i h1 h2 => ap i h1 (.inl (.inl h2)))
  · exact k.ms.mem.keep (kr _ _ (mem_typ k.ms.mem).1 (by decide) (by decide) (by decide) (by decide) (by decide) (by decide) (by decide)) (m.block _ k.ms.mem.rlt (no _ (.inl (.inr rfl))))
  · exact k.rs.mx.mods m (no _ (.inr (.inr (.inr rfl)))) (fun i h1 h2 => ap i h1 (.inr (.inr (.inl (.inl h2)))))
  · exact k.rs.mem.keep (kr _ _ k.rs.mem.typ.1 (by decide) (by decide) (by decide) (by decide) (by decide) (by decide) (by decide)) (m.block _ k.rs.mem.rlt (no _ (.inr (.inr (.inl (.inr rfl))))))
theorem Lq.step2 (l : Lq w d S T a a2 p W) (b : Bw W d S T S' T' a' a2' p' W') : Lq w d S' T' a' a2' p' W' := ⟨b.ms, b.rs, b.rr, b.st.ab l.ab l.bel.size, b.st.below l.bel l.ab l.bel.size⟩
/-- The document's is made plain. -/
theorem Bw.plain (b : Bw w d S T S' T' a a2 p W) : Bw w d S T S' T' a a2 p' (W.setCell ⟨d.h, 7, none⟩ (.bool p')) := by
  have hM : Tl.Mods (fun k => k = d.h) W (W.setCell ⟨d.h, 7, none⟩ (.bool p')) := (Tl.Mods.refl (fun k => k = d.h) W).set (p := ⟨d.h, 7, none⟩) _ (.inl rfl)
  refine ⟨ms_ref b hM (fun _ e => .inr e), ⟨⟨?_, b.rs.mx.rf.keep (fun k hk => hM.block k (b.rs.mx.rf.lo k hk) (fun e => by subst e; exact b.rs.mx.not hk)), b.rs.mx.fit, b.rs.mx.ok⟩, b.rs.mem.mods hM (fun e => ?_) (fun e => ?_)⟩, b.rr, b.st.trans ⟨hM.mono (fun _ _ e => .inr (.inr (.inr e))), fun _ h => .inl h⟩⟩
  · exact heap_setCell_same W d.h 7 _ _ _ b.rs.mx.box
  · have ty := b.rs.mem.typ.1
    rw [e] at ty
    exact absurd (ty.ne b.rs.mx.typ) (by decide)
  · have ty := b.rs.mem.typ.2
    rw [e] at ty
    exact absurd (ty.ne b.rs.mx.typ) (by decide)
end

/-- All four. -/
structure Qd (w : World) (d d2 : Ids) (S T S2 T2 : Nat → Prop) (s : St) (W : World) : Prop where
  l1 : Lq w d S T s ⟨s.t, s.xs, []⟩ true W
  l2 : Lq w d2 S2 T2 s s false W
  ap : Tl.Apart (Ux d S T) (Ux d2 S2 T2)
section
variable {w W W' W1 : World} {d d2 : Ids} {S S' T T' S2 T2 S2' T2' : Nat → Prop} {s : St}
theorem Qd.below (h : Qd w d d2 S T S2 T2 s W) (b : Below W.heap.size W W') : Qd w d d2 S T S2 T2 s W' := ⟨h.l1.below b, h.l2.below b, h.ap⟩
theorem Qd.ag (h : Qd w d d2 S T S2 T2 s W) (c : Coh s.t s.xs s.rows) : Ag s ⟨s.t, s.xs, []⟩ true :=
  ⟨rfl, rfl, fun _ _ va n hv => (walk_coh h.l1.ms.mem.byt n s.rows [] va hv c h.l1.ms.mx.tb.fit).1⟩
theorem Qd.make (l1 : Lq w d S T s ⟨s.t, s.xs, []⟩ true W1) (l2 : Lq W1 d2 S2 T2 s s false W) : Qd w d d2 S T S2 T2 s W :=
  ⟨l1.below l2.bel, ⟨l2.ms, l2.rs, l2.rr, fun k hk => Nat.le_trans l1.bel.size (l2.ab k hk), Tl.bel_trans l1.bel l2.bel l1.bel.size⟩, Tl.Apart.of l1.lo l2.ab⟩
/-- A call was done on both pairs. -/
theorem Qd.step (h : Qd w d d2 S T S2 T2 s W) (c : Coh s.t s.xs s.rows) {k : Cal} {ys : List Int} (hv : U k.va) (b1 : Bw W d S T S' T' (nx true s k ys) (nx (true && !true) ⟨s.t, s.xs, []⟩ k ys) true W1)
    (b2 : Bw W1 d2 S2 T2 S2' T2' (nx true s k ys) (nx (true && !false) s k ys) false W') : Qd w d d2 S' T' S2' T2' (nx true s k ys) W' := by
  obtain ⟨x1, x2, ap⟩ := h.l1.pair h.l2 h.ap b1
  obtain ⟨y2, y1, ap'⟩ := x2.pair x1 ap.symm b2
  have e : nx (true && !true) ⟨s.t, s.xs, []⟩ k ys = ⟨(nx true s k ys).t, (nx true s k ys).xs, []⟩ := same_nx h.l1.ms.mem.byt h.l1.ms.mx.tb.fit hv c
  rw [e] at y1
  exact ⟨y1, y2, ap'.symm⟩
end

end Go.Proofs.Ytfpdemlcmfaieaa.Cs
