/- A memory behind page tables, as it lies in the model's world. No program is walked here. -/
import Derived.Test.YtfpdemlcmfaieaaMNum
namespace Go.Proofs.Ytfpdemlcmfaieaa.Cs
open Go.RowKit

/-- Block k has this type. -/
def Typ (w : World) (k : Nat) (ty : TypeId) : Prop := ∃ cs fr, w.heap[k]? = some (.cells cs ty fr)
theorem Typ.ne {w : World} {k : Nat} {a b : TypeId} (h : Typ w k a) (h' : Typ w k b) : a = b := by
  obtain ⟨cs, fr, e⟩ := h
  obtain ⟨cs', fr', e'⟩ := h'
  have := e.symm.trans e'
  injection this with this
  injection this
theorem own_typ {w : World} {v : Value} {e k n : Nat} {cs : List Value} (h : w.ownsRow 0 e k v n cs) {i : Nat} (hi : Tl.Bl v i) : Typ w i e := by
  obtain ⟨h1, ⟨rfl, _⟩ | ⟨r, cap, cur, rfl, _, hh, _⟩⟩ := h
  · simp [Tl.Bl, Value.ownBlock] at hi
  · simp only [Tl.Bl, Value.ownBlock, Option.some.injEq] at hi
    subst hi
    exact ⟨_, _, hh⟩
theorem tb_typ {w : World} {g : Nat} {S : Nat → Prop} {rows : Rows} (h : Tl.Tb w g S rows) {k : Nat} (hk : S k) : Typ w k 105 ∨ Typ w k 113 := by
  obtain ⟨v, hb, hr, hS⟩ := h.ex
  rcases (hS k).1 hk with rfl | hk
  · exact .inl ⟨_, _, hb⟩
  · exact .inr (own_typ hr hk)
theorem rf_typ {w : World} {g : Nat} {S : Nat → Prop} {rows : Rows} (h : Tl.Rf w g S rows) {k : Nat} (hk : S k) : Typ w k 62 ∨ Typ w k 23 := by
  obtain ⟨v, u, hb, hr, hr', _, hS⟩ := h.ex
  rcases (hS k).1 hk with rfl | hk | hk
  · exact .inl ⟨_, _, hb⟩
  · exact .inr (own_typ hr hk)
  · exact .inr (own_typ hr' hk)
theorem tb_not {w : World} {g : Nat} {S : Nat → Prop} {rows : Rows} (h : Tl.Tb w g S rows) {k : Nat} {ty : TypeId} (hk : Typ w k ty) (h1 : ty ≠ 105) (h2 : ty ≠ 113) : ¬ S k := fun e => by
  rcases tb_typ h e with e | e
  · exact h1 (hk.ne e)
  · exact h2 (hk.ne e)
theorem rf_not {w : World} {g : Nat} {S : Nat → Prop} {rows : Rows} (h : Tl.Rf w g S rows) {k : Nat} {ty : TypeId} (hk : Typ w k ty) (h1 : ty ≠ 62) (h2 : ty ≠ 23) : ¬ S k := fun e => by
  rcases rf_typ h e with e | e
  · exact h1 (hk.ne e)
  · exact h2 (hk.ne e)

/-- Tables as cells. -/
def tcs (t : Tabs) : List Value := [.int .u32 t.pb, .int .u32 t.pn, .int .u32 t.sb, .int .u32 t.sn, .int .u32 t.me]
def tv (t : Tabs) : Value := .agg #[.int .u32 t.pb, .int .u32 t.pn, .int .u32 t.sb, .int .u32 t.sn, .int .u32 t.me]

/-- Block g is an Mmu over the memory in block rg, its buffer in block tg, made of the blocks S. -/
structure Mx (w : World) (g rg tg : Nat) (S : Nat → Prop) (t : Tabs) (rows : Rows) : Prop where
  box : w.heap[g]? = some (.cells #[.pointer (some ⟨rg, 0, none⟩), .int .u32 t.pb, .int .u32 t.pn, .int .u32 t.sb, .int .u32 t.sn, .int .u32 t.me, .pointer (some ⟨tg, 0, none⟩)] 87 (0, 0))
  tb : Tl.Tb w tg S rows
  ok : t.Ok
section
variable {w w' : World} {g rg tg : Nat} {S S' T : Nat → Prop} {t : Tabs} {rows rows' : Rows}
theorem Mx.glt (h : Mx w g rg tg S t rows) : g < w.heap.size := Tl.lt_of_heap h.box
theorem Mx.typ (h : Mx w g rg tg S t rows) : Typ w g 87 := ⟨_, _, h.box⟩
theorem Mx.not (h : Mx w g rg tg S t rows) : ¬ S g := tb_not h.tb h.typ (by decide) (by decide)
theorem Mx.c0 (h : Mx w g rg tg S t rows) : w.cell? ⟨g, 0, none⟩ = some (.pointer (some ⟨rg, 0, none⟩)) := by rw [cell_of_row w g 0 _ _ _ h.box]; rfl
theorem Mx.c1 (h : Mx w g rg tg S t rows) : w.cell? ⟨g, 1, none⟩ = some (.int .u32 t.pb) := by rw [cell_of_row w g 1 _ _ _ h.box]; rfl
theorem Mx.c2 (h : Mx w g rg tg S t rows) : w.cell? ⟨g, 2, none⟩ = some (.int .u32 t.pn) := by rw [cell_of_row w g 2 _ _ _ h.box]; rfl
theorem Mx.c3 (h : Mx w g rg tg S t rows) : w.cell? ⟨g, 3, none⟩ = some (.int .u32 t.sb) := by rw [cell_of_row w g 3 _ _ _ h.box]; rfl
theorem Mx.c4 (h : Mx w g rg tg S t rows) : w.cell? ⟨g, 4, none⟩ = some (.int .u32 t.sn) := by rw [cell_of_row w g 4 _ _ _ h.box]; rfl
theorem Mx.c5 (h : Mx w g rg tg S t rows) : w.cell? ⟨g, 5, none⟩ = some (.int .u32 t.me) := by rw [cell_of_row w g 5 _ _ _ h.box]; rfl
theorem Mx.c6 (h : Mx w g rg tg S t rows) : w.cell? ⟨g, 6, none⟩ = some (.pointer (some ⟨tg, 0, none⟩)) := by rw [cell_of_row w g 6 _ _ _ h.box]; rfl
theorem Mx.keep (h : Mx w g rg tg S t rows) (hg : w'.heap[g]? = w.heap[g]?) (hk : ∀ k, S k → w'.heap[k]? = w.heap[k]?) : Mx w' g rg tg S t rows :=
  ⟨hg.trans h.box, h.tb.keep hk, h.ok⟩
theorem Mx.below (h : Mx w g rg tg S t rows) (m : Below w.heap.size w w') : Mx w' g rg tg S t rows :=
  h.keep (m.block g h.glt) (fun k hk => m.block k (h.tb.lo k hk))
theorem Mx.mods (h : Mx w g rg tg S t rows) (m : Tl.Mods T w w') (hg : ¬ T g) (a : Tl.Apart T S) : Mx w' g rg tg S t rows :=
  h.keep (m.block g h.glt hg) (fun k hk => m.block k (h.tb.lo k hk) (fun ht => a k ht hk))
/-- The buffer has turned. -/
theorem Mx.turn (h : Mx w g rg tg S t rows) (hb : Tl.Tb w' tg S' rows') (s : Tl.Step S S' w w') : Mx w' g rg tg S' t rows' :=
  ⟨(s.mods.block g h.glt h.not).trans h.box, hb, h.ok⟩
end

section
variable {w w' : World} {g r tg : Nat} {xs : List Int} {S T : Nat → Prop} {rows : Rows}
theorem mem_typ (h : Rm.Mem w g r xs) : Typ w g 81 ∧ Typ w r 5 := ⟨⟨_, _, h.box⟩, ⟨_, _, h.row⟩⟩
theorem mem_mods (h : Rm.Mem w g r xs) (m : Tl.Mods T w w') (hg : ¬ T g) (hr : ¬ T r) : Rm.Mem w' g r xs := h.keep (m.block g h.glt hg) (m.block r h.rlt hr)
/-- What turns in a buffer leaves the memory. -/
theorem mem_tb (h : Rm.Mem w g r xs) (b : Tl.Tb w tg S rows) (m : Tl.Mods S w w') : Rm.Mem w' g r xs :=
  mem_mods h m (tb_not b (mem_typ h).1 (by decide) (by decide)) (tb_not b (mem_typ h).2 (by decide) (by decide))
/-- What turns in a memory leaves the buffer. -/
theorem tb_mem (h : Rm.Mem w g r xs) (b : Tl.Tb w tg S rows) (m : w.grownBy w' (some r)) : Tl.Tb w' tg S rows :=
  b.keep fun k hk => m.block k (b.lo k hk) (fun e => by
    injection e with e
    subst e
    exact tb_not b (mem_typ h).2 (by decide) (by decide) hk)
end
theorem mx_mem {w w' : World} {g r m rg tg : Nat} {xs : List Int} {S : Nat → Prop} {t : Tabs} {rows : Rows} (h : Rm.Mem w g r xs) (b : Mx w m rg tg S t rows) (gr : w.grownBy w' (some r)) : Mx w' m rg tg S t rows :=
  ⟨(gr.block m b.glt (fun e => by injection e with e; subst e; exact absurd (b.typ.ne (mem_typ h).2) (by decide))).trans b.box, tb_mem h b.tb gr, b.ok⟩

end Go.Proofs.Ytfpdemlcmfaieaa.Cs
