/- The program's and the document's, side by side. No program is walked here. -/
import Derived.Test.YtfpdemlcmfaieaaRStore
import Derived.Test.YtfpdemlcmfaieaaWPeeks
namespace Go.Proofs.Ytfpdemlcmfaieaa.Cs
open Go.RowKit

/-- A state: tables, memory, buffer. -/
structure St where
  t : Tabs
  xs : List Int
  rows : Rows
/-- The blocks' numbers. -/
structure Ids where
  g : Nat
  rg : Nat
  r : Nat
  tg : Nat
  h : Nat
  rh : Nat
  hr : Nat
  th : Nat
def Ux (d : Ids) (S T : Nat → Prop) : Nat → Prop := fun k => Rg S d.r k ∨ k = d.g ∨ Rg T d.hr k ∨ k = d.h

/-- A call. -/
structure Cal where
  K : Int
  va : Int
  x : Int
  n : Int
  u : Bool
  wr : Bool
  A : Option Addr
  m : Nat
  c : Nat
  t : Tabs
def Cq (W : World) (q : Nat) (c : Cal) : Prop := W.heap[q]? = some (.cells (#[Value.int .i64 (Cal.K c), Value.int .u32 (Cal.va c), Value.int .u32 (Cal.x c), Value.int .i64 (Cal.n c), Value.bool (Cal.u c), Value.bool (Cal.wr c), Value.slice (Cal.A c) (Cal.m c) (Cal.c c), Value.int .u32 (Cal.t c).pb, Value.int .u32 (Cal.t c).pn, Value.int .u32 (Cal.t c).sb, Value.int .u32 (Cal.t c).sn, Value.int .u32 (Cal.t c).me]) 45 (0, 0))

structure Bw (w : World) (d : Ids) (S0 T0 S T : Nat → Prop) (s s2 : St) (pl : Bool) (W : World) : Prop where
  ms : Ms W d.g d.rg d.r d.tg S s.t s.rows s.xs
  rs : Rs W d.h d.rh d.hr d.th T s2.t pl s2.rows s2.xs
  rr : d.r ≠ d.hr
  st : Tl.Step (Ux d S0 T0) (Ux d S T) w W
section
variable {w W W' : World} {d : Ids} {S0 T0 S T S' T' : Nat → Prop} {s s2 s' : St} {pl : Bool}
theorem rs_prog {Q : Nat → Prop} (b : Bw w d S0 T0 S T s s2 pl W) (m : Tl.Mods Q W W') (hQ : ∀ k, Q k → Rg S d.r k ∨ k = d.g) : Rs W' d.h d.rh d.hr d.th T s2.t pl s2.rows s2.xs := by
  have key : ∀ k ty, Typ W k ty → ty ≠ 105 → ty ≠ 113 → ty ≠ 87 → k ≠ d.r → ¬ Q k := fun k ty h1 h2 h3 h4 h5 e => by
    rcases hQ k e with (e | e) | e
    · exact tb_not b.ms.mx.tb h1 h2 h3 e
    · exact h5 e
    · rw [e] at h1; exact h4 (h1.ne b.ms.mx.typ)
  refine ⟨b.rs.mx.mods m (key _ _ b.rs.mx.typ (by decide) (by decide) (by decide) (fun e => ?_)) (fun k hq hk => ?_), b.rs.mem.mods m (key _ _ b.rs.mem.typ.1 (by decide) (by decide) (by decide) (fun e => ?_)) (key _ _ b.rs.mem.typ.2 (by decide) (by decide) (by decide) (fun e => b.rr e.symm))⟩
  · have ty := b.rs.mx.typ
    rw [e] at ty
    exact absurd (ty.ne (mem_typ b.ms.mem).2) (by decide)
  · rcases rf_typ b.rs.mx.rf hk with ty | ty
    · exact key k _ ty (by decide) (by decide) (by decide) (fun e => by rw [e] at ty; exact absurd (ty.ne (mem_typ b.ms.mem).2) (by decide)) hq
    · exact key k _ ty (by decide) (by decide) (by decide) (fun e => by rw [e] at ty; exact absurd (ty.ne (mem_typ b.ms.mem).2) (by decide)) hq
  · have ty := b.rs.mem.typ.1
    rw [e] at ty
    exact absurd (ty.ne (mem_typ b.ms.mem).2) (by decide)
theorem ms_ref {Q : Nat → Prop} (b : Bw w d S0 T0 S T s s2 pl W) (m : Tl.Mods Q W W') (hQ : ∀ k, Q k → Rg T d.hr k ∨ k = d.h) : Ms W' d.g d.rg d.r d.tg S s.t s.rows s.xs := by
  have key : ∀ k ty, Typ W k ty → ty ≠ 62 → ty ≠ 23 → ty ≠ 43 → k ≠ d.hr → ¬ Q k := fun k ty h1 h2 h3 h4 h5 e => by
    rcases hQ k e with (e | e) | e
    · exact rf_not b.rs.mx.rf h1 h2 h3 e
    · exact h5 e
    · rw [e] at h1; exact h4 (h1.ne b.rs.mx.typ)
  refine ⟨b.ms.mx.mods m (key _ _ b.ms.mx.typ (by decide) (by decide) (by decide) (fun e => ?_)) (fun k hq hk => ?_), mem_mods b.ms.mem m (key _ _ (mem_typ b.ms.mem).1 (by decide) (by decide) (by decide) (fun e => ?_)) (key _ _ (mem_typ b.ms.mem).2 (by decide) (by decide) (by decide) b.rr)⟩
  · have ty := b.ms.mx.typ
    rw [e] at ty
    exact absurd (ty.ne b.rs.mem.typ.2) (by decide)
  · rcases tb_typ b.ms.mx.tb hk with ty | ty
    · exact key k _ ty (by decide) (by decide) (by decide) (fun e => by rw [e] at ty; exact absurd (ty.ne b.rs.mem.typ.2) (by decide)) hq
    · exact key k _ ty (by decide) (by decide) (by decide) (fun e => by rw [e] at ty; exact absurd (ty.ne b.rs.mem.typ.2) (by decide)) hq
  · have ty := (mem_typ b.ms.mem).1
    rw [e] at ty
    exact absurd (ty.ne b.rs.mem.typ.2) (by decide)
theorem Bw.below (b : Bw w d S0 T0 S T s s2 pl W) (h : Below W.heap.size W W') : Bw w d S0 T0 S T s s2 pl W' := ⟨b.ms.below h, b.rs.below h, b.rr, b.st.trans (Tl.Step.of_below h)⟩
theorem step_ux1 (h : Tl.Step (Rg S d.r) (Rg S' d.r) W W') : Tl.Step (Ux d S T) (Ux d S' T) W W' :=
  ⟨h.mods.mono (fun _ _ e => .inl e), fun k hk => by
    rcases hk with hk | hk
    · rcases h.grow k hk with e | e
      · exact .inl (.inl e)
      · exact .inr e
    · exact .inl (.inr hk)⟩
theorem step_ux2 (h : Tl.Step (Rg T d.hr) (Rg T' d.hr) W W') : Tl.Step (Ux d S T) (Ux d S T') W W' :=
  ⟨h.mods.mono (fun _ _ e => .inr (.inr (.inl e))), fun k hk => by
    rcases hk with hk | hk | hk | hk
    · exact .inl (.inl hk)
    · exact .inl (.inr (.inl hk))
    · rcases h.grow k hk with e | e
      · exact .inl (.inr (.inr (.inl e)))
      · exact .inr e
    · exact .inl (.inr (.inr (.inr hk)))⟩
/-- The program's call is behind us. -/
theorem Bw.one (b : Bw w d S0 T0 S T s s2 pl W) (m : Ms W' d.g d.rg d.r d.tg S' s'.t s'.rows s'.xs) (h : Tl.Step (Rg S d.r) (Rg S' d.r) W W') : Bw w d S0 T0 S' T s' s2 pl W' :=
  ⟨m, rs_prog b h.mods (fun _ e => .inl e), b.rr, b.st.trans (step_ux1 h)⟩
/-- The document's call is. -/
theorem Bw.two (b : Bw w d S0 T0 S T s s2 pl W) (m : Rs W' d.h d.rh d.hr d.th T' s'.t pl s'.rows s'.xs) (h : Tl.Step (Rg T d.hr) (Rg T' d.hr) W W') : Bw w d S0 T0 S T' s s' pl W' :=
  ⟨ms_ref b h.mods (fun _ e => .inl e), m, b.rr, b.st.trans (step_ux2 h)⟩
/-- The program's tables were set. -/
theorem Bw.set (b : Bw w d S0 T0 S T s s2 pl W) {t' : Tabs} (m : Mx W' d.g d.rg d.tg S' t' []) (h : Tl.Step (Rg S d.g) (Rg S' d.g) W W') : Bw w d S0 T0 S' T ⟨t', s.xs, []⟩ s2 pl W' := by
  have hn : ¬ Rg S d.g d.rg ∧ ¬ Rg S d.g d.r := by
    refine ⟨fun e => ?_, fun e => ?_⟩
    · rcases e with e | e
      · exact tb_not b.ms.mx.tb (mem_typ b.ms.mem).1 (by decide) (by decide) e
      · have ty := (mem_typ b.ms.mem).1
        rw [e] at ty
        exact absurd (ty.ne b.ms.mx.typ) (by decide)
    · rcases e with e | e
      · exact tb_not b.ms.mx.tb (mem_typ b.ms.mem).2 (by decide) (by decide) e
      · have ty := (mem_typ b.ms.mem).2
        rw [e] at ty
        exact absurd (ty.ne b.ms.mx.typ) (by decide)
  refine ⟨⟨m, mem_mods b.ms.mem h.mods hn.1 hn.2⟩, rs_prog b h.mods (fun k e => Or.elim e (fun e => .inl (.inl e)) .inr), b.rr, b.st.trans ⟨h.mods.mono (fun k _ e => Or.elim e (fun e => .inl (.inl e)) (fun e => .inr (.inl e))), fun k hk => ?_⟩⟩
  rcases hk with (hk | hk) | hk | hk
  · rcases h.grow k (.inl hk) with (e | e) | e
    · exact .inl (.inl (.inl e))
    · exact .inl (.inr (.inl e))
    · exact .inr e
  · exact .inl (.inl (.inr hk))
  · exact .inl (.inr (.inl hk))
  · exact .inl (.inr (.inr hk))
end
/-- Blocks of other types stay. -/
theorem keep_ux {w W W' : World} {d : Ids} {S0 T0 S T Q : Nat → Prop} {s s2 : St} {pl : Bool} (b : Bw w d S0 T0 S T s s2 pl W) (m : Tl.Mods Q W W') (hQ : ∀ k, Q k → Ux d S T k) {k : Nat} {ty : TypeId} (h : Typ W k ty)
    (h1 : ty ≠ 105) (h2 : ty ≠ 113) (h3 : ty ≠ 87) (h4 : ty ≠ 62) (h5 : ty ≠ 23) (h6 : ty ≠ 43) (h7 : ty ≠ 5) : W'.heap[k]? = W.heap[k]? := by
  obtain ⟨cs, fr, e⟩ := h
  refine m.block k (Tl.lt_of_heap e) (fun hq => ?_)
  have ty : Typ W k ty := ⟨cs, fr, e⟩
  rcases hQ k hq with (e | e) | e | (e | e) | e
  · exact tb_not b.ms.mx.tb ty h1 h2 e
  · rw [e] at ty; exact h7 (ty.ne (mem_typ b.ms.mem).2)
  · rw [e] at ty; exact h3 (ty.ne b.ms.mx.typ)
  · exact rf_not b.rs.mx.rf ty h4 h5 e
  · rw [e] at ty; exact h7 (ty.ne b.rs.mem.typ.2)
  · rw [e] at ty; exact h6 (ty.ne b.rs.mx.typ)
section
variable {w W W' : World} {d : Ids} {S0 T0 S T Q : Nat → Prop} {s s2 : St} {pl : Bool} {q F : Nat} {c : Cal} {k va i : Int}
theorem Cq.lt (h : Cq W q c) : q < W.heap.size := Tl.lt_of_heap h
theorem Cq.below (h : Cq W q c) (b : Below W.heap.size W W') : Cq W' q c := (b.block _ h.lt).trans h
theorem Cq.ux (h : Cq W q c) (b : Bw w d S0 T0 S T s s2 pl W) (m : Tl.Mods Q W W') (hQ : ∀ k, Q k → Ux d S T k) : Cq W' q c :=
  (keep_ux b m hQ ⟨_, _, h⟩ (by decide) (by decide) (by decide) (by decide) (by decide) (by decide) (by decide)).trans h
theorem Fv.ux (h : Fv W F k va i) (b : Bw w d S0 T0 S T s s2 pl W) (m : Tl.Mods Q W W') (hQ : ∀ k, Q k → Ux d S T k) : Fv W' F k va i :=
  (keep_ux b m hQ h.typ (by decide) (by decide) (by decide) (by decide) (by decide) (by decide) (by decide)).trans h
theorem Cq.cells (h : Cq W q c) : W.cell? ⟨q, 0, none⟩ = some (.int .i64 c.K) ∧ W.cell? ⟨q, 1, none⟩ = some (.int .u32 c.va) ∧ W.cell? ⟨q, 2, none⟩ = some (.int .u32 c.x) ∧ W.cell? ⟨q, 3, none⟩ = some (.int .i64 c.n) ∧ W.cell? ⟨q, 4, none⟩ = some (.bool c.u) ∧ W.cell? ⟨q, 5, none⟩ = some (.bool c.wr) ∧ W.cell? ⟨q, 6, none⟩ = some (.slice c.A c.m c.c) := by
  unfold Cq at h
  rw [cell_of_row W q 0 _ _ _ h, cell_of_row W q 1 _ _ _ h, cell_of_row W q 2 _ _ _ h, cell_of_row W q 3 _ _ _ h, cell_of_row W q 4 _ _ _ h, cell_of_row W q 5 _ _ _ h, cell_of_row W q 6 _ _ _ h]
  exact ⟨rfl, rfl, rfl, rfl, rfl, rfl, rfl⟩
theorem Cq.tabs (h : Cq W q c) : W.cell? ⟨q, 7, none⟩ = some (.int .u32 c.t.pb) ∧ W.cell? ⟨q, 8, none⟩ = some (.int .u32 c.t.pn) ∧ W.cell? ⟨q, 9, none⟩ = some (.int .u32 c.t.sb) ∧ W.cell? ⟨q, 10, none⟩ = some (.int .u32 c.t.sn) ∧ W.cell? ⟨q, 11, none⟩ = some (.int .u32 c.t.me) := by
  unfold Cq at h
  rw [cell_of_row W q 7 _ _ _ h, cell_of_row W q 8 _ _ _ h, cell_of_row W q 9 _ _ _ h, cell_of_row W q 10 _ _ _ h, cell_of_row W q 11 _ _ _ h]
  exact ⟨rfl, rfl, rfl, rfl, rfl⟩
theorem Cq.new : Cq (W.alloc (.cells (#[Value.int .i64 (Cal.K c), Value.int .u32 (Cal.va c), Value.int .u32 (Cal.x c), Value.int .i64 (Cal.n c), Value.bool (Cal.u c), Value.bool (Cal.wr c), Value.slice (Cal.A c) (Cal.m c) (Cal.c c), Value.int .u32 (Cal.t c).pb, Value.int .u32 (Cal.t c).pn, Value.int .u32 (Cal.t c).sb, Value.int .u32 (Cal.t c).sn, Value.int .u32 (Cal.t c).me]) 45)) W.heap.size c := heap_alloc_new _ _
theorem ux1 : ∀ k, Rg S d.r k → Ux d S T k := fun _ e => .inl e
theorem ux2 : ∀ k, Rg T d.hr k → Ux d S T k := fun _ e => .inr (.inr (.inl e))
end
/-- What a call leaves. -/
def nx (kp : Bool) (s : St) (c : Cal) (ys : List Int) : St :=
  if c.K = 0 then ⟨s.t, s.xs, (walk s.t s.xs c.u false kp s.rows [] c.va (max 0 (min c.n 4)).toNat).2⟩
  else if c.K = 1 then
    let o := walk s.t s.xs c.u true kp s.rows [] c.va (max 0 (min c.n 4)).toNat
    ⟨s.t, stM s.t s.xs o.2 (Rm.low c.x (max 0 (min c.n 4)).toNat) o.1, stR s.t s.xs o.2 o.1⟩
  else if c.K = 2 then ⟨s.t, s.xs, (walk s.t s.xs c.u false kp s.rows [] c.va c.n.toNat).2⟩
  else if c.K = 3 then
    let o := walk s.t s.xs c.u true kp s.rows [] c.va c.m
    ⟨s.t, stM s.t s.xs o.2 ys o.1, stR s.t s.xs o.2 o.1⟩
  else if c.K = 4 then ⟨s.t, s.xs, (walk s.t s.xs c.u c.wr kp s.rows [] c.va c.n.toNat).2⟩
  else if c.K = 5 then s
  else if c.K = 6 then ⟨c.t, s.xs, []⟩
  else if c.K = 7 then ⟨s.t, s.xs, []⟩
  else if c.K = 8 then ⟨s.t, s.xs, Tl.dropR s.rows (c.va / 512)⟩
  else if c.K = 9 then ⟨s.t, if c.va + 4 ≤ s.xs.length then splice s.xs c.va.toNat (Rm.low c.x 4) else s.xs, s.rows⟩
  else s

end Go.Proofs.Ytfpdemlcmfaieaa.Cs
