/- Slices of numbers that come in; regions of reads that draw their order, with whole states; steps and taking them back. -/
import Derived.Test.YtgljkadelkglbaaHWStacks
namespace Go.Proofs.Ytgljkadelkglbaa.Cs
open Go.RowKit Ps Tl

/-- A slice that came in: n numbers of a kind. -/
structure Src (K : IntKind) (w : World) (A : Option Addr) (n : Nat) (ys : List Int) : Prop where
  len : ys.length = n
  num : ∀ k, k < n → (Lit.int K (ys.getD k 0)).wf = true
  cell : ∀ k, k < n → ∃ ad, A = some ad ∧ ad.block < w.heap.size ∧ w.cell? (ad.add k) = some (.int K (ys.getD k 0))
theorem block_add (a : Addr) (n : Nat) : (a.add n).block = a.block := by unfold Addr.add; split <;> rfl
theorem src_of_row {K : IntKind} {w : World} {A : Option Addr} {n c : Nat} {zs : List Int}
    (h : (A = none ∧ n = 0 ∧ c = 0 ∧ zs = []) ∨ ∃ x : Addr, A = some x ∧ n ≤ c ∧ c ≤ maxLen ∧ zs.length = c ∧ (∀ i, i < zs.length → w.cell? (x.add i) = some (.int K (zs.getD i 0))) ∧ ∀ n ∈ zs, (Lit.int K n).wf = true) :
    ∃ ys, Src K w A n ys := by
  rcases h with ⟨rfl, rfl, rfl, rfl⟩ | ⟨x, rfl, hn, _, hl, hc, hw⟩
  · exact ⟨[], rfl, fun k hk => by omega, fun k hk => by omega⟩
  · have hget : ∀ k, k < n → (zs.take n).getD k 0 = zs.getD k 0 := fun k hk => by simp [List.getD, hk]
    refine ⟨zs.take n, by rw [List.length_take]; omega, fun k hk => ?_, fun k hk => ⟨x, rfl, ?_, ?_⟩⟩
    · rw [hget k hk]
      refine hw _ ?_
      simp only [List.getD, List.getElem?_eq_getElem (by omega : k < zs.length), Option.getD_some]
      exact List.getElem_mem _
    · have := block_lt_of_cell (hc k (by omega))
      rwa [block_add] at this
    · rw [hget k hk]
      exact hc k (by omega)
theorem Src.at_ {K : IntKind} {w wr : World} {A : Option Addr} {n : Nat} {ys : List Int} (h : Src K w A n ys) (hb : Below w.heap.size w wr) {k : Nat} (hk : k < n) : ∃ ad, A = some ad ∧ wr.cell? (ad.add k) = some (.int K (ys.getD k 0)) := by
  obtain ⟨ad, e, hl, hc⟩ := h.cell k hk
  exact ⟨ad, e, (hb.cell (p := ad.add k) (by rw [block_add]; exact hl)).trans hc⟩

section
variable {C : World → Prop} {K : Act → Prop} {a : Act} {o : Oper}
theorem quiet_run {P : Program} (v : Value) (h : ∀ w, C w → (execOp a.eval o).run P w = .ok (.value v) w) (hk : K (a.put o.dst v)) : o.quiet P a C K :=
  ⟨v, fun w hw => by unfold Oper.quietAt; rw [h w hw]; exact ⟨rfl, rfl⟩, hk⟩
theorem quiet_state (q : Operand) (ho : o.op = .load 28 q) (b : Nat) (hq : a.eval q = .pointer (some ⟨b, 0, none⟩)) (s : Re) (x : Xs) (hs : ∀ w, C w → Sb w b s x)
    (hk : K (a.put o.dst (sv s x))) : o.quiet Try.prog a C K :=
  quiet_run (sv s x) (fun w hw => by
    unfold execOp
    simp only [ho, hq, Sem.run_bind, Sem.run_pure, Result.andThen_ok, (hs w hw).loadAt]) hk
theorem quiet_eql (q r : Operand) (t' : TypeId) (ho : o.op = .binOp .eql 28 q r t') (s : Re) (x : Xs) (hs : s.Ok) (hq : a.eval q = sv s x) (hr : a.eval r = sv s x) (hk : K (a.put o.dst (.bool true))) : o.quiet Try.prog a C K :=
  quiet_run (.bool true) (fun w _ => by
    unfold execOp
    simp only [ho, hq, hr, Sem.run_bind, Sem.run_pure, Result.andThen_ok, eq_guards s x q r w, eql_state s x hs w]) hk
end
theorem later_sb {W : World} {b : Nat} {s : Re} {x : Xs} (h : Sb W b s x) : ∀ w, (∃ p : Later W, w = p.v) → Sb w b s x := by
  rintro _ ⟨p, rfl⟩
  exact h.below p.h

/-- behind steps: taking them back comes to s -/
structure Bck (s e : Re) (ss : List Int) : Prop where
  p : e.p = s.p
  k : e.k = s.k
  u : e.u = s.u
  r : ∀ j, j < 16 → sb (e.r.getD j 0) (ss.getD j 0) = s.r.getD j 0
theorem zs_get (j : Nat) : zs.getD j 0 = 0 := by unfold zs; simp only [List.getD, List.getElem?_replicate]; split <;> rfl
theorem Bck.start {s : Re} (h : s.Ok) : Bck s s zs := ⟨rfl, rfl, rfl, fun j _ => by
  have := h.num j
  rw [zs_get]
  unfold sb U at *
  omega⟩
theorem Bck.step {s e : Re} {ss : List Int} (h : Bck s e ss) (ho : e.Ok) (hl : ss.length = 16) (k : Nat) (d : Int) : Bck s (e.reg k (ad (e.r.getD k 0) d)) (ss.set k (ad (ss.getD k 0) d)) :=
  ⟨h.p, h.k, h.u, fun j hj => by
    show sb ((e.r.set k _).getD j 0) _ = _
    rw [getD_set, getD_set, ho.len, hl]
    by_cases hjk : k = j
    · subst hjk
      rw [if_pos ⟨rfl, hj⟩, if_pos ⟨rfl, hj⟩, ← h.r k hj]
      unfold sb ad
      omega
    · rw [if_neg (by simp [hjk]), if_neg (by simp [hjk])]
      exact h.r j hj⟩
theorem Bck.undo {s e : Re} {ss : List Int} (h : Bck s e ss) (ho : e.Ok) (hs : s.Ok) : (⟨ud e.r ss 16, e.p, e.k, e.u⟩ : Re) = s := by
  obtain ⟨r, p, k, u⟩ := s
  have e1 : ud e.r ss 16 = r := by
    refine list_same (by rw [ud_length, ho.len]; exact hs.len.symm) (fun j => ?_)
    by_cases hj : j < 16
    · rw [ud_at _ _ _ _ (by rw [ho.len]; exact hj), if_pos hj]; exact h.r j hj
    · have h1 : (ud e.r ss 16).length ≤ j := by rw [ud_length, ho.len]; omega
      have h2 : r.length ≤ j := by have : r.length = 16 := hs.len; omega
      simp only [List.getD, List.getElem?_eq_none h1, List.getElem?_eq_none h2]
  rw [e1, h.p, h.k, h.u]
end Go.Proofs.Ytgljkadelkglbaa.Cs
