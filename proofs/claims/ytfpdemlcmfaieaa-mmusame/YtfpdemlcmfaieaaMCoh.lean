/- A buffer whose entries are those of the memory: all is as if nothing were buffered. No program is in sight. -/
import Derived.Test.YtfpdemlcmfaieaaMTop
namespace Go.Proofs.Ytfpdemlcmfaieaa.Cs
open Go.RowKit

theorem pos_app_in {xs ys : Rows} {q : Int} (h : Tl.pos xs q < xs.length) : Tl.pos (xs ++ ys) q = Tl.pos xs q := by
  induction xs with
  | nil => simp at h
  | cons r xs ih =>
    by_cases e : r.1 = q
    · rw [List.cons_append, Tl.pos_cons_eq e, Tl.pos_cons_eq e]
    · rw [Tl.pos_cons_ne e] at h
      rw [List.cons_append, Tl.pos_cons_ne e, Tl.pos_cons_ne e, ih (by simpa using h)]
theorem pos_app_out {xs ys : Rows} {q : Int} (h : ¬ Tl.pos xs q < xs.length) : Tl.pos (xs ++ ys) q = xs.length + Tl.pos ys q := by
  induction xs with
  | nil => simp
  | cons r xs ih =>
    by_cases e : r.1 = q
    · rw [Tl.pos_cons_eq e] at h; simp at h
    · rw [Tl.pos_cons_ne e] at h
      rw [List.cons_append, Tl.pos_cons_ne e, ih (by simpa using h), List.length_cons]
      omega
/-- What a buffer has of a page. -/
def got (rows : Rows) (q : Int) : Option Int := if Tl.pos rows q < rows.length then some (Tl.ent rows q) else none
theorem got_hav {rows : Rows} {q x : Int} (h : got rows q = some x) : Tl.hav rows q = true ∧ Tl.ent rows q = x := by
  unfold got at h
  split at h
  · rename_i e; exact ⟨decide_eq_true e, by injection h⟩
  · cases h
theorem got_of {rows : Rows} {q : Int} (h : Tl.hav rows q = true) : got rows q = some (Tl.ent rows q) := by
  have : Tl.pos rows q < rows.length := of_decide_eq_true h
  simp [got, this]
theorem got_out {rows : Rows} {q : Int} (h : Tl.hav rows q = false) : got rows q = none := by
  have : ¬ Tl.pos rows q < rows.length := of_decide_eq_false h
  simp [got, this]
theorem got_cons {r : Int × Int} {rows : Rows} {q : Int} : got (r :: rows) q = if r.1 = q then some r.2 else got rows q := by
  by_cases e : r.1 = q
  · simp [got, Tl.pos_cons_eq e, Tl.ent, Tl.row, e]
  · rw [if_neg e]
    simp [got, Tl.pos_cons_ne e, Tl.ent, Tl.row]
theorem got_app {xs : Rows} {r : Int × Int} {q : Int} : got (xs ++ [r]) q = if Tl.hav xs q then got xs q else if r.1 = q then some r.2 else none := by
  induction xs with
  | nil => rw [List.nil_append, got_cons]; simp [Tl.hav, Tl.pos, got]
  | cons y xs ih =>
    rw [List.cons_append, got_cons, got_cons, ih]
    by_cases e : y.1 = q
    · simp [e, Tl.hav, Tl.pos_cons_eq e]
    · simp [e, Tl.hav, Tl.pos_cons_ne e]
theorem got_set {xs : Rows} {p x q : Int} (h : Tl.pos xs p < xs.length) : got (xs.set (Tl.pos xs p) (p, x)) q = if p = q then some x else got xs q := by
  induction xs with
  | nil => simp at h
  | cons y xs ih =>
    by_cases e : y.1 = p
    · rw [Tl.pos_cons_eq e, List.set_cons_zero, got_cons, got_cons]
      by_cases e2 : p = q
      · simp [e2]
      · have : ¬ y.1 = q := by rw [e]; exact e2
        simp [e2, this]
    · rw [Tl.pos_cons_ne e] at h ⊢
      rw [List.set_cons_succ, got_cons, got_cons, ih (by simpa using h)]
      by_cases e2 : p = q
      · have : ¬ y.1 = q := by rw [← e2]; exact e
        simp [e2, this]
      · simp [e2]
theorem got_tail {xs : Rows} {q x : Int} (hn : (Tl.pages xs).Nodup) (h : got xs.tail q = some x) : got xs q = some x := by
  cases xs with
  | nil => exact h
  | cons y xs =>
    rw [List.tail_cons] at h
    rw [got_cons]
    have hq := (got_hav h).1
    have hm := Tl.hav_mem.1 (of_decide_eq_true hq)
    simp only [Tl.pages, List.map_cons, List.nodup_cons] at hn
    rw [if_neg]
    · exact h
    · rintro rfl; exact hn.1 hm
/-- Behind Put: the page has what was put, others have what they had, or nothing. -/
theorem got_put {xs : Rows} {p x q y : Int} (hn : (Tl.pages xs).Nodup) (h : got (Tl.putR xs p x) q = some y) : (p = q ∧ y = x) ∨ (p ≠ q ∧ got xs q = some y) := by
  unfold Tl.putR at h
  split at h
  · rename_i hp
    rw [got_set hp] at h
    split at h
    · rename_i e; injection h with h; exact .inl ⟨e, h.symm⟩
    · rename_i e; exact .inr ⟨e, h⟩
  · rename_i hp
    have key : ∀ zs : Rows, (∀ w, got zs q = some w → got xs q = some w) → got (zs ++ [(p, x)]) q = some y → (p = q ∧ y = x) ∨ (p ≠ q ∧ got xs q = some y) := by
      intro zs hz hg
      rw [got_app] at hg
      split at hg
      · rename_i hh
        have h2 := hz y hg
        refine .inr ⟨?_, h2⟩
        rintro rfl
        exact hp (of_decide_eq_true (got_hav h2).1)
      · split at hg
        · rename_i e; injection hg with hg; exact .inl ⟨e, hg.symm⟩
        · cases hg
    split at h
    · exact key _ (fun w hw => got_tail hn hw) h
    · exact key _ (fun w hw => hw) h

/-- A page's address. -/
theorem rdE_page {t : Tabs} {xs : List Int} {va va' : Int} {wr wr' : Bool} {x : Int} (h : va / 512 = va' / 512) (hx : rdE t xs va wr = .ok x) : rdE t xs va' wr' = .ok x := by
  have h1 : tpg va' = tpg va := by unfold tpg; rw [h]
  have h2 : sys va' = sys va := by unfold sys; rw [show va' / 2147483648 = va / 2147483648 by omega]
  have h3 : va' / 1073741824 = va / 1073741824 := by omega
  have h4 : ein t va' = ein t va := by unfold ein; rw [h1, h2, h3]
  have h5 : epl t va' = epl t va := by unfold epl; rw [h1, h2]
  unfold rdE at hx ⊢
  rw [h4, h5]
  split at hx
  · rename_i i1
    rw [if_pos i1]
    split at hx
    · rename_i i2
      rw [if_pos i2]; exact hx
    · cases hx
  · cases hx
/-- The buffer is the memory's. -/
def Coh (t : Tabs) (xs : List Int) (rows : Rows) : Prop := ∀ va x, U va → got rows (va / 512) = some x → rdE t xs va false = .ok x
theorem Coh.nil {t : Tabs} {xs : List Int} : Coh t xs [] := fun va x _ h => by simp [got] at h
theorem Coh.get {t : Tabs} {xs : List Int} {rows : Rows} (h : Coh t xs rows) {va : Int} (hv : U va) (wr : Bool) : getE t xs rows va wr = rdE t xs va wr := by
  unfold getE
  split
  · rename_i e
    exact (rdE_page rfl (h va _ hv (got_of e))).symm
  · rfl
theorem getE_nil (t : Tabs) (xs : List Int) (va : Int) (wr : Bool) : getE t xs [] va wr = rdE t xs va wr := by simp [getE, Tl.hav, Tl.pos]
theorem Coh.en {t : Tabs} {xs : List Int} {rows : Rows} (h : Coh t xs rows) {va : Int} (hv : U va) (u wr : Bool) : enE t xs rows va u wr = enE t xs [] va u wr := by
  unfold enE; rw [h.get hv, getE_nil]
theorem Coh.pl {t : Tabs} {xs : List Int} {rows : Rows} (h : Coh t xs rows) {va : Int} (hv : U va) (n : Int) (u wr : Bool) : plE t xs rows va n u wr = plE t xs [] va n u wr := by
  unfold plE; rw [h.en hv]
theorem Coh.next {t : Tabs} {xs : List Int} {rows : Rows} (h : Coh t xs rows) (hn : (Tl.pages rows).Nodup) {va : Int} (hv : U va) (u wr keep : Bool) : Coh t xs (plR t xs rows va u wr keep) := by
  unfold plR enR
  split
  · exact h
  · split
    · rename_i x e
      split
      · intro va' y hv' hg
        rcases got_put hn hg with ⟨e1, rfl⟩ | ⟨_, hg⟩
        · have hr : rdE t xs va wr = .ok y := by
            rw [enE, h.get hv] at e
            split at e
            · rename_i z e2
              obtain ⟨rfl, _, _⟩ := useE_ok e
              exact e2
            · cases e
          exact rdE_page e1 hr
        · exact h va' y hv' hg
      · exact h
    · exact h
theorem walk_coh {t : Tabs} {xs : List Int} {u wr keep : Bool} (hb : Rm.Byt xs) : ∀ n rows acc va, U va → Coh t xs rows → Tl.Fit rows →
    (walk t xs u wr keep rows acc va n).1 = (walk t xs u wr false [] acc va n).1 ∧ Coh t xs (walk t xs u wr keep rows acc va n).2 ∧ Tl.Fit (walk t xs u wr keep rows acc va n).2 := by
  intro n
  induction n using Nat.strongRecOn with
  | ind n ih =>
    intro rows acc va hv hc hf
    by_cases hn : n = 0
    · subst hn; rw [walk_end, walk_end]; exact ⟨rfl, hc, hf⟩
    · have hp := hc.pl hv (cnt va n) u wr
      have hc' := hc.next hf.1 hv u wr keep
      have hf' : Tl.Fit (plR t xs rows va u wr keep) := plR_fit hv hb hf
      cases hq : plE t xs [] va (cnt va n) u wr with
      | bad k i => rw [walk_bad hn (hp.trans hq), walk_bad hn hq]; exact ⟨rfl, hc', hf'⟩
      | ok a =>
        rw [walk_ok hn (hp.trans hq), walk_ok hn hq, plR_false]
        have := cnt_pos va n hn
        exact ih (n - cnt va n) (by omega) _ _ _ (nxt_U _ _) hc' hf'
/-- What an access answers if nothing is buffered. -/
def out (t : Tabs) (xs : List Int) (u wr : Bool) (va : Int) (n : Nat) : Acc := (walk t xs u wr false [] [] va n).1
theorem walk_out {t : Tabs} {xs : List Int} {u wr keep : Bool} {rows : Rows} {va : Int} {n : Nat} (hb : Rm.Byt xs) (hv : U va) (hc : Coh t xs rows) (hf : Tl.Fit rows) :
    ∃ rows', walk t xs u wr keep rows [] va n = (out t xs u wr va n, rows') ∧ Coh t xs rows' ∧ Tl.Fit rows' := by
  obtain ⟨h1, h2, h3⟩ := walk_coh (u := u) (wr := wr) (keep := keep) hb n rows [] va hv hc hf
  exact ⟨(walk t xs u wr keep rows [] va n).2, Prod.ext h1 rfl, h2, h3⟩

end Go.Proofs.Ytfpdemlcmfaieaa.Cs
