/- All is as if nothing were buffered, in writes, too: as long as the buffer is the memory's. No program is in sight. -/
import Derived.Test.YtfpdemlcmfaieaaDMem
import Derived.Test.YtfpdemlcmfaieaaWMarks
namespace Go.Proofs.Ytfpdemlcmfaieaa.Cs
open Go.RowKit

/-- Of one page the buffer is the memory's. -/
def CohAt (t : Tabs) (xs : List Int) (rows : Rows) (va : Int) : Prop := ∀ x, got rows (va / 512) = some x → rdE t xs va false = .ok x
/-- An address whose entry is there. -/
structure Pg (t : Tabs) (n : Nat) (s0 : Bool) (va : Int) : Prop where
  u : U va
  i : ein t va = true
  f : epl t va + 4 ≤ n
  s : sys va = s0
theorem ein_bit {t : Tabs} {va : Int} (h : ein t va = true) : va / 1073741824 % 2 = 0 := by
  unfold ein at h
  simp only [Bool.and_eq_true, beq_iff_eq] at h
  exact h.1
theorem epl_apart {t : Tabs} {n : Nat} {s0 : Bool} {a b : Int} (h : Pg t n s0 a) (k : Pg t n s0 b) (ne : a / 512 ≠ b / 512) : epl t a + 4 ≤ epl t b ∨ epl t b + 4 ≤ epl t a := by
  have h1 := ein_bit h.i
  have k1 := ein_bit k.i
  obtain ⟨a0, a1⟩ := h.u
  obtain ⟨b0, b1⟩ := k.u
  have hf := h.f
  have kf := k.f
  have hs := h.s.trans k.s.symm
  have s1 : a / 2147483648 % 2 = b / 2147483648 % 2 := by
    unfold sys at hs
    have x1 : a / 2147483648 % 2 = 0 ∨ a / 2147483648 % 2 = 1 := by omega
    have x2 : b / 2147483648 % 2 = 0 ∨ b / 2147483648 % 2 = 1 := by omega
    rcases x1 with x1 | x1 <;> rcases x2 with x2 | x2 <;> rw [x1, x2] at hs ⊢ <;> simp at hs
  have ht : tpg a ≠ tpg b := by unfold tpg; omega
  have ha : 0 ≤ tpg a ∧ tpg a < 2097152 := by unfold tpg; omega
  have hb : 0 ≤ tpg b ∧ tpg b < 2097152 := by unfold tpg; omega
  unfold epl at hf kf ⊢
  rw [hs] at hf ⊢
  generalize (if sys b then t.sb else t.pb) = B at *
  generalize tpg a = p at *
  generalize tpg b = q at *
  omega
theorem rdE_yes {t : Tabs} {xs : List Int} {va : Int} {wr : Bool} (h1 : ein t va = true) (h2 : epl t va + 4 ≤ xs.length) : rdE t xs va wr = .ok (Rm.val xs (epl t va).toNat 4) := by
  unfold rdE; rw [if_pos h1, if_pos h2]
theorem mkMem_at {t : Tabs} {xs : List Int} {rows : Rows} {va : Int} (hb : Rm.Byt xs) (c : CohAt t xs rows va) : mkMem t xs rows va = mkMem t xs [] va := by
  unfold mkMem
  by_cases h0 : t.me = 0
  · rw [if_pos h0, if_pos h0]
  rw [if_neg h0, if_neg h0]
  have e0 : (Tl.hav ([] : Rows) (va / 512) && Pt.im (Tl.ent ([] : Rows) (va / 512))) = false := by simp [Tl.hav, Tl.pos]
  rw [e0, if_neg (by decide : ¬ false = true)]
  by_cases h1 : (Tl.hav rows (va / 512) && Pt.im (Tl.ent rows (va / 512))) = true
  · rw [if_pos h1]
    rw [Bool.and_eq_true] at h1
    obtain ⟨i1, i2, i3, _⟩ := rdE_ok hb (c _ (got_of h1.1))
    rw [if_pos ⟨i1, i2⟩]
    have i4 := h1.2
    rw [i3] at i4
    rw [show mkx (Rm.val xs (epl t va).toNat 4) = Rm.val xs (epl t va).toNat 4 by unfold mkx; rw [if_pos i4]]
    exact (splice_same xs _ hb (by have := (epl_U t va).1; omega)).symm
  · rw [if_neg h1]
theorem mkMem_byt {t : Tabs} {xs : List Int} {rows : Rows} {va : Int} (hb : Rm.Byt xs) : Rm.Byt (mkMem t xs rows va) := by
  unfold mkMem
  split
  · exact hb
  · split
    · exact hb
    · split
      · exact hb.splice (Rm.low_byt _ _) _
      · exact hb
theorem mkRows_fit {t : Tabs} {rows : Rows} {va : Int} (hv : U va) (hf : Tl.Fit rows) : Tl.Fit (mkRows t rows va) := by
  unfold mkRows
  split
  · exact hf
  · split
    · exact hf.put (page_U hv) (mkx_U (ent_U hf _))
    · exact hf
theorem mkRows_nil (t : Tabs) (va : Int) : mkRows t [] va = [] := by
  unfold mkRows
  split
  · rfl
  · simp [Tl.hav, Tl.pos]
/-- A mark keeps what is the memory's. -/
theorem mark_coh {t : Tabs} {xs : List Int} {rows : Rows} {s0 : Bool} {a b : Int} (hb : Rm.Byt xs) (hf : Tl.Fit rows) (ha : Pg t xs.length s0 a) (hb' : Pg t xs.length s0 b) (ca : CohAt t xs rows a) (cb : CohAt t xs rows b) :
    CohAt t (mkMem t xs rows a) (mkRows t rows a) b := by
  intro x hx
  have hlen := mkMem_length t xs rows a
  have he := (epl_U t a).1
  have he' := (epl_U t b).1
  have hfa := ha.f
  have hfb := hb'.f
  by_cases h0 : t.me = 0
  · have e1 : mkMem t xs rows a = xs := by unfold mkMem; rw [if_pos h0]
    have e2 : mkRows t rows a = rows := by unfold mkRows; rw [if_pos h0]
    rw [e1]; rw [e2] at hx
    exact cb x hx
  have hv := Rm.val_bound xs (epl t a).toNat hb 4 (by omega)
  by_cases hp : a / 512 = b / 512
  · have e5 : epl t b = epl t a := by
      have h1 : tpg b = tpg a := by unfold tpg; rw [hp]
      unfold epl; rw [h1, ha.s, hb'.s]
    rw [rdE_yes hb'.i (by rw [hlen]; exact hb'.f), e5]
    by_cases h1 : Tl.hav rows (a / 512) = true
    · have h2 := (rdE_ok hb (ca _ (got_of h1))).2.2.1
      by_cases h3 : Pt.im (Tl.ent rows (a / 512)) = true
      · have e1 : mkMem t xs rows a = xs := by unfold mkMem; rw [if_neg h0, h1, h3]; rfl
        have e2 : mkRows t rows a = rows := by unfold mkRows; rw [if_neg h0, h1, h3]; rfl
        rw [e2, ← hp, got_of h1] at hx
        injection hx with hx
        rw [e1, ← hx, h2]
      · have h3' : Pt.im (Tl.ent rows (a / 512)) = false := by simpa using h3
        have e1 : mkMem t xs rows a = splice xs (epl t a).toNat (Rm.low (mkx (Rm.val xs (epl t a).toNat 4)) 4) := by
          unfold mkMem; rw [if_neg h0, h1, h3', if_neg (by decide), if_pos ⟨ha.i, ha.f⟩]
        have e2 : mkRows t rows a = Tl.putR rows (a / 512) (mkx (Tl.ent rows (a / 512))) := by
          unfold mkRows; rw [if_neg h0, h1, h3']; rfl
        rw [e2, ← hp] at hx
        rcases got_put hf.1 hx with ⟨_, hx⟩ | ⟨hx, _⟩
        · have hm := mkx_U (y := Rm.val xs (epl t a).toNat 4) ⟨hv.1, by have := hv.2; omega⟩
          rw [e1, Rm.val_put xs _ 4 _ (by omega), hx, h2]
          rw [show (256 : Int) ^ 4 = 4294967296 by decide, Int.emod_eq_of_lt hm.1 hm.2]
        · exact absurd rfl hx
    · have h1' : Tl.hav rows (a / 512) = false := by simpa using h1
      have e2 : mkRows t rows a = rows := by unfold mkRows; rw [if_neg h0, h1']; rfl
      rw [e2, ← hp, got_out h1'] at hx
      cases hx
  · have hg : got rows (b / 512) = some x := by
      unfold mkRows at hx
      rw [if_neg h0] at hx
      split at hx
      · rcases got_put hf.1 hx with ⟨e, _⟩ | ⟨_, e⟩
        · exact absurd e hp
        · exact e
      · exact hx
    have h5 := cb x hg
    obtain ⟨i1, i2, i3, _⟩ := rdE_ok hb h5
    rw [rdE_yes i1 (by rw [hlen]; exact i2), i3]
    congr 1
    unfold mkMem
    rw [if_neg h0]
    split
    · rfl
    · split
      · rcases epl_apart ha hb' hp with e | e
        · exact val_behind xs _ _ _ 4 (by rw [Rm.low_length]; omega) (by rw [Rm.low_length]; omega)
        · exact val_before xs _ _ _ 4 (by omega) (by omega)
      · rfl
theorem mks_off {t : Tabs} (h : t.me = 0) : ∀ (l : List Run) (o : List Int × Rows), mks t l o = o
  | [], _ => rfl
  | x :: l, o => by
    rw [mks, mks_off h l]
    simp [mkMem, mkRows, h]
theorem mks_nil (t : Tabs) : ∀ (l : List Run) (xs : List Int), (mks t l (xs, [])).2 = []
  | [], _ => rfl
  | x :: l, xs => by
    rw [mks]
    simp only [mkRows_nil]
    exact mks_nil t l _
theorem mks_coh {t : Tabs} {s0 : Bool} : ∀ (l : List Run) (xs : List Int) (rows : Rows), Rm.Byt xs → Tl.Fit rows → (∀ x ∈ l, Pg t xs.length s0 x.va ∧ CohAt t xs rows x.va) → (mks t l (xs, rows)).1 = (mks t l (xs, [])).1
  | [], _, _, _, _, _ => rfl
  | x :: l, xs, rows, hb, hf, h => by
    obtain ⟨hx, cx⟩ := h x (by simp)
    rw [mks, mks]
    simp only [mkRows_nil]
    have next : ∀ y ∈ l, Pg t (mkMem t xs rows x.va).length s0 y.va ∧ CohAt t (mkMem t xs rows x.va) (mkRows t rows x.va) y.va := fun y hy => by
      obtain ⟨hy1, hy2⟩ := h y (by simp [hy])
      exact ⟨by rw [mkMem_length]; exact hy1, mark_coh hb hf hx hy1 cx hy2⟩
    rw [mks_coh l _ _ (mkMem_byt hb) (mkRows_fit hx.u hf) next, mkMem_at hb cx]

theorem plE_there {t : Tabs} {xs : List Int} {va n a : Int} {u wr : Bool} (hb : Rm.Byt xs) (h0 : t.me ≠ 0) (h : plE t xs [] va n u wr = .ok a) : ein t va = true ∧ epl t va + 4 ≤ xs.length := by
  unfold plE at h
  rw [if_neg h0] at h
  split at h
  · rename_i x e
    unfold enE at e
    rw [getE_nil] at e
    split at e
    · rename_i y e2
      obtain ⟨h1, h2, _⟩ := rdE_ok hb e2
      exact ⟨h1, h2⟩
    · cases e
  · cases h
theorem walk_rows {t : Tabs} {xs : List Int} {u wr : Bool} : ∀ n rows acc va, (walk t xs u wr false rows acc va n).2 = rows := by
  intro n
  induction n using Nat.strongRecOn with
  | ind n ih =>
    intro rows acc va
    by_cases hn : n = 0
    · subst hn; rw [walk_end]
    · cases hq : plE t xs rows va (cnt va n) u wr with
      | bad k i => rw [walk_bad hn hq, plR_false]
      | ok a =>
        rw [walk_ok hn hq, plR_false]
        have := cnt_pos va n hn
        exact ih (n - cnt va n) (by omega) _ _ _
theorem walk_pages {t : Tabs} {xs : List Int} {u wr : Bool} (hb : Rm.Byt xs) (h0 : t.me ≠ 0) : ∀ n acc va l, U va → (walk t xs u wr false [] acc va n).1 = .ok l →
    (n ≠ 0 → ein t va = true) ∧ ∃ l', l = acc ++ l' ∧ ∀ x ∈ l', Pg t xs.length (sys va) x.va := by
  intro n
  induction n using Nat.strongRecOn with
  | ind n ih =>
    intro acc va l hv h
    by_cases hn : n = 0
    · subst hn
      rw [walk_end] at h
      injection h with h
      exact ⟨fun e => absurd rfl e, [], by rw [List.append_nil, h], fun x hx => by simp at hx⟩
    · cases hq : plE t xs [] va (cnt va n) u wr with
      | bad k i => rw [walk_bad hn hq] at h; cases h
      | ok a =>
        rw [walk_ok hn hq, plR_false] at h
        have hc := cnt_pos va n hn
        obtain ⟨i1, i2⟩ := plE_there hb h0 hq
        obtain ⟨j1, l', e, j2⟩ := ih (n - cnt va n) (by omega) _ _ l (nxt_U _ _) h
        refine ⟨fun _ => i1, ⟨va, a, cnt va n⟩ :: l', by rw [e, List.append_assoc]; rfl, fun x hx => ?_⟩
        rcases List.mem_cons.1 hx with rfl | hx
        · exact ⟨hv, i1, i2, rfl⟩
        · by_cases hr : n - cnt va n = 0
          · rw [hr, walk_end] at h
            injection h with h
            rw [e] at h
            have : l' = [] := by simpa using h.symm
            rw [this] at hx
            simp at hx
          · obtain ⟨p1, p2, p3, p4⟩ := j2 x hx
            refine ⟨p1, p2, p3, p4.trans ?_⟩
            have b1 := ein_bit i1
            have b2 := ein_bit (j1 hr)
            obtain ⟨v0, v1⟩ := hv
            have hcn : (cnt va n : Int) = 512 - va % 512 := by unfold cnt at hr ⊢; omega
            unfold nxt at b2
            unfold sys nxt
            rw [hcn] at b2 ⊢
            have : (va + (512 - va % 512)) % 4294967296 / 2147483648 % 2 = va / 2147483648 % 2 := by omega
            rw [this]
/-- What a write leaves is what it leaves if nothing is buffered. -/
theorem stM_coh {t : Tabs} {xs ys : List Int} {rows : Rows} {u : Bool} {va : Int} {n : Nat} (hb : Rm.Byt xs) (hf : Tl.Fit rows) (hv : U va) (hc : Coh t xs rows) :
    stM t xs rows ys (out t xs u true va n) = stM t xs [] ys (out t xs u true va n) := by
  cases ha : out t xs u true va n with
  | bad k v i => rfl
  | ok l =>
    simp only [stM]
    by_cases h0 : t.me = 0
    · rw [mks_off h0, mks_off h0]
    · obtain ⟨_, l', e, hp⟩ := walk_pages hb h0 n [] va l hv ha
      rw [List.nil_append] at e
      subst e
      rw [mks_coh l xs rows hb hf (fun x hx => ⟨hp x hx, fun y hy => hc x.va y (hp x hx).u hy⟩)]
theorem stR_nil (t : Tabs) (xs : List Int) (a : Acc) : stR t xs [] a = [] := by
  cases a with
  | bad k v i => rfl
  | ok l => exact mks_nil t l xs

theorem same_nx {t : Tabs} {xs ys : List Int} {rows : Rows} {c : Cal} (hb : Rm.Byt xs) (hf : Tl.Fit rows) (hv : U c.va) (hc : Coh t xs rows) :
    nx false ⟨t, xs, []⟩ c ys = ⟨(nx true ⟨t, xs, rows⟩ c ys).t, (nx true ⟨t, xs, rows⟩ c ys).xs, []⟩ := by
  have key : ∀ u wr n, ∃ r, walk t xs u wr true rows [] c.va n = (out t xs u wr c.va n, r) ∧ walk t xs u wr false [] [] c.va n = (out t xs u wr c.va n, []) ∧ Coh t xs r ∧ Tl.Fit r := fun u wr n => by
    obtain ⟨r, h1, h2, h3⟩ := walk_out (u := u) (wr := wr) (keep := true) (n := n) hb hv hc hf
    exact ⟨r, h1, Prod.ext rfl (walk_rows n [] [] c.va), h2, h3⟩
  unfold nx
  simp only
  by_cases k0 : c.K = 0
  · simp only [if_pos k0, walk_rows]
  simp only [if_neg k0]
  by_cases k1 : c.K = 1
  · simp only [if_pos k1]
    obtain ⟨r, h1, h2, h3, h4⟩ := key c.u true (max 0 (min c.n 4)).toNat
    rw [h1, h2]
    simp only [stR_nil, stM_coh hb h4 hv h3]
  simp only [if_neg k1]
  by_cases k2 : c.K = 2
  · simp only [if_pos k2, walk_rows]
  simp only [if_neg k2]
  by_cases k3 : c.K = 3
  · simp only [if_pos k3]
    obtain ⟨r, h1, h2, h3, h4⟩ := key c.u true c.m
    rw [h1, h2]
    simp only [stR_nil, stM_coh hb h4 hv h3]
  simp only [if_neg k3]
  by_cases k4 : c.K = 4
  · simp only [if_pos k4, walk_rows]
  simp only [if_neg k4]
  by_cases k5 : c.K = 5
  · simp only [if_pos k5]
  simp only [if_neg k5]
  by_cases k6 : c.K = 6
  · simp only [if_pos k6]
  simp only [if_neg k6]
  by_cases k7 : c.K = 7
  · simp only [if_pos k7]
  simp only [if_neg k7]
  by_cases k8 : c.K = 8
  · simp only [if_pos k8]
    rfl
  simp only [if_neg k8]
  by_cases k9 : c.K = 9
  · simp only [if_pos k9]
  simp only [if_neg k9]

end Go.Proofs.Ytfpdemlcmfaieaa.Cs
