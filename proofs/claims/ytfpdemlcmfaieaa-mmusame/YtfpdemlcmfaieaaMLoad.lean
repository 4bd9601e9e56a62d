/- Contracts of package mmu: Load. -/
import Derived.Test.YtfpdemlcmfaieaaMOps
import Derived.StillTailTactics
namespace Go.Proofs.Ytfpdemlcmfaieaa.Cs
open Go.RowKit

/-- What holds of every run. -/
theorem walk_all {t : Tabs} {xs : List Int} {u wr keep : Bool} {P : Run → Prop} (hP : ∀ rows va n a, U va → n ≠ 0 → plE t xs rows va (cnt va n) u wr = .ok a → P ⟨va, a, cnt va n⟩) :
    ∀ n rows acc va l rows', U va → (∀ x ∈ acc, P x) → walk t xs u wr keep rows acc va n = (.ok l, rows') → ∀ x ∈ l, P x := by
  intro n
  induction n using Nat.strongRecOn with
  | ind n ih =>
    intro rows acc va l rows' hv ha hw
    by_cases hn : n = 0
    · subst hn
      rw [walk_end] at hw
      injection hw with h1 _
      injection h1 with h1
      subst h1
      exact ha
    · cases hp : plE t xs rows va (cnt va n) u wr with
      | bad k i => rw [walk_bad hn hp] at hw; injection hw with h1 _; cases h1
      | ok a =>
        rw [walk_ok hn hp] at hw
        have := cnt_pos va n hn
        refine ih (n - cnt va n) (by omega) _ _ _ _ _ (nxt_U _ _) (fun x hx => ?_) hw
        rcases List.mem_append.1 hx with hx | hx
        · exact ha x hx
        · simp at hx; subst hx; exact hP rows va n a hv hn hp
/-- A run lies within the memory. -/
def Good (m : Nat) (x : Run) : Prop := U x.va ∧ U x.pa ∧ x.pa + x.n ≤ m ∧ 0 < x.n ∧ x.n ≤ 512
theorem walk_good {t : Tabs} {xs : List Int} {u wr keep : Bool} {rows rows' : Rows} {va : Int} {n : Nat} {l : List Run} (hv : U va) (h : walk t xs u wr keep rows [] va n = (.ok l, rows')) : ∀ x ∈ l, Good xs.length x :=
  walk_all (P := Good xs.length) (fun rows va n a hv hn hp => ⟨hv, (plE_ok hv hp).2, (plE_ok hv hp).1, cnt_pos va n hn, by show cnt va n ≤ 512; unfold cnt; omega⟩) n rows [] va l rows' hv (by simp) h
theorem walk_bad_kd {t : Tabs} {xs : List Int} {u wr keep : Bool} : ∀ n rows acc va k va' i rows', U va → walk t xs u wr keep rows acc va n = (.bad k va' i, rows') → Kd k i ∧ U va' := by
  intro n
  induction n using Nat.strongRecOn with
  | ind n ih =>
    intro rows acc va k va' i rows' hv hw
    by_cases hn : n = 0
    · subst hn; rw [walk_end] at hw; injection hw with h1 _; cases h1
    · cases hp : plE t xs rows va (cnt va n) u wr with
      | bad k' i' =>
        rw [walk_bad hn hp] at hw
        injection hw with h1 _
        injection h1 with e1 e2 e3
        subst e1 e2 e3
        exact ⟨plE_bad hp, hv⟩
      | ok a =>
        rw [walk_ok hn hp] at hw
        have := cnt_pos va n hn
        exact ih (n - cnt va n) (by omega) _ _ _ _ _ _ _ (nxt_U _ _) hw

theorem walk_len {t : Tabs} {xs : List Int} {u wr keep : Bool} {rows rows' : Rows} {va : Int} {n : Nat} {l : List Run} (h : walk t xs u wr keep rows [] va n = (.ok l, rows')) : l.length ≤ n := by
  have key : ∀ n rows acc va, walk t xs u wr keep rows acc va n = (.ok l, rows') → l.length ≤ acc.length + n := by
    intro n
    induction n using Nat.strongRecOn with
    | ind n ih =>
      intro rows acc va hw
      by_cases hn : n = 0
      · subst hn; rw [walk_end] at hw; injection hw with h1 _; injection h1 with h1; subst h1; omega
      · cases hp : plE t xs rows va (cnt va n) u wr with
        | bad k i => rw [walk_bad hn hp] at hw; injection hw with h1 _; cases h1
        | ok a =>
          rw [walk_ok hn hp] at hw
          have h1 := cnt_pos va n hn
          have h2 := cnt_le va n
          have := ih (n - cnt va n) (by omega) _ _ _ hw
          simp at this
          omega
  simpa using key n rows [] va h

/-- The bytes of runs. -/
def gat (xs : List Int) (l : List Run) : List Int := l.flatMap fun x => (xs.drop x.pa.toNat).take x.n
theorem gat_nil (xs : List Int) : gat xs [] = [] := rfl
theorem gat_take (xs : List Int) (l : List Run) (k : Nat) (x : Run) (h : l[k]? = some x) : gat xs (l.take k) ++ (xs.drop x.pa.toNat).take x.n = gat xs (l.take (k + 1)) := by
  have hk := (List.getElem?_eq_some_iff.1 h).1
  rw [List.take_succ_eq_append_getElem hk, (List.getElem?_eq_some_iff.1 h).2]
  simp [gat]
theorem byt_gat {xs : List Int} (h : Rm.Byt xs) (l : List Run) : Rm.Byt (gat xs l) := by
  intro y hy
  simp only [gat, List.mem_flatMap] at hy
  obtain ⟨x, _, hy⟩ := hy
  exact (h.drop _).take _ y hy
theorem gat_len (xs : List Int) (l : List Run) (h : ∀ x ∈ l, Good xs.length x) : (gat xs l).length ≤ l.length * 512 := by
  induction l with
  | nil => simp [gat]
  | cons x l ih =>
    have := ih (fun y hy => h y (List.mem_cons_of_mem _ hy))
    have hx := (h x List.mem_cons_self).2.2.2.2
    simp only [gat, List.flatMap_cons, List.length_append, List.length_take, List.length_cons] at this ⊢
    omega

/-- A row of bytes of one's own. -/
def R8 (w : World) (v : Value) (ys : List Int) : Prop := w.ownsRow 0 5 1 v ys.length (Rm.cel ys)
theorem R8.nil (w : World) : R8 w (.slice none 0 0) [] := ⟨by simp [Rm.cel], .inl ⟨rfl, rfl⟩⟩
theorem R8.typ {w : World} {v : Value} {l : List Int} (h : R8 w v l) {i : Nat} (hi : Tl.Bl v i) : Typ w i 5 := own_typ h hi
theorem R8.shape {w : World} {v : Value} {l : List Int} (h : R8 w v l) : ∃ A c, v = .slice A l.length c := by
  rcases Tl.own_shape h with ⟨rfl, h0⟩ | ⟨r, cap, rfl, _⟩
  · exact ⟨none, 0, by rw [h0]⟩
  · exact ⟨_, cap, rfl⟩
theorem run_app8 (w : World) (v : Value) (ys zs : List Int) (ad : Addr) (m c : Nat) (h : R8 w v ys) (hs : Rm.Src w (some ad) zs) (hm : zs.length = m) (hl : ys.length + m ≤ 1000000000) :
    ∃ v' w', (Builtin.append_ #[22, 22] 22 #[v, .slice (some ad) m c]).run Try.prog w = .ok v' w' ∧ Hid (R8 w' v' (ys ++ zs) ∧ Tl.Step (Tl.Bl v) (Tl.Bl v') w w') := by
  obtain ⟨i, hi, hz, hsz, hb⟩ := info_parts Rm.u8_info
  obtain ⟨v', w', hrun, ho, hg, _, hat⟩ := run_append_own_at (P := Try.prog) w 0 22 22 5 i (.int .u8 0) 1 1 Rm.under_slice hi hz hsz hb rfl (by omega) v ys.length (Rm.cel ys) h ad m c (Rm.cel zs)
    (by rw [Rm.cel_length, hm]; omega) (fun j u hj => by
      obtain ⟨ad', e, _, hc⟩ := hs (by
        have := (List.getElem?_eq_some_iff.1 hj).1
        rw [Rm.cel_length] at this
        omega)
      rw [Option.some.inj e]
      exact hc j u hj) (Rm.cel_one _) (by simp only [maxLen]; omega) (by omega) (by simp)
  refine ⟨v', w', hrun, ?_, ?_, ?_⟩
  · show w'.ownsRow _ _ _ _ _ _
    have e : Rm.cel (ys ++ zs) = Rm.cel ys ++ Rm.cel zs := by simp [Rm.cel]
    rw [List.length_append, e, hm]; exact ho
  · exact Tl.Mods.of_grown hg (fun k e => e)
  · intro k hk
    rcases hat with e | e
    · exact .inl (by rw [Tl.Bl, ← e]; exact hk)
    · right
      rw [Tl.Bl, e] at hk
      injection hk with hk
      omega
/-- A run that the list holds, as it is read. -/
theorem R3.at_ {w : World} {v : Value} {l : List Run} (h : R3 w v l) {k : Nat} {x : Run} (hx : l[k]? = some x) : ∃ b cap, v = .slice (some ⟨b, 0, none⟩) l.length cap ∧ b < w.heap.size ∧
    w.cell? ⟨b, k * 3, none⟩ = some (.int .u32 x.va) ∧ w.cell? ⟨b, k * 3 + 1, none⟩ = some (.int .u32 x.pa) ∧ w.cell? ⟨b, k * 3 + 2, none⟩ = some (.int .i64 x.n) := by
  rcases Tl.own_shape h with ⟨_, h0⟩ | ⟨b, cap, rfl, _, _, hb, hc, _⟩
  · rw [List.eq_nil_of_length_eq_zero h0] at hx; simp at hx
  · obtain ⟨h1, h2, h3⟩ := c3_get l k x hx
    exact ⟨b, cap, rfl, hb, hc _ _ h1, hc _ _ h2, hc _ _ h3⟩

/-- The state of Load's loop. -/
structure Ll (w : World) (g rg tg r : Nat) (S0 S : Nat → Prop) (t : Tabs) (xs : List Int) (rows : Rows) (l : List Run) (v vb : Value) (k : Nat) (W : World) : Prop where
  list : R3 W v l
  abl : Tl.Ab w.heap.size (Tl.Bl v)
  row : R8 W vb (gat xs (l.take k))
  ab : Tl.Ab w.heap.size (Tl.Bl vb)
  ms : Ms W g rg r tg S t rows xs
  st : Tl.Step S0 S w W
  ft : Ft W w.heap.size
  rlt : r < w.heap.size
section
variable {w W W1 W2 W3 : World} {g rg tg r : Nat} {S0 S : Nat → Prop} {t : Tabs} {xs : List Int} {rows : Rows} {l : List Run} {v vb vb' : Value} {k : Nat}
theorem Ll.below (h : Ll w g rg tg r S0 S t xs rows l v vb k W) (b : Below W.heap.size W W1) : Ll w g rg tg r S0 S t xs rows l v vb k W1 :=
  ⟨Tl.own_below h.list b, h.abl, Tl.own_below h.row b, h.ab, h.ms.below b, h.st.trans (Tl.Step.of_below b), h.ft.below b, h.rlt⟩
theorem Ll.next (h : Ll w g rg tg r S0 S t xs rows l v vb k W) {x : Run} (hx : l[k]? = some x) (hr : R8 W1 vb' (gat xs (l.take k) ++ (xs.drop x.pa.toNat).take x.n)) (s : Tl.Step (Tl.Bl vb) (Tl.Bl vb') W W1) :
    Ll w g rg tg r S0 S t xs rows l v vb' (k + 1) W1 := by
  have ty := fun i (e : Tl.Bl vb i) => R8.typ h.row e
  have hS : Tl.Apart (Tl.Bl vb) S := fun i e e' => tb_not h.ms.mx.tb (ty i e) (by decide) (by decide) e'
  refine ⟨Tl.own_mods h.list s.mods (fun i e e' => absurd ((ty i e).ne (h.list.typ e')) (by decide)), h.abl, by rw [gat_take xs l k x hx] at hr; exact hr, fun i e => ?_, ⟨h.ms.mx.mods s.mods (fun e => absurd ((ty _ e).ne h.ms.mx.typ) (by decide)) hS, mem_mods h.ms.mem s.mods (fun e => absurd ((ty _ e).ne (mem_typ h.ms.mem).1) (by decide)) (fun e => by have := h.ab _ e; have := h.rlt; omega)⟩, ⟨h.st.mods.trans s.mods (fun i hi e => by have := h.ab i e; omega), h.st.grow⟩, h.ft.mods s.mods (fun e => absurd ((ty _ e).ne h.ft.typ) (by decide)), h.rlt⟩
  rcases s.grow i e with e | e
  · exact h.ab i e
  · have := h.st.mods.size; omega
end

end Go.Proofs.Ytfpdemlcmfaieaa.Cs
