/- A write byte by byte is a write run by run: no program is in sight. -/
import Derived.Test.YtfpdemlcmfaieaaRLoad
namespace Go.Proofs.Ytfpdemlcmfaieaa.Cs
open Go.RowKit

/-- A page is marked where a byte is its first. -/
def mk1 (t : Tabs) (va : Int) (o : List Int × Rows) : List Int × Rows := (mkMem t o.1 o.2 va, mkRows t o.2 va)
def bst (t : Tabs) (va : Int) (i : Nat) (o : List Int × Rows) : List Int × Rows := if i = 0 ∨ (va + i) % 512 = 0 then mk1 t ((va + i) % 4294967296) o else o
def bms (t : Tabs) (va : Int) : Nat → Nat → List Int × Rows → List Int × Rows
  | _, 0, o => o
  | i, c + 1, o => bms t va (i + 1) c (bst t va i o)
theorem bms_app (t : Tabs) (va : Int) (c d : Nat) : ∀ i o, bms t va i (c + d) o = bms t va (i + c) d (bms t va i c o) := by
  induction c with
  | zero => intro i o; rw [Nat.zero_add, Nat.add_zero]; rfl
  | succ c ih =>
    intro i o
    rw [show c + 1 + d = (c + d) + 1 by omega, bms, ih, bms, show i + 1 + c = i + (c + 1) by omega]
theorem bms_in (t : Tabs) (va : Int) (c : Nat) : ∀ i o, (∀ j, i ≤ j → j < i + c → j ≠ 0 ∧ (va + (j : Int)) % 512 ≠ 0) → bms t va i c o = o := by
  induction c with
  | zero => intro i o _; rfl
  | succ c ih =>
    intro i o h
    obtain ⟨h1, h2⟩ := h i (Nat.le_refl _) (by omega)
    rw [bms, bst, if_neg (by intro e; rcases e with e | e; · exact h1 e
                             · exact h2 e)]
    exact ih (i + 1) o (fun j hj hj' => h j (by omega) (by omega))
/-- Runs that follow one another. -/
def Chain : Int → List Run → Prop
  | _, [] => True
  | va, x :: l => x.va = va ∧ 0 < x.n ∧ x.n ≤ 512 - (va % 512).toNat ∧ (l ≠ [] → x.n = 512 - (va % 512).toNat) ∧ Chain ((va + x.n) % 4294967296) l
theorem walk_app {t : Tabs} {xs : List Int} {u wr keep : Bool} {l : List Run} {rows' : Rows} : ∀ n rows acc va, U va → walk t xs u wr keep rows acc va n = (.ok l, rows') → ∃ l2, l = acc ++ l2 ∧ Chain va l2 ∧ (l2.map Run.n).sum = n := by
  intro n
  induction n using Nat.strongRecOn with
  | ind n ih =>
    intro rows acc va hv hw
    by_cases hn : n = 0
    · subst hn; rw [walk_end] at hw; injection hw with h1 _; injection h1 with h1; subst h1; exact ⟨[], by simp, trivial, rfl⟩
    · cases hp : plE t xs rows va (cnt va n) u wr with
      | bad k i => rw [walk_bad hn hp] at hw; injection hw with h1 _; cases h1
      | ok a =>
        rw [walk_ok hn hp] at hw
        have hc := cnt_pos va n hn
        have hc2 := cnt_le va n
        obtain ⟨l2, e1, e2, e3⟩ := ih (n - cnt va n) (by omega) _ _ _ (nxt_U _ _) hw
        refine ⟨⟨va, a, cnt va n⟩ :: l2, by rw [e1]; simp, ⟨rfl, hc, by show cnt va n ≤ _; unfold cnt; omega, fun hne => ?_, e2⟩, by simp [e3]; omega⟩
        show cnt va n = _
        have : n - cnt va n ≠ 0 := by
          intro e0
          rw [e0] at e3
          cases l2 with
          | nil => exact hne rfl
          | cons y l2 =>
            have := e2.2.1
            simp at e3
            omega
        unfold cnt at this ⊢
        omega
theorem bms_chain (t : Tabs) (va : Int) (hv : U va) : ∀ (l : List Run) (i c : Nat) (o : List Int × Rows), Chain ((va + i) % 4294967296) l → (l.map Run.n).sum = c → (l ≠ [] → i = 0 ∨ (va + i) % 512 = 0) → bms t va i c o = mks t l o := by
  intro l
  induction l with
  | nil => intro i c o _ hs _; simp at hs; subst hs; rfl
  | cons x l ih =>
    intro i c o hc hs hb
    obtain ⟨h1, h2, h3, h4, h5⟩ := hc
    have hv0 := hv.1
    rw [List.map_cons, List.sum_cons] at hs
    obtain ⟨m, hm⟩ : ∃ m, x.n = m + 1 := ⟨x.n - 1, by omega⟩
    have e0 : ((va + (i : Int)) % 4294967296) % 512 = (va + i) % 512 := by omega
    rw [e0] at h3 h4
    have e1 : c = (m + 1) + (c - (m + 1)) := by omega
    have hin : bms t va (i + 1) m (mk1 t ((va + (i : Int)) % 4294967296) o) = mk1 t ((va + (i : Int)) % 4294967296) o := by
      refine bms_in t va m (i + 1) _ (fun j hj hj' => ⟨by omega, ?_⟩)
      obtain ⟨d, hd⟩ : ∃ d : Nat, j = i + d := ⟨j - i, by omega⟩
      have hd1 : 0 < d ∧ d ≤ m := by omega
      rw [hd, show (va + ((i + d : Nat) : Int)) = va + i + d by omega]
      omega
    rw [e1, bms_app, bms, bst, if_pos (hb (by simp)), hin, mks, ← h1]
    refine ih (i + (m + 1)) (c - (m + 1)) _ ?_ (by omega) (fun hne => .inr ?_)
    · have : (va + ((i + (m + 1) : Nat) : Int)) % 4294967296 = ((va + (i : Int)) % 4294967296 + (x.n : Int)) % 4294967296 := by rw [hm]; omega
      rw [this]; exact h5
    · have := h4 hne
      omega
theorem bms_walk {t : Tabs} {xs : List Int} {u wr keep : Bool} {l : List Run} {rows rows' : Rows} {va : Int} {n : Nat} (hv : U va) (h : walk t xs u wr keep rows [] va n = (.ok l, rows')) (o : List Int × Rows) : bms t va 0 n o = mks t l o := by
  obtain ⟨l2, e1, e2, e3⟩ := walk_app n rows [] va hv h
  rw [List.nil_append] at e1
  subst e1
  refine bms_chain t va hv l 0 n o ?_ e3 (fun _ => .inl rfl)
  obtain ⟨h0, h1⟩ := hv
  rw [show (va + ((0 : Nat) : Int)) % 4294967296 = va by omega]
  exact e2
theorem mk1_off {t : Tabs} (h : t.me = 0) (va : Int) (o : List Int × Rows) : mk1 t va o = o := by simp [mk1, mkMem, mkRows, h]
theorem bst_off {t : Tabs} (h : t.me = 0) (va : Int) (i : Nat) (o : List Int × Rows) : bst t va i o = o := by
  unfold bst
  split
  · exact mk1_off h _ _
  · rfl

/-- Bytes put one by one. -/
def bps : List Int → List Int → List Int → List Int
  | xs, p :: ps, y :: ys => bps (xs.set p.toNat y) ps ys
  | xs, _, _ => xs
theorem splice_cons (xs ws : List Int) (p : Nat) (y : Int) (h : p + (ws.length + 1) ≤ xs.length) : splice xs p (y :: ws) = splice (xs.set p y) (p + 1) ws := by
  have h1 := splice_snoc xs [] p y (by simp; omega)
  rw [splice_nil, List.length_nil, Nat.add_zero, List.nil_append] at h1
  rw [h1]
  unfold splice
  have ha : (xs.take p).length = p := by simp; omega
  have hb : (List.take p xs ++ ([y] ++ List.drop (p + [y].length) xs)).take (p + 1) = List.take p xs ++ [y] := by
    rw [List.take_append, ha, List.take_of_length_le (by omega), show p + 1 - p = 1 by omega]
    simp
  rw [hb]
  have hc : (List.take p xs ++ ([y] ++ List.drop (p + [y].length) xs)).drop (p + 1 + ws.length) = xs.drop (p + (y :: ws).length) := by
    rw [List.drop_append, ha, List.drop_of_length_le (by omega), List.nil_append, List.drop_append, List.drop_of_length_le (by simp; omega), List.nil_append, List.drop_drop]
    congr 1
    simp
    omega
  rw [hc]
  simp
theorem bps_rng (ws : List Int) : ∀ (xs : List Int) (a : Int) (qs zs : List Int), 0 ≤ a → a + ws.length ≤ xs.length → bps xs (rng a ws.length ++ qs) (ws ++ zs) = bps (splice xs a.toNat ws) qs zs := by
  induction ws with
  | nil => intro xs a qs zs _ _; rw [splice_nil]; rfl
  | cons y ws ih =>
    intro xs a qs zs h0 h
    have e : rng a (y :: ws).length = a :: rng (a + 1) ws.length := by
      simp only [rng, List.length_cons, List.range_succ_eq_map, List.map_cons, List.map_map]
      congr 1
      · simp
      · apply List.map_congr_left
        intro i _
        simp only [Function.comp]
        omega
    rw [e, List.cons_append, List.cons_append, bps, ih _ (a + 1) qs zs (by omega) (by rw [List.length_set]; simp only [List.length_cons] at h; omega), splice_cons xs ws a.toNat y (by simp only [List.length_cons] at h; omega)]
    rw [show (a + 1).toNat = a.toNat + 1 by omega]
theorem bps_flat (l : List Run) : ∀ (xs ys : List Int) (N : Nat), xs.length = N → (∀ x ∈ l, Good N x) → (l.map Run.n).sum = ys.length → bps xs (flat l) ys = pts l xs ys := by
  induction l with
  | nil => intro xs ys N _ _ _; simp [flat, bps, pts]
  | cons x l ih =>
    intro xs ys N hN hg hs
    obtain ⟨_, ⟨h0, _⟩, h1, _, _⟩ := hg x List.mem_cons_self
    rw [List.map_cons, List.sum_cons] at hs
    have hl : (ys.take x.n).length = x.n := by rw [List.length_take]; omega
    have e := bps_rng (ys.take x.n) xs x.pa (flat l) (ys.drop x.n) h0 (by rw [hl, hN]; exact h1)
    rw [hl, List.take_append_drop] at e
    show bps xs (rng x.pa x.n ++ flat l) ys = _
    rw [e, pts]
    exact ih _ _ N (by rw [length_splice _ _ _ (by rw [hl, hN]; omega), hN]) (fun y hy => hg y (List.mem_cons_of_mem _ hy)) (by rw [List.length_drop]; omega)

end Go.Proofs.Ytfpdemlcmfaieaa.Cs
