/- How many bytes a write changes; how many runs there are. No program is in sight. -/
import Derived.Test.YtfpdemlcmfaieaaWPeeks
namespace Go.Proofs.Ytfpdemlcmfaieaa.Cs
open Go.RowKit

/-- In how many of the first k places two memories part. -/
def dif (zs ys : List Int) : Nat → Nat
  | 0 => 0
  | k + 1 => dif zs ys k + if zs.getD k 0 = ys.getD k 0 then 0 else 1
theorem dif_same (ys : List Int) (k : Nat) : dif ys ys k = 0 := by
  induction k with
  | zero => rfl
  | succ k ih => simp [dif, ih]
theorem dif_le (zs ys : List Int) (k : Nat) : dif zs ys k ≤ k := by
  induction k with
  | zero => exact Nat.le_refl _
  | succ k ih => unfold dif; split <;> omega
theorem splice_at (xs ws : List Int) (p i : Nat) (hp : p + ws.length ≤ xs.length) (h : i < p ∨ p + ws.length ≤ i) : (splice xs p ws).getD i 0 = xs.getD i 0 := by
  unfold splice
  have h1 : (xs.take p).length = p := by simp; omega
  simp only [List.getD]
  rcases h with h | h
  · rw [List.getElem?_append_left (by omega), List.getElem?_take]
    simp [h]
  · rw [List.getElem?_append_right (by omega), h1, List.getElem?_append_right (by omega), List.getElem?_drop]
    congr 2
    omega
theorem dif_splice (xs ws ys : List Int) (p : Nat) (hp : p + ws.length ≤ xs.length) (k : Nat) : dif (splice xs p ws) ys k ≤ dif xs ys k + min (k - p) ws.length := by
  induction k with
  | zero => simp [dif]
  | succ k ih =>
    unfold dif
    by_cases h : k < p ∨ p + ws.length ≤ k
    · rw [splice_at xs ws p k hp h]
      omega
    · split <;> split <;> omega
theorem dif_mark (t : Tabs) (xs ys : List Int) (rows : Rows) (va : Int) (k : Nat) : dif (mkMem t xs rows va) ys k ≤ dif xs ys k + 4 := by
  unfold mkMem
  split
  · omega
  · split
    · omega
    · split
      · rename_i h
        have := (epl_U t va).1
        have := dif_splice xs (Rm.low (mkx (Rm.val xs (epl t va).toNat 4)) 4) ys (epl t va).toNat (by rw [Rm.low_length]; omega) k
        rw [Rm.low_length] at this
        omega
      · omega
theorem dif_marks (t : Tabs) (l : List Run) (o : List Int × Rows) (ys : List Int) (k : Nat) : dif (mks t l o).1 ys k ≤ dif o.1 ys k + 4 * l.length := by
  induction l generalizing o with
  | nil => simp [mks]
  | cons x l ih =>
    have h1 := ih (mkMem t o.1 o.2 x.va, mkRows t o.2 x.va)
    have h2 := dif_mark t o.1 ys o.2 x.va k
    simp only [mks, List.length_cons] at h1 ⊢
    omega
theorem dif_puts (l : List Run) (xs zs ys : List Int) (N : Nat) (hN : xs.length = N) (hg : ∀ x ∈ l, Good N x) (k : Nat) : dif (pts l xs zs) ys k ≤ dif xs ys k + (l.map Run.n).sum := by
  induction l generalizing xs zs with
  | nil => simp [pts]
  | cons x l ih =>
    obtain ⟨_, ⟨h0, _⟩, h1, _, _⟩ := hg x List.mem_cons_self
    have hl : (zs.take x.n).length ≤ x.n := by rw [List.length_take]; omega
    have hp : x.pa.toNat + (zs.take x.n).length ≤ xs.length := by omega
    have h2 := ih (splice xs x.pa.toNat (zs.take x.n)) (zs.drop x.n) (by rw [length_splice _ _ _ hp, hN]) (fun y hy => hg y (List.mem_cons_of_mem _ hy))
    have h3 := dif_splice xs (zs.take x.n) ys x.pa.toNat hp k
    simp only [pts, List.map_cons, List.sum_cons]
    omega
theorem pts_length (l : List Run) (xs zs : List Int) (N : Nat) (hN : xs.length = N) (hg : ∀ x ∈ l, Good N x) : (pts l xs zs).length = N := by
  induction l generalizing xs zs with
  | nil => exact hN
  | cons x l ih =>
    obtain ⟨_, ⟨h0, _⟩, h1, _, _⟩ := hg x List.mem_cons_self
    have hp : x.pa.toNat + (zs.take x.n).length ≤ xs.length := by rw [List.length_take]; omega
    exact ih _ _ (by rw [length_splice _ _ _ hp, hN]) (fun y hy => hg y (List.mem_cons_of_mem _ hy))
theorem runs_few {t : Tabs} {xs : List Int} {u wr keep : Bool} {l : List Run} {rows' : Rows} : ∀ n rows acc va, U va → walk t xs u wr keep rows acc va n = (.ok l, rows') → l.length ≤ acc.length + (if n = 0 then 0 else (n + (va % 512).toNat + 511) / 512) := by
  intro n
  induction n using Nat.strongRecOn with
  | ind n ih =>
    intro rows acc va hv hw
    by_cases hn : n = 0
    · subst hn; rw [walk_end] at hw; injection hw with h1 _; injection h1 with h1; subst h1; simp
    · cases hp : plE t xs rows va (cnt va n) u wr with
      | bad k i => rw [walk_bad hn hp] at hw; injection hw with h1 _; cases h1
      | ok a =>
        rw [walk_ok hn hp] at hw
        have hc := cnt_pos va n hn
        have h2 := ih (n - cnt va n) (by omega) _ _ _ (nxt_U _ _) hw
        obtain ⟨v0, v1⟩ := hv
        rw [if_neg hn]
        simp only [List.length_append, List.length_cons, List.length_nil] at h2
        have ho : (va % 512).toNat < 512 := by omega
        by_cases hs : n ≤ 512 - (va % 512).toNat
        · have e : cnt va n = n := by unfold cnt; omega
          rw [e, Nat.sub_self] at h2
          simp at h2
          omega
        · have e : cnt va n = 512 - (va % 512).toNat := by unfold cnt; omega
          have e2 : (nxt va n % 512).toNat = 0 := by unfold nxt; rw [e]; omega
          rw [e2, e, if_neg (by omega)] at h2
          omega
theorem runs_count {t : Tabs} {xs : List Int} {u wr keep : Bool} {l : List Run} {rows rows' : Rows} {va : Int} {n : Nat} (hv : U va) (h : walk t xs u wr keep rows [] va n = (.ok l, rows')) : l.length ≤ n / 512 + 2 := by
  have h1 := runs_few n rows [] va hv h
  have hv0 := hv.1
  have ho : (va % 512).toNat < 512 := by omega
  simp only [List.length_nil] at h1
  split at h1 <;> omega
/-- How many bytes a write changes, in all. -/
theorem dif_store {t : Tabs} {xs zs : List Int} {u keep : Bool} {l : List Run} {rows rows' : Rows} {va : Int} {n : Nat} (hv : U va) (h : walk t xs u true keep rows [] va n = (.ok l, rows')) (k : Nat) :
    dif (stM t xs rows' zs (.ok l)) xs k ≤ n + 4 * (n / 512 + 2) := by
  have hg := walk_good hv h
  have hs := walk_sum n rows [] va h
  have hc := runs_count hv h
  have h1 := dif_marks t l (xs, rows') xs k
  have h2 := dif_puts l (mks t l (xs, rows')).1 zs xs xs.length (mks_length t l (xs, rows')) hg k
  rw [dif_same] at h1
  simp at hs
  show dif (pts l (mks t l (xs, rows')).1 zs) xs k ≤ _
  omega
theorem stM_length {t : Tabs} {xs zs : List Int} {u keep : Bool} {a : Acc} {rows rows' : Rows} {va : Int} {n : Nat} (hv : U va) (h : walk t xs u true keep rows [] va n = (a, rows')) : (stM t xs rows' zs a).length = xs.length := by
  cases a with
  | bad k v i => rfl
  | ok l => exact pts_length l _ zs xs.length (mks_length t l (xs, rows')) (walk_good hv h)

end Go.Proofs.Ytfpdemlcmfaieaa.Cs
