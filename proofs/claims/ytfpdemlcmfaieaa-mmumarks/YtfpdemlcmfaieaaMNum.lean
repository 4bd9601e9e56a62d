/- Addresses, tables and accesses, as numbers and lists: no program is in sight. -/
import Derived.Test.YtfpdemlcmfaieaaGRam
import Derived.Test.YtfpdemlcmfaieaaGPte
import Derived.Test.YtfpdemlcmfaieaaGTlb
namespace Go.Proofs.Ytfpdemlcmfaieaa.Cs
open Go.RowKit

abbrev U := Pt.U
abbrev Rows := Tl.Rows
/-- The tables. -/
structure Tabs where
  pb : Int
  pn : Int
  sb : Int
  sn : Int
  me : Int
def Tabs.Ok (t : Tabs) : Prop := U t.pb ∧ U t.pn ∧ U t.sb ∧ U t.sn ∧ U t.me
def noTabs : Tabs := ⟨0, 0, 0, 0, 0⟩
theorem noTabs_ok : noTabs.Ok := by simp [Tabs.Ok, noTabs, U, Pt.U]

/-- The page in its table; where its entry stands; is there a table so long. -/
def tpg (va : Int) : Int := va / 512 % 2097152
def sys (va : Int) : Bool := va / 2147483648 % 2 == 1
def epl (t : Tabs) (va : Int) : Int := ((if sys va then t.sb else t.pb) + 4 * tpg va) % 4294967296
def ein (t : Tabs) (va : Int) : Bool := va / 1073741824 % 2 == 0 && decide (tpg va < (if sys va then t.sn else t.pn))
theorem epl_U (t : Tabs) (va : Int) : U (epl t va) := by unfold epl U Pt.U; omega

/-- What is found: a number, or a fault's kind and info. -/
inductive Fnd where
  | ok (x : Int)
  | bad (k i : Int)
def inf (i : Int) (wr : Bool) : Int := i + if wr then 4 else 0
def rdE (t : Tabs) (xs : List Int) (va : Int) (wr : Bool) : Fnd :=
  if ein t va then (if epl t va + 4 ≤ xs.length then .ok (Rm.val xs (epl t va).toNat 4) else .bad 1 (inf 0 wr)) else .bad 2 (inf 1 wr)
def useE (x : Int) (u wr : Bool) : Fnd := if Pt.my x u wr then (if Pt.iv x then .ok x else .bad 3 (inf 0 wr)) else .bad 2 (inf 0 wr)
def getE (t : Tabs) (xs : List Int) (rows : Rows) (va : Int) (wr : Bool) : Fnd := if Tl.hav rows (va / 512) then .ok (Tl.ent rows (va / 512)) else rdE t xs va wr
def enE (t : Tabs) (xs : List Int) (rows : Rows) (va : Int) (u wr : Bool) : Fnd :=
  match getE t xs rows va wr with
  | .ok x => useE x u wr
  | .bad k i => .bad k i
def enR (t : Tabs) (xs : List Int) (rows : Rows) (va : Int) (u wr keep : Bool) : Rows :=
  match enE t xs rows va u wr with
  | .ok x => if !Tl.hav rows (va / 512) && keep then Tl.putR rows (va / 512) x else rows
  | .bad _ _ => rows
def fitE (xs : List Int) (a n : Int) (wr : Bool) : Fnd := if a + n ≤ xs.length then .ok a else .bad 1 (inf 0 wr)
def plE (t : Tabs) (xs : List Int) (rows : Rows) (va n : Int) (u wr : Bool) : Fnd :=
  if t.me = 0 then fitE xs va n wr else
  match enE t xs rows va u wr with
  | .ok x => fitE xs (Pt.pl x va) n wr
  | .bad k i => .bad k i
def plR (t : Tabs) (xs : List Int) (rows : Rows) (va : Int) (u wr keep : Bool) : Rows := if t.me = 0 then rows else enR t xs rows va u wr keep

theorem inf_U (i : Int) (wr : Bool) (h : 0 ≤ i) (h' : i ≤ 1) : U (inf i wr) := by cases wr <;> simp [inf, U, Pt.U] <;> omega
theorem rdE_ok {t : Tabs} {xs : List Int} {va x : Int} {wr : Bool} (hb : Rm.Byt xs) (h : rdE t xs va wr = .ok x) : ein t va = true ∧ epl t va + 4 ≤ xs.length ∧ x = Rm.val xs (epl t va).toNat 4 ∧ U x := by
  unfold rdE at h
  split at h
  · rename_i h1
    split at h
    · rename_i h2
      injection h with h
      refine ⟨h1, h2, h.symm, ?_⟩
      have := Rm.val_bound xs (epl t va).toNat hb 4 (by have := (epl_U t va).1; omega)
      rw [← h]
      exact this
    · cases h
  · cases h
theorem useE_ok {x y : Int} {u wr : Bool} (h : useE x u wr = .ok y) : y = x ∧ Pt.my x u wr = true ∧ Pt.iv x = true := by
  unfold useE at h
  split at h
  · rename_i h1
    split at h
    · rename_i h2; injection h with h; exact ⟨h.symm, h1, h2⟩
    · cases h
  · cases h
theorem ent_U {rows : Rows} (h : Tl.Fit rows) (p : Int) : U (Tl.ent rows p) := (Tl.row_wf h _).2
theorem getE_U {t : Tabs} {xs : List Int} {rows : Rows} {va x : Int} {wr : Bool} (hb : Rm.Byt xs) (hf : Tl.Fit rows) (h : getE t xs rows va wr = .ok x) : U x := by
  unfold getE at h
  split at h
  · injection h with h; rw [← h]; exact ent_U hf _
  · exact (rdE_ok hb h).2.2.2
theorem enE_U {t : Tabs} {xs : List Int} {rows : Rows} {va x : Int} {u wr : Bool} (hb : Rm.Byt xs) (hf : Tl.Fit rows) (h : enE t xs rows va u wr = .ok x) : U x := by
  unfold enE at h
  split at h
  · rename_i y e
    obtain ⟨rfl, _, _⟩ := useE_ok h
    exact getE_U hb hf e
  · cases h
theorem page_U {va : Int} (h : U va) : 0 ≤ va / 512 ∧ va / 512 < 4294967296 := by obtain ⟨h0, h1⟩ := h; omega
theorem enR_fit {t : Tabs} {xs : List Int} {rows : Rows} {va : Int} {u wr keep : Bool} (hv : U va) (hb : Rm.Byt xs) (hf : Tl.Fit rows) : Tl.Fit (enR t xs rows va u wr keep) := by
  unfold enR
  split
  · rename_i x e
    split
    · exact hf.put (page_U hv) (enE_U hb hf e)
    · exact hf
  · exact hf
theorem plR_fit {t : Tabs} {xs : List Int} {rows : Rows} {va : Int} {u wr keep : Bool} (hv : U va) (hb : Rm.Byt xs) (hf : Tl.Fit rows) : Tl.Fit (plR t xs rows va u wr keep) := by
  unfold plR
  split
  · exact hf
  · exact enR_fit hv hb hf
theorem plE_ok {t : Tabs} {xs : List Int} {rows : Rows} {va n a : Int} {u wr : Bool} (hv : U va) (h : plE t xs rows va n u wr = .ok a) : a + n ≤ xs.length ∧ U a := by
  have key : ∀ {b : Int}, U b → fitE xs b n wr = .ok a → a + n ≤ xs.length ∧ U a := by
    intro b hb h
    unfold fitE at h
    split at h
    · rename_i h1; injection h with h; subst h; exact ⟨h1, hb⟩
    · cases h
  unfold plE at h
  split at h
  · exact key hv h
  · split at h
    · exact key (Pt.pl_U _ _) h
    · cases h
/-- A fault's kind is none but these. -/
def Kd (k i : Int) : Prop := (k = 1 ∨ k = 2 ∨ k = 3) ∧ 0 ≤ i ∧ i ≤ 5
theorem inf_kd {k i : Int} {wr : Bool} (hk : k = 1 ∨ k = 2 ∨ k = 3) (h : 0 ≤ i) (h' : i ≤ 1) : Kd k (inf i wr) := ⟨hk, by cases wr <;> simp [inf] <;> omega⟩
theorem rdE_bad {t : Tabs} {xs : List Int} {va k i : Int} {wr : Bool} (h : rdE t xs va wr = .bad k i) : Kd k i := by
  unfold rdE at h
  split at h
  · split at h
    · cases h
    · injection h with h1 h2; subst h1 h2; exact inf_kd (by simp) (by omega) (by omega)
  · injection h with h1 h2; subst h1 h2; exact inf_kd (by simp) (by omega) (by omega)
theorem useE_bad {x k i : Int} {u wr : Bool} (h : useE x u wr = .bad k i) : Kd k i := by
  unfold useE at h
  split at h
  · split at h
    · cases h
    · injection h with h1 h2; subst h1 h2; exact inf_kd (by simp) (by omega) (by omega)
  · injection h with h1 h2; subst h1 h2; exact inf_kd (by simp) (by omega) (by omega)
theorem enE_bad {t : Tabs} {xs : List Int} {rows : Rows} {va k i : Int} {u wr : Bool} (h : enE t xs rows va u wr = .bad k i) : Kd k i := by
  unfold enE getE at h
  split at h
  · exact useE_bad h
  · rename_i e
    injection h with h1 h2
    subst h1 h2
    split at e
    · cases e
    · exact rdE_bad e
theorem fitE_bad {xs : List Int} {a n k i : Int} {wr : Bool} (h : fitE xs a n wr = .bad k i) : Kd k i := by
  unfold fitE at h
  split at h
  · cases h
  · injection h with h1 h2; subst h1 h2; exact inf_kd (by simp) (by omega) (by omega)
theorem plE_bad {t : Tabs} {xs : List Int} {rows : Rows} {va n k i : Int} {u wr : Bool} (h : plE t xs rows va n u wr = .bad k i) : Kd k i := by
  unfold plE at h
  split at h
  · exact fitE_bad h
  · split at h
    · exact fitE_bad h
    · rename_i e; injection h with h1 h2; subst h1 h2; exact enE_bad e

/-- Bytes of one page: their first address, where it lies, how many. -/
structure Run where
  va : Int
  pa : Int
  n : Nat
inductive Acc where
  | ok (l : List Run)
  | bad (k va i : Int)
def cnt (va : Int) (n : Nat) : Nat := min n (512 - (va % 512).toNat)
theorem cnt_le (va : Int) (n : Nat) : cnt va n ≤ n := Nat.min_le_left _ _
theorem cnt_pos (va : Int) (n : Nat) (h : n ≠ 0) : 0 < cnt va n := by unfold cnt; omega
def nxt (va : Int) (n : Nat) : Int := (va + cnt va n) % 4294967296
theorem nxt_U (va : Int) (n : Nat) : U (nxt va n) := by unfold nxt U Pt.U; omega
/-- An access, page by page, up to the first fault; what is buffered behind it. -/
def walk (t : Tabs) (xs : List Int) (u wr keep : Bool) (rows : Rows) (acc : List Run) (va : Int) (n : Nat) : Acc × Rows :=
  if _h : n = 0 then (.ok acc, rows) else
  match plE t xs rows va (cnt va n) u wr with
  | .bad k i => (.bad k va i, plR t xs rows va u wr keep)
  | .ok a => walk t xs u wr keep (plR t xs rows va u wr keep) (acc ++ [⟨va, a, cnt va n⟩]) (nxt va n) (n - cnt va n)
  termination_by n
  decreasing_by have := cnt_pos va n _h; omega
theorem walk_end {t : Tabs} {xs : List Int} {u wr keep : Bool} {rows : Rows} {acc : List Run} {va : Int} : walk t xs u wr keep rows acc va 0 = (.ok acc, rows) := by rw [walk]; simp
theorem walk_bad {t : Tabs} {xs : List Int} {u wr keep : Bool} {rows : Rows} {acc : List Run} {va k i : Int} {n : Nat} (hn : n ≠ 0) (h : plE t xs rows va (cnt va n) u wr = .bad k i) : walk t xs u wr keep rows acc va n = (.bad k va i, plR t xs rows va u wr keep) := by
  rw [walk]; simp [hn, h]
theorem walk_ok {t : Tabs} {xs : List Int} {u wr keep : Bool} {rows : Rows} {acc : List Run} {va a : Int} {n : Nat} (hn : n ≠ 0) (h : plE t xs rows va (cnt va n) u wr = .ok a) :
    walk t xs u wr keep rows acc va n = walk t xs u wr keep (plR t xs rows va u wr keep) (acc ++ [⟨va, a, cnt va n⟩]) (nxt va n) (n - cnt va n) := by
  rw [walk]; simp [hn, h]

end Go.Proofs.Ytfpdemlcmfaieaa.Cs
