/- Rows of pages and entries: where a page stands, what is put and dropped. No program is in sight. -/
import Derived.Below
import Derived.Lib.Hide
namespace Go.Proofs.Ytfpdemlcmfaieaa.Tl
open Go.RowKit

abbrev Rows := List (Int × Int)
/-- Where a page stands; the length, if nowhere. -/
def pos : Rows → Int → Nat
  | [], _ => 0
  | r :: xs, p => if r.1 = p then 0 else pos xs p + 1
/-- The number that is answered: -1, if nowhere. -/
def plc (xs : Rows) (p : Int) : Int := if pos xs p < xs.length then (pos xs p : Int) else -1
def hav (xs : Rows) (p : Int) : Bool := decide (pos xs p < xs.length)
def row (xs : Rows) (k : Nat) : Int × Int := xs.getD k (0, 0)
def ent (xs : Rows) (p : Int) : Int := (row xs (pos xs p)).2
def dropR (xs : Rows) (p : Int) : Rows := xs.eraseIdx (pos xs p)
def putR (xs : Rows) (p x : Int) : Rows :=
  if pos xs p < xs.length then xs.set (pos xs p) (p, x) else (if xs.length = 8 then xs.tail else xs) ++ [(p, x)]
def pages (xs : Rows) : List Int := xs.map Prod.fst
def Fit (xs : Rows) : Prop := (pages xs).Nodup ∧ xs.length ≤ 8 ∧ ∀ r ∈ xs, (0 ≤ r.1 ∧ r.1 < 4294967296) ∧ (0 ≤ r.2 ∧ r.2 < 4294967296)

theorem pos_le (xs : Rows) (p : Int) : pos xs p ≤ xs.length := by
  induction xs with
  | nil => simp [pos]
  | cons r xs ih => simp only [pos, List.length_cons]; split <;> omega
theorem pos_hit {xs : Rows} {p : Int} {k : Nat} (h : k ≤ pos xs p) (hk : k < xs.length) (e : (row xs k).1 = p) : pos xs p = k := by
  induction xs generalizing k with
  | nil => simp at hk
  | cons r xs ih =>
    simp only [pos] at h ⊢
    cases k with
    | zero => simp [row] at e; simp [e]
    | succ k =>
      split at h
      · omega
      · rename_i hne
        rw [if_neg hne, ih (k := k) (by omega) (by simpa using hk) (by simpa [row] using e)]
theorem pos_miss {xs : Rows} {p : Int} {k : Nat} (h : k ≤ pos xs p) (hk : k < xs.length) (e : (row xs k).1 ≠ p) : k + 1 ≤ pos xs p := by
  induction xs generalizing k with
  | nil => simp at hk
  | cons r xs ih =>
    simp only [pos] at h ⊢
    cases k with
    | zero => simp [row] at e; simp [e]
    | succ k =>
      split at h
      · omega
      · rename_i hne
        rw [if_neg hne]
        have := ih (k := k) (by omega) (by simpa using hk) (by simpa [row] using e)
        omega
theorem row_pos {xs : Rows} {p : Int} (h : pos xs p < xs.length) : (row xs (pos xs p)).1 = p := by
  induction xs with
  | nil => simp at h
  | cons r xs ih =>
    simp only [pos] at h ⊢
    split
    · rename_i e; simpa [row] using e
    · rename_i e; rw [if_neg e] at h; simpa [row] using ih (by simpa using h)
theorem plc_in {xs : Rows} {p : Int} (h : pos xs p < xs.length) : plc xs p = (pos xs p : Int) := if_pos h
theorem plc_out {xs : Rows} {p : Int} (h : ¬ pos xs p < xs.length) : plc xs p = -1 := if_neg h
theorem hav_mem {xs : Rows} {p : Int} : pos xs p < xs.length ↔ p ∈ pages xs := by
  induction xs with
  | nil => simp [pages]
  | cons r xs ih =>
    simp only [pos, pages, List.map_cons, List.mem_cons, List.length_cons]
    by_cases e : r.1 = p
    · simp [e]
    · rw [if_neg e]
      have : ¬ p = r.1 := fun h => e h.symm
      simp only [this, false_or]
      rw [← show p ∈ pages xs ↔ p ∈ List.map Prod.fst xs from Iff.rfl, ← ih]
      omega
theorem row_mem {xs : Rows} {k : Nat} (hk : k < xs.length) : row xs k ∈ xs := by
  simp only [row, List.getD, List.getElem?_eq_getElem hk, Option.getD_some]
  exact List.getElem_mem hk
theorem ent_out {xs : Rows} {p : Int} (h : ¬ pos xs p < xs.length) : ent xs p = 0 := by
  simp [ent, row, List.getD, List.getElem?_eq_none (by omega : xs.length ≤ pos xs p)]
theorem row_wf {xs : Rows} (h : Fit xs) (k : Nat) : (0 ≤ (row xs k).1 ∧ (row xs k).1 < 4294967296) ∧ (0 ≤ (row xs k).2 ∧ (row xs k).2 < 4294967296) := by
  by_cases hk : k < xs.length
  · exact h.2.2 _ (row_mem hk)
  · simp [row, List.getD, List.getElem?_eq_none (by omega : xs.length ≤ k)]

theorem pages_set {xs : Rows} {p x : Int} (h : pos xs p < xs.length) : pages (xs.set (pos xs p) (p, x)) = pages xs := by
  rw [pages, List.map_set]
  apply List.ext_getElem
  · simp [pages]
  · intro i h1 h2
    rw [List.getElem_set]
    split
    · rename_i e
      subst e
      have := row_pos h
      simp only [row, List.getD, List.getElem?_eq_getElem h, Option.getD_some] at this
      simp [pages, this]
    · simp [pages]
theorem pages_length (xs : Rows) : (pages xs).length = xs.length := by simp [pages]
theorem pages_tail (xs : Rows) : pages xs.tail = (pages xs).tail := by simp [pages]
theorem pages_app (xs ys : Rows) : pages (xs ++ ys) = pages xs ++ pages ys := by simp [pages]
theorem Fit.nil : Fit [] := ⟨by simp [pages], by simp, by simp⟩
theorem Fit.sub {xs ys : Rows} (h : Fit xs) (s : ys.Sublist xs) : Fit ys :=
  ⟨(s.map Prod.fst).nodup h.1, Nat.le_trans s.length_le h.2.1, fun r hr => h.2.2 r (s.subset hr)⟩
theorem Fit.drop {xs : Rows} (h : Fit xs) (p : Int) : Fit (dropR xs p) := h.sub (List.eraseIdx_sublist _ _)
theorem Fit.put {xs : Rows} (h : Fit xs) {p x : Int} (hp : 0 ≤ p ∧ p < 4294967296) (hx : 0 ≤ x ∧ x < 4294967296) : Fit (putR xs p x) := by
  unfold putR
  by_cases e : pos xs p < xs.length
  · rw [if_pos e]
    refine ⟨by rw [pages_set e]; exact h.1, by simpa using h.2.1, fun r hr => ?_⟩
    rcases List.mem_or_eq_of_mem_set hr with hr | rfl
    · exact h.2.2 r hr
    · exact ⟨hp, hx⟩
  · rw [if_neg e]
    have hnot : p ∉ pages xs := fun hm => e (hav_mem.2 hm)
    have key : ∀ ys : Rows, Fit ys → ys.length ≤ 7 → p ∉ pages ys → Fit (ys ++ [(p, x)]) := by
      intro ys hy hl hn
      refine ⟨?_, by simp; omega, fun r hr => ?_⟩
      · rw [pages_app, List.nodup_append]
        refine ⟨hy.1, by simp [pages], ?_⟩
        intro a ha b hb
        simp [pages] at hb
        subst hb
        rintro rfl
        exact hn ha
      · rcases List.mem_append.1 hr with hr | hr
        · exact hy.2.2 r hr
        · simp at hr; subst hr; exact ⟨hp, hx⟩
    have hl := h.2.1
    split
    · exact key _ (h.sub (List.tail_sublist _)) (by simp; omega) (fun hm => hnot (by rw [pages_tail] at hm; exact List.mem_of_mem_tail hm))
    · exact key _ h (by omega) hnot

/-- What the document's Drop leaves: all but the page's. -/
theorem pos_cons_ne {r : Int × Int} {xs : Rows} {p : Int} (e : r.1 ≠ p) : pos (r :: xs) p = pos xs p + 1 := by simp [pos, e]
theorem pos_cons_eq {r : Int × Int} {xs : Rows} {p : Int} (e : r.1 = p) : pos (r :: xs) p = 0 := by simp [pos, e]
theorem drop_filter {xs : Rows} {p : Int} (h : (pages xs).Nodup) : dropR xs p = xs.filter fun r => decide (r.1 ≠ p) := by
  induction xs with
  | nil => simp [dropR]
  | cons r xs ih =>
    simp only [pages, List.map_cons, List.nodup_cons] at h
    by_cases e : r.1 = p
    · have hall : xs.filter (fun r => decide (r.1 ≠ p)) = xs := by
        rw [List.filter_eq_self]
        intro a ha
        have : a.1 ≠ p := by
          rintro rfl
          exact h.1 (by rw [e]; exact List.mem_map.2 ⟨a, ha, rfl⟩)
        simpa using this
      rw [dropR, pos_cons_eq e, List.filter_cons_of_neg (by simp [e]), hall]
      simp
    · rw [dropR, pos_cons_ne e, List.filter_cons_of_pos (by simp [e]), List.eraseIdx_cons_succ]
      rw [← ih h.2]; rfl
theorem drop_head {xs : Rows} (h0 : 0 < xs.length) : dropR xs (row xs 0).1 = xs.tail := by
  cases xs with
  | nil => simp at h0
  | cons r xs => simp [dropR, row, pos]

end Go.Proofs.Ytfpdemlcmfaieaa.Tl
