import Derived.Below
import Derived.Lib.Hide
import Derived.Laws.Rows
import Derived.Laws.OwnMore
import Derived.Maps.AppendAt
import Derived.OwnWalk
import Derived.Deep.Draws
import Derived.Test.YteohkobdmkbcpaaGreatDoorChecked
import Derived.KernelRfl
import Derived.WalkKit
import Derived.Deep.LoopGhost
import Derived.Deep.RegionLaw
import Derived.Lib.SliceRun
import Derived.OpenShut

/- Rows of pages and entries: where a page stands, what is put and dropped. No program is in sight. -/
namespace Go.Proofs.YteohkobdmkbcpaaGreatDoor.Tl
open Go.RowKit

abbrev Rows := List (Int × Int)
/-- Where a page stands; the length, if nowhere. -/
def pos : Rows → Int → Nat
  | [], _ => 0
  | r :: xs, p => if r.1 = p then 0 else pos xs p + 1
/-- The number that is answered: -1, if nowhere. -/
def plc (xs : Rows) (p : Int) : Int := if pos xs p < xs.length then (pos xs p : Int) else -1
def hav (xs : Rows) (p : Int) : Bool := decide (pos xs p < xs.length)
def row (xs : Rows) (k : Nat) : Int × Int := xs.getD k (0, 0)
def ent (xs : Rows) (p : Int) : Int := (row xs (pos xs p)).2
def dropR (xs : Rows) (p : Int) : Rows := xs.eraseIdx (pos xs p)
def putR (xs : Rows) (p x : Int) : Rows :=
  if pos xs p < xs.length then xs.set (pos xs p) (p, x) else (if xs.length = 8 then xs.tail else xs) ++ [(p, x)]
def pages (xs : Rows) : List Int := xs.map Prod.fst
def Fit (xs : Rows) : Prop := (pages xs).Nodup ∧ xs.length ≤ 8 ∧ ∀ r ∈ xs, (0 ≤ r.1 ∧ r.1 < 4294967296) ∧ (0 ≤ r.2 ∧ r.2 < 4294967296)

theorem pos_le (xs : Rows) (p : Int) : pos xs p ≤ xs.length := by
  induction xs with
  | nil => simp [pos]
  | cons r xs ih => simp only [pos, List.length_cons]; split <;> omega
theorem pos_hit {xs : Rows} {p : Int} {k : Nat} (h : k ≤ pos xs p) (hk : k < xs.length) (e : (row xs k).1 = p) : pos xs p = k := by
  induction xs generalizing k with
  | nil => simp at hk
  | cons r xs ih =>
    simp only [pos] at h ⊢
    cases k with
    | zero => simp [row] at e; simp [e]
    | succ k =>
      split at h
      · omega
      · rename_i hne
        rw [if_neg hne, ih (k := k) (by omega) (by simpa using hk) (by simpa [row] using e)]
theorem pos_miss {xs : Rows} {p : Int} {k : Nat} (h : k ≤ pos xs p) (hk : k < xs.length) (e : (row xs k).1 ≠ p) : k + 1 ≤ pos xs p := by
  induction xs generalizing k with
  | nil => simp at hk
  | cons r xs ih =>
    simp only [pos] at h ⊢
    cases k with
    | zero => simp [row] at e; simp [e]
    | succ k =>
      split at h
      · omega
      · rename_i hne
        rw [if_neg hne]
        have := ih (k := k) (by omega) (by simpa using hk) (by simpa [row] using e)
        omega
theorem row_pos {xs : Rows} {p : Int} (h : pos xs p < xs.length) : (row xs (pos xs p)).1 = p := by
  induction xs with
  | nil => simp at h
  | cons r xs ih =>
    simp only [pos] at h ⊢
    split
    · rename_i e; simpa [row] using e
    · rename_i e; rw [if_neg e] at h; simpa [row] using ih (by simpa using h)
theorem plc_in {xs : Rows} {p : Int} (h : pos xs p < xs.length) : plc xs p = (pos xs p : Int) := if_pos h
theorem plc_out {xs : Rows} {p : Int} (h : ¬ pos xs p < xs.length) : plc xs p = -1 := if_neg h
theorem hav_mem {xs : Rows} {p : Int} : pos xs p < xs.length ↔ p ∈ pages xs := by
  induction xs with
  | nil => simp [pages]
  | cons r xs ih =>
    simp only [pos, pages, List.map_cons, List.mem_cons, List.length_cons]
    by_cases e : r.1 = p
    · simp [e]
    · rw [if_neg e]
      have : ¬ p = r.1 := fun h => e h.symm
      simp only [this, false_or]
      rw [← show p ∈ pages xs ↔ p ∈ List.map Prod.fst xs from Iff.rfl, ← ih]
      omega
theorem row_mem {xs : Rows} {k : Nat} (hk : k < xs.length) : row xs k ∈ xs := by
  simp only [row, List.getD, List.getElem?_eq_getElem hk, Option.getD_some]
  exact List.getElem_mem hk
theorem ent_out {xs : Rows} {p : Int} (h : ¬ pos xs p < xs.length) : ent xs p = 0 := by
  simp [ent, row, List.getD, List.getElem?_eq_none (by omega : xs.length ≤ pos xs p)]
theorem row_wf {xs : Rows} (h : Fit xs) (k : Nat) : (0 ≤ (row xs k).1 ∧ (row xs k).1 < 4294967296) ∧ (0 ≤ (row xs k).2 ∧ (row xs k).2 < 4294967296) := by
  by_cases hk : k < xs.length
  · exact h.2.2 _ (row_mem hk)
  · simp [row, List.getD, List.getElem?_eq_none (by omega : xs.length ≤ k)]

theorem pages_set {xs : Rows} {p x : Int} (h : pos xs p < xs.length) : pages (xs.set (pos xs p) (p, x)) = pages xs := by
  rw [pages, List.map_set]
  apply List.ext_getElem
  · simp [pages]
  · intro i h1 h2
    rw [List.getElem_set]
    split
    · rename_i e
      subst e
      have := row_pos h
      simp only [row, List.getD, List.getElem?_eq_getElem h, Option.getD_some] at this
      simp [pages, this]
    · simp [pages]
theorem pages_length (xs : Rows) : (pages xs).length = xs.length := by simp [pages]
theorem pages_tail (xs : Rows) : pages xs.tail = (pages xs).tail := by simp [pages]
theorem pages_app (xs ys : Rows) : pages (xs ++ ys) = pages xs ++ pages ys := by simp [pages]
theorem Fit.nil : Fit [] := ⟨by simp [pages], by simp, by simp⟩
theorem Fit.sub {xs ys : Rows} (h : Fit xs) (s : ys.Sublist xs) : Fit ys :=
  ⟨(s.map Prod.fst).nodup h.1, Nat.le_trans s.length_le h.2.1, fun r hr => h.2.2 r (s.subset hr)⟩
theorem Fit.drop {xs : Rows} (h : Fit xs) (p : Int) : Fit (dropR xs p) := h.sub (List.eraseIdx_sublist _ _)
theorem Fit.put {xs : Rows} (h : Fit xs) {p x : Int} (hp : 0 ≤ p ∧ p < 4294967296) (hx : 0 ≤ x ∧ x < 4294967296) : Fit (putR xs p x) := by
  unfold putR
  by_cases e : pos xs p < xs.length
  · rw [if_pos e]
    refine ⟨by rw [pages_set e]; exact h.1, by simpa using h.2.1, fun r hr => ?_⟩
    rcases List.mem_or_eq_of_mem_set hr with hr | rfl
    · exact h.2.2 r hr
    · exact ⟨hp, hx⟩
  · rw [if_neg e]
    have hnot : p ∉ pages xs := fun hm => e (hav_mem.2 hm)
    have key : ∀ ys : Rows, Fit ys → ys.length ≤ 7 → p ∉ pages ys → Fit (ys ++ [(p, x)]) := by
      intro ys hy hl hn
      refine ⟨?_, by simp; omega, fun r hr => ?_⟩
      · rw [pages_app, List.nodup_append]
        refine ⟨hy.1, by simp [pages], ?_⟩
        intro a ha b hb
        simp [pages] at hb
        subst hb
        rintro rfl
        exact hn ha
      · rcases List.mem_append.1 hr with hr | hr
        · exact hy.2.2 r hr
        · simp at hr; subst hr; exact ⟨hp, hx⟩
    have hl := h.2.1
    split
    · exact key _ (h.sub (List.tail_sublist _)) (by simp; omega) (fun hm => hnot (by rw [pages_tail] at hm; exact List.mem_of_mem_tail hm))
    · exact key _ h (by omega) hnot

/-- What the document's Drop leaves: all but the page's. -/
theorem pos_cons_ne {r : Int × Int} {xs : Rows} {p : Int} (e : r.1 ≠ p) : pos (r :: xs) p = pos xs p + 1 := by simp [pos, e]
theorem pos_cons_eq {r : Int × Int} {xs : Rows} {p : Int} (e : r.1 = p) : pos (r :: xs) p = 0 := by simp [pos, e]
theorem drop_filter {xs : Rows} {p : Int} (h : (pages xs).Nodup) : dropR xs p = xs.filter fun r => decide (r.1 ≠ p) := by
  induction xs with
  | nil => simp [dropR]
  | cons r xs ih =>
    simp only [pages, List.map_cons, List.nodup_cons] at h
    by_cases e : r.1 = p
    · have hall : xs.filter (fun r => decide (r.1 ≠ p)) = xs := by
        rw [List.filter_eq_self]
        intro a ha
        have : a.1 ≠ p := by
          rintro rfl
          exact h.1 (by rw [e]; exact List.mem_map.2 ⟨a, ha, rfl⟩)
        simpa using this
      rw [dropR, pos_cons_eq e, List.filter_cons_of_neg (by simp [e]), hall]
      simp
    · rw [dropR, pos_cons_ne e, List.filter_cons_of_pos (by simp [e]), List.eraseIdx_cons_succ]
      rw [← ih h.2]; rfl
theorem drop_head {xs : Rows} (h0 : 0 < xs.length) : dropR xs (row xs 0).1 = xs.tail := by
  cases xs with
  | nil => simp at h0
  | cons r xs => simp [dropR, row, pos]

end Go.Proofs.YteohkobdmkbcpaaGreatDoor.Tl

/- Buffers as they lie in the model's world: what blocks they are made of, what turns when one of them turns. No program is walked here. -/
namespace Go.Proofs.YteohkobdmkbcpaaGreatDoor.Tl
open Go.RowKit

theorem lt_of_heap {w : World} {k : Nat} {o : Obj} (h : w.heap[k]? = some o) : k < w.heap.size := by
  rcases Nat.lt_or_ge k w.heap.size with hlt | hge
  · exact hlt
  · rw [Array.getElem?_eq_none hge] at h; cases h

/-- Only blocks of S have turned; new ones may have come. -/
structure Mods (S : Nat → Prop) (w w' : World) : Prop where
  os : w'.os = w.os
  tape : w'.tape = w.tape
  output : w'.output = w.output
  size : w.heap.size ≤ w'.heap.size
  block : ∀ k, k < w.heap.size → ¬ S k → w'.heap[k]? = w.heap[k]?
section
variable {S T : Nat → Prop} {a b c w w' : World}
theorem Mods.refl (S : Nat → Prop) (w : World) : Mods S w w := ⟨rfl, rfl, rfl, Nat.le_refl _, fun _ _ _ => rfl⟩
theorem Mods.trans (h : Mods S a b) (k : Mods T b c) (hT : ∀ i, i < a.heap.size → T i → S i) : Mods S a c :=
  ⟨k.os.trans h.os, k.tape.trans h.tape, k.output.trans h.output, Nat.le_trans h.size k.size,
   fun i hi hne => (k.block i (Nat.lt_of_lt_of_le hi h.size) (fun ht => hne (hT i hi ht))).trans (h.block i hi hne)⟩
theorem Mods.mono (h : Mods S a b) (hT : ∀ i, i < a.heap.size → S i → T i) : Mods T a b :=
  ⟨h.os, h.tape, h.output, h.size, fun i hi hne => h.block i hi (fun hs => hne (hT i hi hs))⟩
theorem Mods.of_below (h : Below a.heap.size a b) : Mods S a b := ⟨h.os, h.tape, h.output, h.size, fun i hi _ => h.block i hi⟩
theorem Mods.of_grown {row : Option Nat} (h : a.grownBy b row) (hr : ∀ k, row = some k → S k) : Mods S a b :=
  ⟨h.os, h.tape, h.output, h.size, fun i hi hne => h.block i hi (fun e => hne (hr i e.symm))⟩
theorem Mods.below {B : Nat} (h : Below B w a) (m : Mods S a b) (hS : ∀ k, S k → B ≤ k) (hB : B ≤ a.heap.size) : Below B w b :=
  h.trans ⟨m.os, m.tape, m.output, m.size, fun k hk => m.block k (by omega) (fun hs => by have := hS k hs; omega)⟩
theorem Mods.set (h : Mods S a b) {p : Addr} (u : Value) (hp : S p.block ∨ a.heap.size ≤ p.block) : Mods S a (b.setCell p u) :=
  ⟨h.os, h.tape, h.output, by simpa [World.setCell] using h.size, fun k hk hne => by
    rw [Below.heap_setCell _ _ _ _ (by rcases hp with hp | hp; · rintro rfl; exact hne hp
                                       · omega)]
    exact h.block k hk hne⟩
theorem Mods.drew (h : Mods S a b) : Mods S a b.drew := ⟨h.os, h.tape, h.output, h.size, h.block⟩
theorem Mods.alloc (h : Mods S a b) (o : Obj) : Mods S a (b.alloc o) :=
  h.trans (T := S) (Mods.of_below ((Below.refl _ _).alloc (Nat.le_refl _) _)) (fun _ _ h => h)
end
theorem bel_trans {a b c : World} {B : Nat} (h : Below B a b) (k : Below b.heap.size b c) (hB : B ≤ b.heap.size) : Below B a c := h.trans (k.mono hB)
theorem bel2 {a b c : World} (h : Below a.heap.size a b) (k : Below b.heap.size b c) : Below a.heap.size a c := h.trans (k.mono h.size)

def Apart (S T : Nat → Prop) : Prop := ∀ k, S k → T k → False
theorem Apart.symm {S T : Nat → Prop} (h : Apart S T) : Apart T S := fun k a b => h k b a
/-- From block B on. -/
def Ab (B : Nat) (S : Nat → Prop) : Prop := ∀ k, S k → B ≤ k
/-- Up to block B. -/
def Lo (B : Nat) (S : Nat → Prop) : Prop := ∀ k, S k → k < B
theorem Apart.of {S T : Nat → Prop} {B : Nat} (h : Lo B S) (k : Ab B T) : Apart S T := fun i a b => by have := h i a; have := k i b; omega

/-- A call turned blocks of S alone; the thing's blocks are S' now. -/
structure Step (S S' : Nat → Prop) (w w' : World) : Prop where
  mods : Mods S w w'
  grow : ∀ k, S' k → S k ∨ w.heap.size ≤ k
section
variable {S S' S'' T : Nat → Prop} {w w' w'' : World} {B : Nat}
theorem Step.apart (h : Step S S' w w') (a : Apart S T) (l : Lo w.heap.size T) : Apart S' T := fun k x y => by
  rcases h.grow k x with hs | hs
  · exact a k hs y
  · have := l k y; omega
theorem Step.ab (h : Step S S' w w') (a : Ab B S) (hB : B ≤ w.heap.size) : Ab B S' := fun k x => by
  rcases h.grow k x with hs | hs
  · exact a k hs
  · omega
theorem Step.below {w0 : World} (h : Step S S' w w') (b : Below B w0 w) (a : Ab B S) (hB : B ≤ w.heap.size) : Below B w0 w' := h.mods.below b a hB
theorem Step.of_below (h : Below w.heap.size w w') : Step S S w w' := ⟨Mods.of_below h, fun _ h => .inl h⟩
theorem Step.trans (h : Step S S' w w') (k : Step S' S'' w' w'') : Step S S'' w w'' :=
  ⟨h.mods.trans k.mods (fun i hi hs => by rcases h.grow i hs with x | x; · exact x
                                          · omega),
   fun i hi => by
    rcases k.grow i hi with x | x
    · exact h.grow i x
    · exact .inr (Nat.le_trans h.mods.size x)⟩
end

/-- Cells of numbers, and of rows of two numbers. -/
def c1 (xs : List Int) : List Value := xs.map fun x => .int .u32 x
def c2 : Rows → List Value
  | [] => []
  | r :: xs => .int .u32 r.1 :: .int .u32 r.2 :: c2 xs
theorem c1_length (xs : List Int) : (c1 xs).length = xs.length := by simp [c1]
theorem c2_length (xs : Rows) : (c2 xs).length = xs.length * 2 := by
  induction xs with
  | nil => rfl
  | cons r xs ih => simp only [c2, List.length_cons, ih]; omega
theorem c1_one (xs : List Int) : ∀ v ∈ c1 xs, v.oneCell' = true := by
  intro v hv
  simp only [c1, List.mem_map] at hv
  obtain ⟨x, _, rfl⟩ := hv
  rfl
theorem c2_one (xs : Rows) : ∀ v ∈ c2 xs, v.oneCell' = true := by
  induction xs with
  | nil => simp [c2]
  | cons r xs ih =>
    intro v hv
    simp only [c2, List.mem_cons] at hv
    rcases hv with rfl | rfl | hv
    · rfl
    · rfl
    · exact ih v hv
theorem c1_get (xs : List Int) (i : Nat) (h : i < xs.length) : (c1 xs)[i]? = some (.int .u32 (xs.getD i 0)) := by simp [c1, List.getD, h]
theorem c2_get0 (xs : Rows) (i : Nat) (h : i < xs.length) : (c2 xs)[i * 2]? = some (.int .u32 (row xs i).1) := by
  induction xs generalizing i with
  | nil => simp at h
  | cons r xs ih =>
    cases i with
    | zero => simp [c2, row]
    | succ i =>
      rw [show (i + 1) * 2 = i * 2 + 1 + 1 by omega]
      simpa [c2, row] using ih i (by simpa using h)
theorem c2_get1 (xs : Rows) (i : Nat) (h : i < xs.length) : (c2 xs)[i * 2 + 1]? = some (.int .u32 (row xs i).2) := by
  induction xs generalizing i with
  | nil => simp at h
  | cons r xs ih =>
    cases i with
    | zero => simp [c2, row]
    | succ i =>
      rw [show (i + 1) * 2 + 1 = i * 2 + 1 + 1 + 1 by omega]
      simpa [c2, row] using ih i (by simpa using h)
theorem c2_app (xs ys : Rows) : c2 (xs ++ ys) = c2 xs ++ c2 ys := by
  induction xs with
  | nil => rfl
  | cons r xs ih => simp [c2, ih]
theorem c1_app (xs ys : List Int) : c1 (xs ++ ys) = c1 xs ++ c1 ys := by simp [c1]
theorem c2_drop (xs : Rows) (k : Nat) : c2 (xs.drop k) = (c2 xs).drop (k * 2) := by
  induction xs generalizing k with
  | nil => simp [c2]
  | cons r xs ih =>
    cases k with
    | zero => simp
    | succ k =>
      rw [show (k + 1) * 2 = k * 2 + 1 + 1 by omega]
      simp [c2, ih]
theorem c2_take (xs : Rows) (k : Nat) : c2 (xs.take k) = (c2 xs).take (k * 2) := by
  induction xs generalizing k with
  | nil => simp [c2]
  | cons r xs ih =>
    cases k with
    | zero => simp [c2]
    | succ k =>
      rw [show (k + 1) * 2 = k * 2 + 1 + 1 by omega]
      simp [c2, ih]
theorem c2_set1 (xs : Rows) (k : Nat) (y : Int × Int) (h : k < xs.length) (e : (row xs k).1 = y.1) : c2 (xs.set k y) = (c2 xs).set (k * 2 + 1) (.int .u32 y.2) := by
  induction xs generalizing k with
  | nil => simp at h
  | cons r xs ih =>
    cases k with
    | zero => simp only [row, List.getD_cons_zero] at e; simp [c2, e]
    | succ k =>
      rw [show (k + 1) * 2 + 1 = k * 2 + 1 + 1 + 1 by omega]
      simp [c2, ih k (by simpa using h) (by simpa [row] using e)]

/-- The blocks of a row. -/
def Bl (v : Value) : Nat → Prop := fun k => v.ownBlock = some k
/-- A row of numbers. -/
def R1 (w : World) (v : Value) (xs : List Int) : Prop := w.ownsRow 0 23 1 v xs.length (c1 xs)

def R2 (w : World) (v : Value) (xs : Rows) : Prop := w.ownsRow 0 230 2 v xs.length (c2 xs)

section
variable {w w' : World} {v : Value} {e k n : Nat} {cs : List Value} {T : Nat → Prop}
theorem own_keep (h : w.ownsRow 0 e k v n cs) (hk : ∀ i, v.ownBlock = some i → w'.heap[i]? = w.heap[i]?) : w'.ownsRow 0 e k v n cs := by
  obtain ⟨h1, h2 | ⟨g, cap, cur, rfl, hb, hh, hr⟩⟩ := h
  · exact ⟨h1, .inl h2⟩
  · exact ⟨h1, .inr ⟨g, cap, cur, rfl, hb, (hk g rfl).trans hh, hr⟩⟩
theorem own_lo (h : w.ownsRow 0 e k v n cs) : Lo w.heap.size (Bl v) := fun i hi => (h.lt i hi).2
theorem own_mods (h : w.ownsRow 0 e k v n cs) (m : Mods T w w') (a : Apart T (Bl v)) : w'.ownsRow 0 e k v n cs :=
  own_keep h fun i hi => m.block i (own_lo h i hi) (fun ht => a i ht hi)
theorem own_below (h : w.ownsRow 0 e k v n cs) (m : Below w.heap.size w w') : w'.ownsRow 0 e k v n cs :=
  own_keep h fun i hi => m.block i (own_lo h i hi)
/-- What a row of numbers is: nil, or a block. -/
theorem own_shape (h : w.ownsRow 0 e k v n cs) : (v = .slice none 0 0 ∧ n = 0) ∨ ∃ r cap, v = .slice (some ⟨r, 0, none⟩) n cap ∧ n ≤ cap ∧ cap ≤ 9223372036854775807 ∧ r < w.heap.size ∧
    (∀ j u, cs[j]? = some u → w.cell? ⟨r, j, none⟩ = some u) ∧ ∀ j, w.frozen? ⟨r, j, none⟩ = false := by
  have h0 := h
  obtain ⟨h1, h2 | ⟨g, cap, cur, rfl, hb, hh, hc, hm, hs, ht⟩⟩ := h
  · exact .inl h2
  · refine .inr ⟨g, cap, rfl, hc, by simpa [maxLen] using hm, lt_of_heap hh, fun j u hu => ?_, fun j => frozen_of_row w g j _ _ hh⟩
    rw [cell_of_row w g j _ _ _ hh]
    rw [← ht, List.getElem?_take] at hu
    split at hu
    · simpa using hu
    · cases hu
end

/-- Block g is a buffer with these rows; its blocks are S. -/
structure Tb (w : World) (g : Nat) (S : Nat → Prop) (xs : Rows) : Prop where
  ex : ∃ v, w.heap[g]? = some (.cells #[v] 159 (0, 0)) ∧ R2 w v xs ∧ ∀ k, S k ↔ (k = g ∨ Bl v k)
  fit : Fit xs
section
variable {w w' : World} {g : Nat} {S T : Nat → Prop} {xs : Rows}
theorem Tb.lo (h : Tb w g S xs) : Lo w.heap.size S := by
  obtain ⟨v, hb, hr, hS⟩ := h.ex
  intro k hk
  rcases (hS k).1 hk with rfl | hk
  · exact lt_of_heap hb
  · exact own_lo hr k hk
theorem Tb.in_ (h : Tb w g S xs) : S g := by obtain ⟨v, _, _, hS⟩ := h.ex; exact (hS g).2 (.inl rfl)
theorem Tb.keep (h : Tb w g S xs) (hk : ∀ k, S k → w'.heap[k]? = w.heap[k]?) : Tb w' g S xs := by
  obtain ⟨v, hb, hr, hS⟩ := h.ex
  exact ⟨⟨v, (hk g h.in_).trans hb, own_keep hr (fun i hi => hk i ((hS i).2 (.inr hi))), hS⟩, h.fit⟩
theorem Tb.mods (h : Tb w g S xs) (m : Mods T w w') (a : Apart T S) : Tb w' g S xs :=
  h.keep fun k hk => m.block k (h.lo k hk) (fun ht => a k ht hk)
theorem Tb.below (h : Tb w g S xs) (m : Below w.heap.size w w') : Tb w' g S xs := h.keep fun k hk => m.block k (h.lo k hk)
end

section
variable {w w' : World} {g : Nat} {S T : Nat → Prop} {xs : Rows}
end

theorem under_u32s : Tryz.prog.underlying 78 = some (.slice 23) := by kernel_rfl

theorem under_rows : Tryz.prog.underlying 157 = some (.slice 230) := by kernel_rfl

theorem u32_info : (Tryz.prog.info? 23).map (fun i => (i.zero, i.size, i.bytes)) = some (some (.int .u32 0), 1, 4) := by kernel_rfl

theorem row_info : (Tryz.prog.info? 230).map (fun i => (i.zero, i.size, i.bytes)) = some (some (.agg #[.int .u32 0, .int .u32 0]), 2, 8) := by kernel_rfl

theorem wpList_append_run {P : Program} (w : World) {ops : Array Oper} {rest : List Oper} {o : Oper} {a : Act} {Q : Exit → Act → World → Prop} (hgd : o.guard = none) (d s : Operand) (t t' : TypeId)
    (ho : o.op = .call { callee := .builtin .append, args := #[d, s], argTypes := #[t, t'] }) (v u : Value) (hd : a.eval d = v) (hs : a.eval s = u) {v' : Value} {w' : World}
    (hr : (Builtin.append_ #[t, t'] o.type #[v, u]).run P w = .ok v' w') (h : wpList P ops Q rest (a.put o.dst v') w') : wpList P ops Q (o :: rest) a w :=
  wpList_plain hgd fun _ hK => by
    unfold Oper.wp execOp
    simp only [ho, resolve, invoke, builtin, Sem.run_bind, Sem.run_pure, Result.andThen_ok, List.map_toArray, List.map_cons, List.map_nil, hd, hs, hr]
    exact hK _ _ h

/-- append of one number: it was laid in a block of its own just now. -/
theorem run_app1 (w : World) (v : Value) (xs : List Int) (x : Int) (h : R1 w v xs) (hl : xs.length ≤ 1000000) :
    ∃ r' cap' w', (Builtin.append_ #[78, 78] 78 #[v, .slice (some ⟨w.heap.size, 0, none⟩) 1 1]).run Tryz.prog (w.alloc (.cells #[.int .u32 x] 23)) = .ok (.slice (some ⟨r', 0, none⟩) (xs.length + 1) cap') w' ∧
      Hid (R1 w' (.slice (some ⟨r', 0, none⟩) (xs.length + 1) cap') (xs ++ [x]) ∧ Step (Bl v) (Bl (.slice (some ⟨r', 0, none⟩) (xs.length + 1) cap')) w w') := by
  obtain ⟨i, hi, hz, hsz, hb⟩ := info_parts u32_info
  have hown : (w.alloc (.cells #[.int .u32 x] 23)).ownsRow 0 23 1 v xs.length (c1 xs) := h.alloc _
  obtain ⟨v', w', hrun, ho, hg, _, hat⟩ := run_append_own_at (P := Tryz.prog) _ 0 78 78 23 i (.int .u32 0) 1 4 under_u32s hi hz hsz hb rfl (by omega) v xs.length (c1 xs) hown ⟨w.heap.size, 0, none⟩ 1 1 (c1 [x])
    rfl (cell_one_new w _ _) (c1_one [x]) (by simp only [maxLen]; omega) (by omega) (by simp)
  obtain ⟨r', cap', rfl⟩ : ∃ r' cap', v' = .slice (some ⟨r', 0, none⟩) (xs.length + 1) cap' := by
    rcases ho.2 with ⟨_, h⟩ | ⟨g, cap, cur, rfl, _⟩
    · omega
    · exact ⟨g, cap, rfl⟩
  refine ⟨r', cap', w', hrun, ?_, ?_, ?_⟩
  · show w'.ownsRow _ _ _ _ _ _
    rw [List.length_append, c1_app]; exact ho
  · exact (Mods.refl (Bl v) w |>.alloc _).trans (Mods.of_grown hg (fun k e => e)) (fun _ _ h => h)
  · intro k hk
    rcases hat with e | e
    · exact .inl (by rw [Bl, ← e]; exact hk)
    · right
      rw [Bl, e] at hk
      injection hk with hk
      simp at hk
      omega

/-- append of one row. -/
theorem run_app2 (w : World) (v : Value) (xs : Rows) (p x : Int) (h : R2 w v xs) (hl : xs.length ≤ 8) :
    ∃ r' cap' w', (Builtin.append_ #[157, 157] 157 #[v, .slice (some ⟨w.heap.size, 0, none⟩) 1 1]).run Tryz.prog (w.alloc (.cells #[.int .u32 p, .int .u32 x] 230)) = .ok (.slice (some ⟨r', 0, none⟩) (xs.length + 1) cap') w' ∧
      Hid (R2 w' (.slice (some ⟨r', 0, none⟩) (xs.length + 1) cap') (xs ++ [(p, x)]) ∧ Step (Bl v) (Bl (.slice (some ⟨r', 0, none⟩) (xs.length + 1) cap')) w w') := by
  obtain ⟨i, hi, hz, hsz, hb⟩ := info_parts row_info
  have hown : (w.alloc (.cells #[.int .u32 p, .int .u32 x] 230)).ownsRow 0 230 2 v xs.length (c2 xs) := h.alloc _
  obtain ⟨v', w', hrun, ho, hg, _, hat⟩ := run_append_own_at (P := Tryz.prog) _ 0 157 157 230 i (.agg #[.int .u32 0, .int .u32 0]) 2 8 under_rows hi hz hsz hb rfl (by omega) v xs.length (c2 xs) hown ⟨w.heap.size, 0, none⟩ 1 1 (c2 [(p, x)])
    rfl (fun j u hj => by
      rw [Addr.add_lit, cell_of_row _ w.heap.size _ _ _ _ (heap_alloc_new w _)]
      simpa [c2] using hj) (c2_one _) (by simp only [maxLen]; omega) (by omega) (by simp)
  obtain ⟨r', cap', rfl⟩ : ∃ r' cap', v' = .slice (some ⟨r', 0, none⟩) (xs.length + 1) cap' := by
    rcases ho.2 with ⟨_, h⟩ | ⟨g, cap, cur, rfl, _⟩
    · omega
    · exact ⟨g, cap, rfl⟩
  refine ⟨r', cap', w', hrun, ?_, ?_, ?_⟩
  · show w'.ownsRow _ _ _ _ _ _
    rw [List.length_append, c2_app]; exact ho
  · exact (Mods.refl (Bl v) w |>.alloc _).trans (Mods.of_grown hg (fun k e => e)) (fun _ _ h => h)
  · intro k hk
    rcases hat with e | e
    · exact .inl (by rw [Bl, ← e]; exact hk)
    · right
      rw [Bl, e] at hk
      injection hk with hk
      simp at hk
      omega

end Go.Proofs.YteohkobdmkbcpaaGreatDoor.Tl

/- Where a page stands: the closure, slices.IndexFunc, place. -/
namespace Go.Proofs.YteohkobdmkbcpaaGreatDoor.Tl
open Go.RowKit

theorem hit_any (a b p : Int) (B : Nat) (w : World) (hc : w.cell? ⟨B, 0, none⟩ = some (.int .u32 p)) (hB : B < w.heap.size) :
    Calls Tryz.prog 238 #[.agg #[.int .u32 a, .int .u32 b], .pointer (some ⟨B, 0, none⟩)] w fun e w' => e = .returned (.bool (decide (a = p))) ∧ Below w.heap.size w w' := by
  have hne : B ≠ w.heap.size := by omega
  go_enter Tryz.func238, Tryz.ntmps238
  go_wp2
  all_goals (go_ret; exact ⟨by show _ = Ending.returned (Value.bool (decide (a = p))); by_cases e : a = p <;> simp [e], (Below.refl _ _).alloc (Nat.le_refl _) _⟩)

theorem hit_as (a b p : Int) (B : Nat) (t : Bool) (w : World) (hc : w.cell? ⟨B, 0, none⟩ = some (.int .u32 p)) (hB : B < w.heap.size) (ht : decide (a = p) = t) :
    Calls Tryz.prog 238 #[.agg #[.int .u32 a, .int .u32 b], .pointer (some ⟨B, 0, none⟩)] w fun e w' => e = .returned (.bool t) ∧ Below w.heap.size w w' := by
  subst ht
  exact hit_any a b p B w hc hB

theorem idx_none (A : Option Addr) (c : Nat) (f : Value) (w : World) :
    Calls Tryz.prog 237 #[.slice A 0 c, f] w fun e w' => e = .returned (.int .i64 (-1)) ∧ w' = w := by
  go_enter Tryz.func237, Tryz.ntmps237
  go_wp2
  go_loop [8] (fun i => i = .int .i64 0) (fun _ => 0)
  case atStart => rfl
  case round =>
    subst hrel
    go_wp2
    go_ret
    exact ⟨rfl, rfl⟩

set_option maxHeartbeats 1000000 in
set_option maxRecDepth 100000 in
theorem idx_some (r n c : Nat) (xs : Rows) (B : Nat) (p : Int) (w : World) (hn : xs.length = n) (hn8 : n ≤ 8) (hr : r < w.heap.size) (hc : ∀ j u, (c2 xs)[j]? = some u → w.cell? ⟨r, j, none⟩ = some u)
    (hp : w.cell? ⟨B, 0, none⟩ = some (.int .u32 p)) (hB : B < w.heap.size) :
    Calls Tryz.prog 237 #[.slice (some ⟨r, 0, none⟩) n c, .func (.func 238) #[] #[.pointer (some ⟨B, 0, none⟩)]] w fun e w' => e = .returned (.int .i64 (plc xs p)) ∧ Below w.heap.size w w' := by
  have HC := Lib.hid hc
  have HP := Lib.hid hp
  have HN := Lib.hid hn
  clear hc hp hn
  go_enter Tryz.func237, Tryz.ntmps237
  go_wp2
  go_loopw [8] (fun i wr => ∃ k : Nat, k ≤ n ∧ i = .int .i64 k ∧ k ≤ pos xs p ∧ Below w.heap.size w wr) (fun i _ => n - (intOf i).toNat)
  case atStart => exact ⟨0, Nat.zero_le _, rfl, Nat.zero_le _, Below.refl _ _⟩
  case round =>
    obtain ⟨k, hk, rfl, hpk, hb⟩ := hrel
    have HB := Lib.hid hb
    have HK := Lib.hid hpk
    clear hpk hb
    by_cases hlt : k < n
    · have hx : k < xs.length := by rw [HN.out]; exact hlt
      have h0 := (HB.out.cell (p := ⟨r, k * 2, none⟩) hr).trans (HC.out _ _ (c2_get0 xs k hx))
      have h1 := (HB.out.cell (p := ⟨r, k * 2 + 1, none⟩) hr).trans (HC.out _ _ (c2_get1 xs k hx))
      have HP' := Lib.hid ((HB.out.cell (p := ⟨B, 0, none⟩) hB).trans HP.out)
      have hB' : B < wr.heap.size := Nat.lt_of_lt_of_le hB HB.out.size
      clear hx
      by_cases he : (row xs k).1 = p
      · have HE := Lib.hid (pos_hit HK.out (by rw [HN.out]; exact hlt) he)
        have HT := Lib.hid (decide_eq_true he)
        clear he
        go_wp2_with fail
        refine (hit_as _ _ p B true _ HP'.out hB' HT.out).mono ?_
        rintro e w' ⟨rfl, hb'⟩
        go_wp2
        go_ret
        refine ⟨?_, bel_trans HB.out hb' HB.out.size⟩
        rw [plc_in (by rw [HE.out, HN.out]; exact hlt), HE.out]; rfl
      · have HE := Lib.hid (pos_miss HK.out (by rw [HN.out]; exact hlt) he)
        have HT := Lib.hid (decide_eq_false he)
        clear he
        go_wp2_with fail
        refine (hit_as _ _ p B false _ HP'.out hB' HT.out).mono ?_
        rintro e w' ⟨rfl, hb'⟩
        have HB' := Lib.hid (bel_trans HB.out hb' HB.out.size)
        clear hb'
        go_wp2
        go_roundw
        case rel => exact ⟨k + 1, by omega, by go_num, HE.out, HB'.out⟩
        case measure => simp [intOf]; omega
    · go_wp2
      go_ret
      refine ⟨?_, HB.out⟩
      rw [plc_out (by rw [HN.out]; have := HK.out; omega)]; rfl

/-- place, of a buffer. -/
theorem place_any (g : Nat) (S : Nat → Prop) (xs : Rows) (p : Int) (w : World) (h : Tb w g S xs) :
    Calls Tryz.prog 200 #[.pointer (some ⟨g, 0, none⟩), .int .u32 p] w fun e w' => e = .returned (.int .i64 (plc xs p)) ∧ Below w.heap.size w w' := by
  obtain ⟨v, hb, hr, hS⟩ := h.ex
  have hl := h.fit.2.1
  have hg := lt_of_heap hb
  have hne : g ≠ w.heap.size := by omega
  have hc : w.cell? ⟨g, 0, none⟩ = some v := by rw [cell_of_row w g 0 _ _ _ hb]; rfl
  rcases own_shape hr with ⟨rfl, h0⟩ | ⟨r, cap, rfl, hcap, hm, hrl, hcs, hf⟩
  · have HX := Lib.hid (plc_out (xs := xs) (p := p) (by omega))
    clear hb hr hS h hl h0
    go_enter Tryz.func200, Tryz.ntmps200
    go_wp2_with fail
    refine (idx_none _ _ _ _).mono ?_
    rintro e w' ⟨rfl, rfl⟩
    go_wp2
    go_ret
    exact ⟨by rw [HX.out]; rfl, (Below.refl _ _).alloc (Nat.le_refl _) _⟩
  · have HC := Lib.hid hcs
    obtain ⟨n, hn⟩ : ∃ n, n = xs.length := ⟨_, rfl⟩
    rw [← hn] at hc hcap hl
    have HN := Lib.hid hn
    clear hb hr hS h hcs hf hn
    go_enter Tryz.func200, Tryz.ntmps200
    go_wp2_with fail
    refine (idx_some r n cap xs w.heap.size p _ HN.out.symm hl (by simp; omega) (fun j u hu => by rw [World.cell?_alloc_lt w _ _ hrl]; exact HC.out j u hu) (by simp) (by simp)).mono ?_
    rintro e w' ⟨rfl, hb'⟩
    go_wp2
    go_ret
    exact ⟨rfl, ((Below.refl _ _).alloc (Nat.le_refl _) _).trans (hb'.mono (by simp))⟩

theorem place_nil (p : Int) (w : World) :
    Calls Tryz.prog 200 #[.pointer none, .int .u32 p] w fun e w' => e = .returned (.int .i64 (-1)) ∧ Below w.heap.size w w' := by
  go_enter Tryz.func200, Tryz.ntmps200
  go_wp2
  go_ret
  exact ⟨rfl, (Below.refl _ _).alloc (Nat.le_refl _) _⟩

end Go.Proofs.YteohkobdmkbcpaaGreatDoor.Tl

/- slices.Delete of one row. -/
namespace Go.Proofs.YteohkobdmkbcpaaGreatDoor.Tl
open Go.RowKit

theorem setCells_heap (b : Nat) (t : TypeId) : ∀ (vs : List Value) (o : Nat) (w : World) (cur : Array Value), w.heap[b]? = some (.cells cur t (0, 0)) → o + vs.length ≤ cur.size →
    ∃ cur', (w.setCells b o vs).heap[b]? = some (.cells cur' t (0, 0)) ∧ cur'.toList = cur.toList.take o ++ vs ++ cur.toList.drop (o + vs.length)
  | [], o, w, cur, h, _ => ⟨cur, h, by simp⟩
  | v :: vs, o, w, cur, h, hl => by
    simp only [List.length_cons] at hl
    obtain ⟨cur', h1, h2⟩ := setCells_heap b t vs (o + 1) (w.setCell ⟨b, o, none⟩ v) (cur.setIfInBounds o v) (heap_setCell_same w b o cur t v h) (by simp; omega)
    refine ⟨cur', h1, ?_⟩
    rw [h2, Array.toList_setIfInBounds]
    have ho : o < cur.toList.length := by simpa using (by omega : o < cur.size)
    rw [List.set_eq_take_append_cons_drop, if_pos ho]
    have hlen : (cur.toList.take o).length = o := by simp; omega
    rw [List.take_append, List.drop_append, hlen]
    simp only [List.length_cons, List.take_take, List.drop_take]
    rw [show min (o + 1) o = o by omega, show o + 1 - o = 1 by omega, show o - (o + 1 + vs.length) = 0 by omega, show o + 1 + vs.length - o = vs.length + 1 by omega]
    simp [List.drop_drop, show o + 1 + vs.length = o + (vs.length + 1) by omega]

theorem mods_setCells {S : Nat → Prop} {a : World} (b : Nat) (hb : S b) : ∀ (vs : List Value) (o : Nat) (w : World), Mods S a w → Mods S a (w.setCells b o vs)
  | [], _, _, h => h
  | v :: vs, o, w, h => mods_setCells b hb vs (o + 1) (w.setCell ⟨b, o, none⟩ v) (h.set v (.inl hb))

set_option maxHeartbeats 4000000 in
set_option maxRecDepth 1000000 in
theorem del_any (r n cap i j : Nat) (xs : Rows) (w : World) (h : R2 w (.slice (some ⟨r, 0, none⟩) n cap) xs) (hn : xs.length = n) (hi : i < n) (hj : j = i + 1) (hn8 : n ≤ 8) :
    Calls Tryz.prog 201 #[.slice (some ⟨r, 0, none⟩) n cap, .int .i64 i, .int .i64 j] w fun e w' => e = .returned (.slice (some ⟨r, 0, none⟩) (n - 1) cap) ∧
      R2 w' (.slice (some ⟨r, 0, none⟩) (n - 1) cap) (xs.eraseIdx i) ∧ Mods (fun k => k = r) w w' := by
  obtain ⟨hcl, hnil | ⟨r', cap', cur, hv, hb, hh, hcap, hm, hs, ht⟩⟩ := h
  · cases hnil.1
  injection hv with e1 e2 e3
  injection e1 with e1
  injection e1 with e1
  subst e1 e3
  rw [hn] at hcap ht
  obtain ⟨i0, hi0, hz0, hz1, hz2⟩ := info_parts row_info
  have hcell : ∀ t u, (c2 xs)[t]? = some u → w.cell? ⟨r, t, none⟩ = some u := fun t u hu => by
    rw [cell_of_row w r t _ _ _ hh]
    rw [← ht, List.getElem?_take] at hu
    split at hu
    · simpa using hu
    · cases hu
  have hthere : ∀ t, t < cap * 2 → (w.cell? ⟨r, t, none⟩).isSome = true := fun t ht' => by
    rw [cell_of_row w r t _ _ _ hh, Array.getElem?_eq_getElem (by omega)]; rfl
  have hfree : ∀ t, w.frozen? ⟨r, t, none⟩ = false := fun t => frozen_of_row w r t _ _ hh
  obtain ⟨news, hnews⟩ : ∃ news, news = c2 (xs.drop j) := ⟨_, rfl⟩
  have hlen : news.length = (n - j) * 2 := by rw [hnews, c2_length, List.length_drop, hn]
  obtain ⟨A, hA, hsrc⟩ : ∃ A : Addr, (if cap = j then some (⟨r, 0, none⟩ : Addr) else some ⟨r, j * 2, none⟩) = some A ∧ Hid (∀ t u, news[t]? = some u → w.drew.cell? (A.add t) = some u) := by
    by_cases h : cap = j
    · refine ⟨⟨r, 0, none⟩, by simp [h], fun t u hu => ?_⟩
      have h0 : news.length = 0 := by rw [hlen]; omega
      rw [List.length_eq_zero_iff.1 h0] at hu
      simp at hu
    · refine ⟨⟨r, j * 2, none⟩, by simp [h], fun t u hu => ?_⟩
      rw [hnews, c2_drop, List.getElem?_drop] at hu
      rw [Addr.add_lit]
      exact hcell _ _ hu
  have s1 : Hid (news.length = (n - j) * 2) := hlen
  have s2 : Hid (∀ u ∈ news, u.oneCell' = true) := by rw [hnews]; exact c2_one _
  have s3 : Hid (∀ t, t < news.length → (w.drew.cell? ⟨r, 0 + i * 2 + t, none⟩).isSome = true ∧ w.drew.frozen? ⟨r, 0 + i * 2 + t, none⟩ = false) := by
    intro t ht
    rw [hlen] at ht
    exact ⟨hthere _ (by omega), hfree _⟩
  obtain ⟨W1, hW1⟩ : ∃ W1, W1 = w.drew.setCells r (0 + i * 2) news := ⟨_, rfl⟩
  obtain ⟨cur1, hh1, hc1⟩ : ∃ cur1, W1.heap[r]? = some (.cells cur1 230 (0, 0)) ∧ cur1.toList = cur.toList.take (i * 2) ++ news ++ cur.toList.drop (i * 2 + news.length) := by
    rw [hW1, Nat.zero_add]
    exact setCells_heap r _ news (i * 2) w.drew cur hh (by omega)
  have hsz1 : cur1.size = cap * 2 := by
    rw [← Array.length_toList, hc1]
    simp only [List.length_append, List.length_take, List.length_drop, Array.length_toList]
    omega
  have hM1 : Mods (fun k => k = r) w W1 := by rw [hW1]; exact mods_setCells (S := fun k => k = r) r rfl _ _ _ (Mods.refl _ w).drew
  have hclr : ∀ ty, (Builtin.clear_ #[157] ty #[.slice (some ⟨r, (i + (n - j)) * 2, none⟩) (n - (i + (n - j))) (cap - (i + (n - j)))]).run Tryz.prog W1 = .ok (.tuple #[]) (W1.setCells r ((i + (n - j)) * 2) [.int .u32 0, .int .u32 0]) := fun ty => by
    have hst := run_storeCells_cells (P := Tryz.prog) r ((i + (n - j)) * 2) [.int .u32 0, .int .u32 0] 0 W1
      (fun t ht => by simp only [List.length_cons, List.length_nil] at ht; rw [cell_of_row W1 r _ _ _ _ hh1, Array.getElem?_eq_getElem (by omega)]; rfl)
      (fun t _ => frozen_of_row W1 r _ _ _ hh1) (by intro v hv; simp at hv; subst hv; rfl)
    simp only [Nat.add_zero] at hst
    have h1 : n - (i + (n - j)) = 1 := by omega
    have hzc : (Builtin.zeroCells (Value.agg #[.int .u32 0, .int .u32 0]).cells 1).toList = [.int .u32 0, .int .u32 0] := by simp [Builtin.zeroCells, Value.cells]; rfl
    rw [h1]
    simp [Builtin.clear_, run_underlying under_rows, hzc, hst]
  obtain ⟨W2, hW2⟩ : ∃ W2, W2 = W1.setCells r ((i + (n - j)) * 2) [.int .u32 0, .int .u32 0] := ⟨_, rfl⟩
  rw [← hW2] at hclr
  have hM2 : Mods (fun k => k = r) w W2 := by rw [hW2]; exact mods_setCells (S := fun k => k = r) r rfl _ _ _ hM1
  have hR : R2 W2 (.slice (some ⟨r, 0, none⟩) (n - 1) cap) (xs.eraseIdx i) := by
    obtain ⟨cur2, hh2, hc2⟩ := setCells_heap r _ [.int .u32 0, .int .u32 0] ((i + (n - j)) * 2) W1 cur1 hh1 (by simp only [List.length_cons, List.length_nil]; omega)
    rw [← hW2] at hh2
    have hlx : (xs.eraseIdx i).length = n - 1 := by rw [List.length_eraseIdx, if_pos (by omega)]; omega
    refine ⟨by rw [c2_length], .inr ⟨r, cap, cur2, by rw [hlx], Nat.zero_le _, hh2, by omega, hm, ?_, ?_⟩⟩
    · rw [← Array.length_toList, hc2]
      simp only [List.length_append, List.length_take, List.length_drop, Array.length_toList, List.length_cons, List.length_nil]
      omega
    · have hpre : cur.toList.take (i * 2) = c2 (xs.take i) := by
        rw [c2_take, ← ht, List.take_take, show min (i * 2) (n * 2) = i * 2 by omega]
      rw [hlx, hc2, hc1, hpre, hnews, hj, List.eraseIdx_eq_take_drop_succ, c2_app]
      rw [hnews, hj] at hlen
      have hl2 : (c2 (xs.take i)).length = i * 2 := by rw [c2_length, List.length_take, hn]; omega
      have hl3 : (c2 (xs.take i) ++ c2 (xs.drop (i + 1))).length = (n - 1) * 2 := by rw [List.length_append, hl2, hlen]; omega
      rw [show (i + (n - (i + 1))) * 2 = (n - 1) * 2 by omega]
      generalize c2 (xs.take i) ++ c2 (xs.drop (i + 1)) = l at hl3 ⊢
      rw [List.append_assoc, List.take_append_of_le_length (by simp; omega), List.take_take, Nat.min_self, List.take_append_of_le_length (by omega), List.take_of_length_le (by omega)]
  have HR := Lib.hid hR
  have HM := Lib.hid hM2
  have hW : Hid (W1 = w.drew.setCells r (0 + i * 2) news) := hW1
  have hic : i ≤ cap := by omega
  have hjc : j ≤ cap := by omega
  have hij : i < j := by omega
  have hjn : j ≤ n := by omega
  have HE : Hid (i + (n - j) = n - 1) := by show _ = _; omega
  have hm' : cap ≤ 9223372036854775807 := by simpa [maxLen] using hm
  clear hW1 hh1 hc1 hsz1 hM1 hW2 hM2 hR hlen hnews hthere hfree hcell ht hs hh hcl hj hn hm e2 hb
  go_enter Tryz.func201, Tryz.ntmps201
  go_wp2_with fail
  go_region_law (refine step_append_room rfl (.tmp 22) (.tmp 25) 157 rfl 230 i0 2 under_rows hi0 hz1 r 0 i cap (by simp [Act.eval, Act.put]) A (n - j) (cap - j) news (by simp [Act.eval, Act.put]) s1.out hsrc.out s2.out (by omega) s3.out ?_; rw [← hW.out])
  go_wp2
  go_ret
  refine ⟨?_, HR.out, HM.out⟩
  rw [← HE.out]; rfl

end Go.Proofs.YteohkobdmkbcpaaGreatDoor.Tl

/- Contracts of package tlb: New, Get, Put, Drop, Clear. -/
namespace Go.Proofs.YteohkobdmkbcpaaGreatDoor.Tl
open Go.RowKit

theorem new_any (w : World) :
    Calls Tryz.prog 66 #[] w fun e w' => ∃ g S, e = .returned (.pointer (some ⟨g, 0, none⟩)) ∧ w.heap.size ≤ g ∧ g < w'.heap.size ∧ Tb w' g S [] ∧ Ab w.heap.size S ∧ Below w.heap.size w w' := by
  go_enter Tryz.func66, Tryz.ntmps66
  go_wp2
  go_ret
  refine ⟨w.heap.size, fun k => k = w.heap.size, rfl, Nat.le_refl _, by simp, ⟨⟨.slice none 0 0, heap_alloc_new _ _, ⟨by simp [c2], .inl ⟨rfl, rfl⟩⟩, fun k => by simp [Bl, Value.ownBlock]⟩, Fit.nil⟩, fun k h => by omega, (Below.refl _ _).alloc (Nat.le_refl _) _⟩

theorem get_nil (p : Int) (w : World) :
    Calls Tryz.prog 131 #[.pointer none, .int .u32 p] w fun e w' => e = .returned (.tuple #[.int .u32 0, .bool false]) ∧ Below w.heap.size w w' := by
  go_enter Tryz.func131, Tryz.ntmps131
  go_wp2_with (go_at_call 200; refine (place_nil _ _).mono ?_; rintro e w1 ⟨rfl, hb⟩)
  go_ret2
  exact ⟨rfl, hb⟩
theorem put_nil (p x : Int) (w : World) :
    Calls Tryz.prog 133 #[.pointer none, .int .u32 p, .int .u32 x] w fun e w' => e = .returned (.tuple #[]) ∧ w = w' := by
  go_enter Tryz.func133, Tryz.ntmps133
  go_wp2
  first | go_end0 | (refine bodyPost_ret (results_none rfl _ _ _) rfl ?_)
  exact ⟨rfl, rfl⟩
theorem clear_nil (w : World) :
    Calls Tryz.prog 65 #[.pointer none] w fun e w' => e = .returned (.tuple #[]) ∧ w = w' := by
  go_enter Tryz.func65, Tryz.ntmps65
  go_wp2
  first | go_end0 | (refine bodyPost_ret (results_none rfl _ _ _) rfl ?_)
  exact ⟨rfl, rfl⟩

theorem place_as (g : Nat) (S : Nat → Prop) (xs : Rows) (p k : Int) (w : World) (h : Tb w g S xs) (hk : plc xs p = k) :
    Calls Tryz.prog 200 #[.pointer (some ⟨g, 0, none⟩), .int .u32 p] w fun e w' => e = .returned (.int .i64 k) ∧ Below w.heap.size w w' := by
  subst hk
  exact place_any g S xs p w h

theorem del_as (r n m cap i j : Nat) (xs ys : Rows) (w : World) (h : R2 w (.slice (some ⟨r, 0, none⟩) n cap) xs) (hn : xs.length = n) (hi : i < n) (hj : j = i + 1) (hn8 : n ≤ 8) (hm : n - 1 = m) (hy : xs.eraseIdx i = ys) :
    Calls Tryz.prog 201 #[.slice (some ⟨r, 0, none⟩) n cap, .int .i64 i, .int .i64 j] w fun e w' => e = .returned (.slice (some ⟨r, 0, none⟩) m cap) ∧
      R2 w' (.slice (some ⟨r, 0, none⟩) m cap) ys ∧ Mods (fun k => k = r) w w' := by
  subst hm hy
  exact del_any r n cap i j xs w h hn hi hj hn8

/-- What a buffer with rows looks like. -/
theorem Tb.open_ {w : World} {g : Nat} {S : Nat → Prop} {xs : Rows} (h : Tb w g S xs) (h0 : 0 < xs.length) : ∃ r cap, w.cell? ⟨g, 0, none⟩ = some (.slice (some ⟨r, 0, none⟩) xs.length cap) ∧ xs.length ≤ cap ∧ cap ≤ 9223372036854775807 ∧
    w.heap[g]? = some (.cells #[.slice (some ⟨r, 0, none⟩) xs.length cap] 159 (0, 0)) ∧ R2 w (.slice (some ⟨r, 0, none⟩) xs.length cap) xs ∧ g ≠ r ∧ (∀ k, S k ↔ (k = g ∨ k = r)) := by
  obtain ⟨v, hb, hr, hS⟩ := h.ex
  have hc : w.cell? ⟨g, 0, none⟩ = some v := by rw [cell_of_row w g 0 _ _ _ hb]; rfl
  have hr0 := hr
  obtain ⟨h1, ⟨_, h2⟩ | ⟨r, cap, cur, rfl, _, hh, hcap, hm, _, _⟩⟩ := hr
  · omega
  · refine ⟨r, cap, hc, hcap, by simpa [maxLen] using hm, hb, hr0, ?_, fun k => by rw [hS k]; simp [Bl, Value.ownBlock, eq_comm]⟩
    rintro rfl
    have := hb.symm.trans hh
    injection this with this
    injection this with _ ht
    exact absurd ht (by decide)
theorem R2.ne {w : World} {g : Nat} {cs : Array Value} {fr : Nat × Nat} {v : Value} {ys : Rows} (hb : w.heap[g]? = some (.cells cs 159 fr)) (h : R2 w v ys) : ¬ Bl v g := by
  intro e
  obtain ⟨h1, ⟨rfl, _⟩ | ⟨r, cap, cur, rfl, _, hh, _⟩⟩ := h
  · simp [Bl, Value.ownBlock] at e
  · simp only [Bl, Value.ownBlock, Option.some.injEq] at e
    subst e
    have := hb.symm.trans hh
    injection this with this
    injection this with _ ht
    exact absurd ht (by decide)
theorem R2.len {w : World} {v : Value} {ys : Rows} (h : R2 w v ys) : (c2 ys).length = ys.length * 2 := h.1

set_option maxHeartbeats 400000 in
set_option maxRecDepth 100000 in
theorem get_any (g : Nat) (S : Nat → Prop) (xs : Rows) (p : Int) (w : World) (h : Tb w g S xs) :
    Calls Tryz.prog 131 #[.pointer (some ⟨g, 0, none⟩), .int .u32 p] w fun e w' => e = .returned (.tuple #[.int .u32 (ent xs p), .bool (hav xs p)]) ∧ Below w.heap.size w w' := by
  by_cases hp : pos xs p < xs.length
  · obtain ⟨r, cap, hc, hcap, hm, hb, hR, _, _⟩ := h.open_ (by omega)
    have H := Lib.hid h
    have HK := Lib.hid (plc_in hp)
    have HE : Hid (hav xs p = true) := decide_eq_true hp
    have hl := h.fit.2.1
    rcases own_shape hR with ⟨e, _⟩ | ⟨r', cap', e, _, _, hrl, hcs, _⟩
    · cases e
    · injection e with e1 _ e3
      injection e1 with e1
      injection e1 with e1
      subst e1 e3
      have he : w.cell? ⟨r, pos xs p * 2 + 1, none⟩ = some (.int .u32 (ent xs p)) := hcs _ _ (c2_get1 xs _ hp)
      have hg := lt_of_heap hb
      generalize ent xs p = x at he ⊢
      generalize hk : pos xs p = k at hp he HK
      generalize hn : xs.length = n at hp hc hcap hl
      have HC := Lib.hid hc
      have HX := Lib.hid he
      clear hb hR h hcs hk hn hc he
      go_enter Tryz.func131, Tryz.ntmps131
      go_wp2_with fail
      refine (place_as g S xs p k _ H.out HK.out).mono ?_
      rintro e w1 ⟨rfl, hb1⟩
      have hc1 := (hb1.cell (p := ⟨g, 0, none⟩) hg).trans HC.out
      have hx1 := (hb1.cell (p := ⟨r, k * 2 + 1, none⟩) hrl).trans HX.out
      have HB := Lib.hid hb1
      clear hb1
      go_wp2
      go_ret2
      exact ⟨by rw [HE.out]; rfl, HB.out⟩
  · have H := Lib.hid h
    have HK := Lib.hid (plc_out hp)
    have HE : Hid (hav xs p = false) := decide_eq_false hp
    have HX := Lib.hid (ent_out hp)
    clear h hp
    go_enter Tryz.func131, Tryz.ntmps131
    go_wp2_with fail
    refine (place_as g S xs p (-1) _ H.out HK.out).mono ?_
    rintro e w1 ⟨rfl, hb1⟩
    go_wp2
    go_ret2
    exact ⟨by rw [HE.out, HX.out]; rfl, hb1⟩

/-- The field is stored anew. -/
theorem tb_store {w w2 : World} {g : Nat} {u v' : Value} {S : Nat → Prop} {ys : Rows} (hb : w2.heap[g]? = some (.cells #[u] 159 (0, 0))) (hr : R2 w2 v' ys) (hf : Fit ys) (hS : ∀ k, Bl v' k → S k ∨ w.heap.size ≤ k) (hm : Mods S w w2) (hg : S g) :
    ∃ S', Tb (w2.setCell ⟨g, 0, none⟩ v') g S' ys ∧ Step S S' w (w2.setCell ⟨g, 0, none⟩ v') := by
  refine ⟨fun k => k = g ∨ Bl v' k, ⟨⟨v', heap_setCell_same w2 g 0 _ _ v' hb, own_keep hr (fun i hi => ?_), fun k => Iff.rfl⟩, hf⟩, hm.set _ (.inl hg), fun k hk => ?_⟩
  · exact Below.heap_setCell _ _ _ _ (by rintro rfl; exact hr.ne hb hi)
  · rcases hk with rfl | hk
    · exact .inl hg
    · exact hS k hk

set_option maxHeartbeats 400000 in
set_option maxRecDepth 100000 in
theorem clear_any (g : Nat) (S : Nat → Prop) (xs : Rows) (w : World) (h : Tb w g S xs) :
    Calls Tryz.prog 65 #[.pointer (some ⟨g, 0, none⟩)] w fun e w' => e = .returned (.tuple #[]) ∧ ∃ S', Tb w' g S' [] ∧ Step S S' w w' := by
  obtain ⟨v, hb, hr, hS⟩ := h.ex
  have hc : w.cell? ⟨g, 0, none⟩ = some v := by rw [cell_of_row w g 0 _ _ _ hb]; rfl
  have hf := frozen_of_row w g 0 _ _ hb
  have HE := Lib.hid (tb_store (w := w) (v' := .slice none 0 0) (ys := []) hb ⟨by simp [c2], .inl ⟨rfl, rfl⟩⟩ Fit.nil (fun k hk => by simp [Bl, Value.ownBlock] at hk) (Mods.refl S w) h.in_)
  clear hb hr hS h
  go_enter Tryz.func65, Tryz.ntmps65
  go_wp2
  first | go_end0 | (refine bodyPost_ret (results_none rfl _ _ _) rfl ?_)
  exact ⟨rfl, HE.out⟩



set_option maxHeartbeats 800000 in
set_option maxRecDepth 100000 in
theorem put_in (g : Nat) (S : Nat → Prop) (xs : Rows) (p x : Int) (w : World) (h : Tb w g S xs) (hp : pos xs p < xs.length) (hF : Fit (putR xs p x)) :
    Calls Tryz.prog 133 #[.pointer (some ⟨g, 0, none⟩), .int .u32 p, .int .u32 x] w fun e w' => e = .returned (.tuple #[]) ∧ ∃ S', Tb w' g S' (putR xs p x) ∧ Step S S' w w' := by
  have H := Lib.hid h
  have HK := Lib.hid (plc_in hp)
  have HF := Lib.hid hF
  have hl := h.fit.2.1
  have HD : Hid (putR xs p x = xs.set (pos xs p) (p, x)) := if_pos hp
  have HC := Lib.hid (c2_set1 xs (pos xs p) (p, x) hp (row_pos hp))
  generalize putR xs p x = ys at HF HD ⊢
  have hq := hp
  generalize hk : pos xs p = k at hp HK HD HC
  generalize hn : xs.length = n at hp hl
  have HN := Lib.hid hn
  clear hk hn h hF hq
  go_enter Tryz.func133, Tryz.ntmps133
  go_wp2_with fail
  refine (place_as g S xs p k _ H.out HK.out).mono ?_
  rintro e w1 ⟨rfl, hb1⟩
  have h1 := H.out.below hb1
  obtain ⟨r, cap, hc, hcap, hm, hb, hR, hne, hS⟩ := h1.open_ (by rw [HN.out]; omega)
  rw [HN.out] at hc hcap hb hR
  have hR' : w1.ownsRow 0 230 2 (.slice (some ⟨r, 0, none⟩) n cap) n (c2 xs) := by rw [← HN.out] at hR ⊢; exact hR
  have hcx := hR'.cellAt (k * 2 + 1) (by omega)
  rw [c2_get1 xs k (by rw [HN.out]; exact hp)] at hcx
  have hfx := hR'.frozenAt (k * 2 + 1)
  have hst := hR'.stored (k * 2 + 1) (.int .u32 x)
  have HE : Hid (∃ S', Tb (w1.setCell ⟨r, k * 2 + 1, none⟩ (.int .u32 x)) g S' ys ∧ Step S S' w (w1.setCell ⟨r, k * 2 + 1, none⟩ (.int .u32 x))) := by
    refine ⟨S, ⟨⟨.slice (some ⟨r, 0, none⟩) n cap, (Below.heap_setCell _ _ _ _ hne).trans hb, ?_, fun k => by rw [hS k]; simp [Bl, Value.ownBlock, eq_comm]⟩, HF.out⟩, (Mods.of_below hb1).set _ (.inl ((hS r).2 (.inr rfl))), fun _ h => .inl h⟩
    show World.ownsRow _ _ _ _ _ _ _
    rw [HD.out, HC.out, List.length_set, HN.out]
    exact hst.1
  clear hb hR hS h1 hb1 hR' hst
  go_wp2
  first | go_end0 | (refine bodyPost_ret (results_none rfl _ _ _) rfl ?_)
  exact ⟨rfl, HE.out⟩

set_option maxHeartbeats 800000 in
set_option maxRecDepth 100000 in
theorem put_less (g : Nat) (S : Nat → Prop) (xs : Rows) (p x : Int) (w : World) (h : Tb w g S xs) (hp : ¬ pos xs p < xs.length) (h8 : xs.length ≠ 8) (hF : Fit (putR xs p x)) :
    Calls Tryz.prog 133 #[.pointer (some ⟨g, 0, none⟩), .int .u32 p, .int .u32 x] w fun e w' => e = .returned (.tuple #[]) ∧ ∃ S', Tb w' g S' (putR xs p x) ∧ Step S S' w w' := by
  have H := Lib.hid h
  have HK := Lib.hid (plc_out hp)
  have HF := Lib.hid hF
  have hl := h.fit.2.1
  have HD : Hid (putR xs p x = xs ++ [(p, x)]) := by show _ = _; rw [putR, if_neg hp, if_neg h8]
  generalize putR xs p x = ys at HF HD ⊢
  generalize hn : xs.length = n at h8 hl
  have HN := Lib.hid hn
  have h8' : ((n : Int) == 8) = false := by simp; omega
  clear hn h hF hp
  go_enter Tryz.func133, Tryz.ntmps133
  go_wp2_with fail
  refine (place_as g S xs p (-1) _ H.out HK.out).mono ?_
  rintro e w1 ⟨rfl, hb1⟩
  have h1 := H.out.below hb1
  obtain ⟨v, hb, hR, hS⟩ := h1.ex
  have hc : w1.cell? ⟨g, 0, none⟩ = some v := by rw [cell_of_row w1 g 0 _ _ _ hb]; rfl
  have hg := lt_of_heap hb
  have hgv := hR.ne hb
  obtain ⟨r', cap', w2, hrun, H2⟩ := run_app2 w1 v xs p x hR (by rw [HN.out]; exact hl)
  rw [HN.out] at hrun H2
  have hb2 := (H2.out.2.mods.block g hg hgv).trans hb
  have hc2 : w2.cell? ⟨g, 0, none⟩ = some v := by rw [cell_of_row w2 g 0 _ _ _ hb2]; rfl
  have hf2 := frozen_of_row w2 g 0 _ _ hb2
  have HE := Lib.hid (tb_store (w := w) (S := S) (ys := ys) hb2 (by rw [HD.out]; exact H2.out.1) HF.out (fun k hk => by
    rcases H2.out.2.grow k hk with e | e
    · exact .inl ((hS k).2 (.inr e))
    · exact .inr (Nat.le_trans hb1.size e)) ((Mods.of_below hb1).trans H2.out.2.mods (fun i _ e => (hS i).2 (.inr e))) ((hS g).2 (.inl rfl)))
  have HR := Lib.hid hrun
  rcases own_shape hR with ⟨rfl, h0⟩ | ⟨r, cap, rfl, hcap, hm, hrl, _, _⟩
  · rw [HN.out] at h0
    subst h0
    clear hb hR hS h1 hb1 hb2 hrun hgv
    go_wp2_with (at_builtin; refine wpList_append_run _ rfl _ _ _ _ rfl _ _ rfl rfl HR.out ?_)
    first | go_end0 | (refine bodyPost_ret (results_none rfl _ _ _) rfl ?_)
    exact ⟨rfl, HE.out⟩
  · rw [HN.out] at hc hcap HR hc2
    clear hb hR hS h1 hb1 hb2 hrun hgv
    go_wp2_with (at_builtin; refine wpList_append_run _ rfl _ _ _ _ rfl _ _ rfl rfl HR.out ?_)
    first | go_end0 | (refine bodyPost_ret (results_none rfl _ _ _) rfl ?_)
    exact ⟨rfl, HE.out⟩

set_option maxHeartbeats 800000 in
set_option maxRecDepth 100000 in
theorem put_full (g : Nat) (S : Nat → Prop) (xs : Rows) (p x : Int) (w : World) (h : Tb w g S xs) (hp : ¬ pos xs p < xs.length) (h8 : xs.length = 8) (hF : Fit (putR xs p x)) :
    Calls Tryz.prog 133 #[.pointer (some ⟨g, 0, none⟩), .int .u32 p, .int .u32 x] w fun e w' => e = .returned (.tuple #[]) ∧ ∃ S', Tb w' g S' (putR xs p x) ∧ Step S S' w w' := by
  have H := Lib.hid h
  have HK := Lib.hid (plc_out hp)
  have HF := Lib.hid hF
  have HN := Lib.hid h8
  have HD : Hid (putR xs p x = xs.tail ++ [(p, x)]) := by show _ = _; rw [putR, if_neg hp, if_pos h8]
  have HT : Hid (xs.eraseIdx 0 = xs.tail) := by show _ = _; simp
  have HTl : Hid (xs.tail.length = 7) := by show _ = _; simp [h8]
  generalize putR xs p x = ys at HF HD ⊢
  clear h hF hp h8
  go_enter Tryz.func133, Tryz.ntmps133
  go_wp2_with fail
  refine (place_as g S xs p (-1) _ H.out HK.out).mono ?_
  rintro e w1 ⟨rfl, hb1⟩
  have h1 := H.out.below hb1
  obtain ⟨r, cap, hc, hcap, hm, hb, hR, hne, hS⟩ := h1.open_ (by rw [HN.out]; omega)
  rw [HN.out] at hc hcap hb hR
  have HB := Lib.hid hb
  have HR := Lib.hid hR
  have HS := Lib.hid hS
  have HM := Lib.hid (Mods.of_below (S := S) hb1)
  have hg := lt_of_heap hb
  clear hb hR hS h1 hb1
  go_wp2_with fail
  refine (del_as r 8 7 cap 0 1 xs xs.tail _ HR.out HN.out (by omega) rfl (by omega) rfl HT.out).mono ?_
  rintro e w2 ⟨rfl, hr2, hm2⟩
  have hb2 := (hm2.block g hg hne).trans HB.out
  have hc2 : w2.cell? ⟨g, 0, none⟩ = some (.slice (some ⟨r, 0, none⟩) 8 cap) := by rw [cell_of_row w2 g 0 _ _ _ hb2]; rfl
  have hf2 := frozen_of_row w2 g 0 _ _ hb2
  obtain ⟨w3, hw3⟩ : ∃ w3, w3 = w2.setCell ⟨g, 0, none⟩ (.slice (some ⟨r, 0, none⟩) 7 cap) := ⟨_, rfl⟩
  have hb3 : w3.heap[g]? = some (.cells #[.slice (some ⟨r, 0, none⟩) 7 cap] 159 (0, 0)) := by rw [hw3]; exact heap_setCell_same w2 g 0 _ _ _ hb2
  have hr3 : R2 w3 (.slice (some ⟨r, 0, none⟩) 7 cap) xs.tail := by
    rw [hw3]
    refine own_keep hr2 (fun i hi => Below.heap_setCell _ _ _ _ ?_)
    rintro rfl
    exact hr2.ne hb2 hi
  have hm3 : Mods S w w3 := by
    rw [hw3]
    exact (HM.out.trans hm2 (fun i _ e => (HS.out i).2 (.inr e))).set _ (.inl ((HS.out g).2 (.inl rfl)))
  have hc3 : w3.cell? ⟨g, 0, none⟩ = some (.slice (some ⟨r, 0, none⟩) 7 cap) := by rw [cell_of_row w3 g 0 _ _ _ hb3]; rfl
  obtain ⟨r', cap', w4, hrun, H4⟩ := run_app2 w3 _ xs.tail p x hr3 (by rw [HTl.out]; omega)
  have hsz : w3.heap.size = w2.heap.size := by rw [hw3]; simp [World.setCell]
  rw [HTl.out, show 7 + 1 = 8 from rfl] at hrun H4
  rw [hsz] at hrun
  have hb4 := (H4.out.2.mods.block g (lt_of_heap hb3) (hr3.ne hb3)).trans hb3
  have hc4 : w4.cell? ⟨g, 0, none⟩ = some (.slice (some ⟨r, 0, none⟩) 7 cap) := by rw [cell_of_row w4 g 0 _ _ _ hb4]; rfl
  have hf4 := frozen_of_row w4 g 0 _ _ hb4
  have HE := Lib.hid (tb_store (w := w) (S := S) (ys := ys) hb4 (by rw [HD.out]; exact H4.out.1) HF.out (fun k hk => by
    rcases H4.out.2.grow k hk with e | e
    · simp only [Bl, Value.ownBlock, Option.some.injEq] at e
      exact .inl ((HS.out k).2 (.inr e.symm))
    · exact .inr (Nat.le_trans hm3.size e)) (hm3.trans H4.out.2.mods (fun i _ e => by
      simp only [Bl, Value.ownBlock, Option.some.injEq] at e
      exact (HS.out i).2 (.inr e.symm))) ((HS.out g).2 (.inl rfl)))
  rw [hw3] at hrun
  have HRun := Lib.hid hrun
  clear hb2 hr2 hm2 hb3 hr3 hm3 hb4 hrun hw3 hsz
  go_wp2_with (at_builtin; refine wpList_append_run _ rfl _ _ _ _ rfl _ _ rfl rfl HRun.out ?_)
  first | go_end0 | (refine bodyPost_ret (results_none rfl _ _ _) rfl ?_)
  exact ⟨rfl, HE.out⟩

theorem put_any (g : Nat) (S : Nat → Prop) (xs : Rows) (p x : Int) (w : World) (h : Tb w g S xs) (hp : 0 ≤ p ∧ p < 4294967296) (hx : 0 ≤ x ∧ x < 4294967296) :
    Calls Tryz.prog 133 #[.pointer (some ⟨g, 0, none⟩), .int .u32 p, .int .u32 x] w fun e w' => e = .returned (.tuple #[]) ∧ ∃ S', Tb w' g S' (putR xs p x) ∧ Step S S' w w' := by
  have hF := h.fit.put hp hx
  by_cases hi : pos xs p < xs.length
  · exact put_in g S xs p x w h hi hF
  · by_cases h8 : xs.length = 8
    · exact put_full g S xs p x w h hi h8 hF
    · exact put_less g S xs p x w h hi h8 hF

end Go.Proofs.YteohkobdmkbcpaaGreatDoor.Tl

/- Contracts of package tlb: Pages. -/
namespace Go.Proofs.YteohkobdmkbcpaaGreatDoor.Tl
open Go.RowKit



theorem run_make32 (n : Nat) (hn : n ≤ 1000000) (w : World) :
    ∃ cs : Array Value, (Instr.makeSlice 78 (.int .i64 0) (.int .i64 (n : Int))).run Tryz.prog w = .ok (.slice (some ⟨w.heap.size, 0, none⟩) 0 n) (w.alloc (.cells cs 23)) ∧
      Hid (R1 (w.alloc (.cells cs 23)) (.slice (some ⟨w.heap.size, 0, none⟩) 0 n) []) := by
  obtain ⟨i, hi, hz, hs, hb⟩ := info_parts u32_info
  have hr := run_make (P := Tryz.prog) w _ _ i _ under_u32s hi hz .i64 .i64 0 n (by omega) (by omega) (by rw [hb]; omega) (by omega)
  rw [hs] at hr
  simp only [Int.toNat_natCast, Nat.mul_one] at hr
  exact ⟨_, hr, World.ownsRow_made (base := 0) w _ n (Nat.zero_le _) (by simp only [maxLen]; omega) (by simp [madeCells, Value.cells])⟩

theorem pages_take_length (xs : Rows) (k : Nat) (h : k ≤ xs.length) : (pages (xs.take k)).length = k := by rw [pages_length, List.length_take]; omega
theorem pages_take_succ (xs : Rows) (k : Nat) (h : k < xs.length) : pages (xs.take k) ++ [(row xs k).1] = pages (xs.take (k + 1)) := by
  rw [List.take_add_one, pages_app]
  simp [pages, row, List.getD, h]

/-- What stands behind rounds of Pages. -/
def Paged (w : World) (xs : Rows) (k : Nat) (v : Value) (wr : World) : Prop :=
  ∃ b cap, v = .slice (some ⟨b, 0, none⟩) k cap ∧ w.heap.size ≤ b ∧ R1 wr v (pages (xs.take k)) ∧ Below w.heap.size w wr



end Go.Proofs.YteohkobdmkbcpaaGreatDoor.Tl

/- Contracts: Same, of lists that are; what each law asks first. -/
namespace Go.Proofs.YteohkobdmkbcpaaGreatDoor.Tl
open Go.RowKit



theorem get_as (g : Nat) (S : Nat → Prop) (xs : Rows) (p x : Int) (t : Bool) (w : World) (h : Tb w g S xs) (hx : ent xs p = x) (ht : hav xs p = t) :
    Calls Tryz.prog 131 #[.pointer (some ⟨g, 0, none⟩), .int .u32 p] w fun e w' => e = .returned (.tuple #[.int .u32 x, .bool t]) ∧ Below w.heap.size w w' := by
  subst hx ht
  exact get_any g S xs p w h



end Go.Proofs.YteohkobdmkbcpaaGreatDoor.Tl

/- A slice of numbers that came in; facts of rows that the laws want. -/
namespace Go.Proofs.YteohkobdmkbcpaaGreatDoor.Tl
open Go.RowKit

def U32 (x : Int) : Prop := 0 ≤ x ∧ x < 4294967296

/-- A slice that came in: n numbers. -/
structure Src (w : World) (A : Option Addr) (n : Nat) (ys : List Int) : Prop where
  len : ys.length = n
  num : ∀ k, U32 (ys.getD k 0)
  cell : ∀ k, k < n → ∃ ad, A = some ad ∧ ad.block < w.heap.size ∧ w.cell? (ad.add k) = some (.int .u32 (ys.getD k 0))

theorem block_add (a : Addr) (n : Nat) : (a.add n).block = a.block := by unfold Addr.add; split <;> rfl
theorem src_of_row {w : World} {A : Option Addr} {n c : Nat} {zs : List Int}
    (h : (A = none ∧ n = 0 ∧ c = 0 ∧ zs = []) ∨ ∃ x : Addr, A = some x ∧ n ≤ c ∧ c ≤ maxLen ∧ zs.length = c ∧ (∀ i, i < zs.length → w.cell? (x.add i) = some (.int .u32 (zs.getD i 0))) ∧ ∀ n ∈ zs, (Lit.int .u32 n).wf = true) :
    ∃ ys, Src w A n ys := by
  rcases h with ⟨rfl, rfl, rfl, rfl⟩ | ⟨x, rfl, hn, _, hl, hc, hw⟩
  · exact ⟨[], rfl, fun k => by simp [U32], fun k hk => by omega⟩
  · have hget : ∀ k, k < n → (zs.take n).getD k 0 = zs.getD k 0 := fun k hk => by simp [List.getD, hk]
    refine ⟨zs.take n, by rw [List.length_take]; omega, fun k => ?_, fun k hk => ⟨x, rfl, ?_, ?_⟩⟩
    · by_cases hk : k < n
      · rw [hget k hk]
        have hm : zs.getD k 0 ∈ zs := by
          simp only [List.getD, List.getElem?_eq_getElem (by omega : k < zs.length), Option.getD_some]
          exact List.getElem_mem _
        have := bounds_u32 (hw _ hm)
        exact ⟨by omega, by omega⟩
      · simp [List.getD, List.getElem?_take, hk, U32]
    · have := block_lt_of_cell (hc k (by omega))
      rwa [block_add] at this
    · rw [hget k hk]
      exact hc k (by omega)
theorem Src.at_ {w wr : World} {A : Option Addr} {n : Nat} {ys : List Int} (h : Src w A n ys) (hb : Below w.heap.size w wr) {k : Nat} (hk : k < n) : ∃ ad, A = some ad ∧ wr.cell? (ad.add k) = some (.int .u32 (ys.getD k 0)) := by
  obtain ⟨ad, e, hl, hc⟩ := h.cell k hk
  exact ⟨ad, e, (hb.cell (p := ad.add k) (by rw [block_add]; exact hl)).trans hc⟩

end Go.Proofs.YteohkobdmkbcpaaGreatDoor.Tl
