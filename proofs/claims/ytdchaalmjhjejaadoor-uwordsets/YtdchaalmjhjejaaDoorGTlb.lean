import Derived.Below
import Derived.Lib.Hide
import Derived.Laws.Rows
import Derived.Laws.OwnMore
import Derived.Maps.AppendAt
import Derived.OwnWalk
import Derived.Deep.Draws
import Derived.Test.YtdchaalmjhjejaaDoorChecked
import Derived.KernelRfl

/- Rows of pages and entries: where a page stands, what is put and dropped. No program is in sight. -/
namespace Go.Proofs.YtdchaalmjhjejaaDoor.Tl
open Go.RowKit

abbrev Rows := List (Int × Int)
/-- Where a page stands; the length, if nowhere. -/
def pos : Rows → Int → Nat
  | [], _ => 0
  | r :: xs, p => if r.1 = p then 0 else pos xs p + 1
/-- The number that is answered: -1, if nowhere. -/
def plc (xs : Rows) (p : Int) : Int := if pos xs p < xs.length then (pos xs p : Int) else -1
def hav (xs : Rows) (p : Int) : Bool := decide (pos xs p < xs.length)
def row (xs : Rows) (k : Nat) : Int × Int := xs.getD k (0, 0)
def ent (xs : Rows) (p : Int) : Int := (row xs (pos xs p)).2
def dropR (xs : Rows) (p : Int) : Rows := xs.eraseIdx (pos xs p)
def putR (xs : Rows) (p x : Int) : Rows :=
  if pos xs p < xs.length then xs.set (pos xs p) (p, x) else (if xs.length = 8 then xs.tail else xs) ++ [(p, x)]
def pages (xs : Rows) : List Int := xs.map Prod.fst
def Fit (xs : Rows) : Prop := (pages xs).Nodup ∧ xs.length ≤ 8 ∧ ∀ r ∈ xs, (0 ≤ r.1 ∧ r.1 < 4294967296) ∧ (0 ≤ r.2 ∧ r.2 < 4294967296)

theorem pos_le (xs : Rows) (p : Int) : pos xs p ≤ xs.length := by
  induction xs with
  | nil => simp [pos]
  | cons r xs ih => simp only [pos, List.length_cons]; split <;> omega
theorem pos_hit {xs : Rows} {p : Int} {k : Nat} (h : k ≤ pos xs p) (hk : k < xs.length) (e : (row xs k).1 = p) : pos xs p = k := by
  induction xs generalizing k with
  | nil => simp at hk
  | cons r xs ih =>
    simp only [pos] at h ⊢
    cases k with
    | zero => simp [row] at e; simp [e]
    | succ k =>
      split at h
      · omega
      · rename_i hne
        rw [if_neg hne, ih (k := k) (by omega) (by simpa using hk) (by simpa [row] using e)]
theorem pos_miss {xs : Rows} {p : Int} {k : Nat} (h : k ≤ pos xs p) (hk : k < xs.length) (e : (row xs k).1 ≠ p) : k + 1 ≤ pos xs p := by
  induction xs generalizing k with
  | nil => simp at hk
  | cons r xs ih =>
    simp only [pos] at h ⊢
    cases k with
    | zero => simp [row] at e; simp [e]
    | succ k =>
      split at h
      · omega
      · rename_i hne
        rw [if_neg hne]
        have := ih (k := k) (by omega) (by simpa using hk) (by simpa [row] using e)
        omega
theorem row_pos {xs : Rows} {p : Int} (h : pos xs p < xs.length) : (row xs (pos xs p)).1 = p := by
  induction xs with
  | nil => simp at h
  | cons r xs ih =>
    simp only [pos] at h ⊢
    split
    · rename_i e; simpa [row] using e
    · rename_i e; rw [if_neg e] at h; simpa [row] using ih (by simpa using h)
theorem plc_in {xs : Rows} {p : Int} (h : pos xs p < xs.length) : plc xs p = (pos xs p : Int) := if_pos h
theorem plc_out {xs : Rows} {p : Int} (h : ¬ pos xs p < xs.length) : plc xs p = -1 := if_neg h
theorem hav_mem {xs : Rows} {p : Int} : pos xs p < xs.length ↔ p ∈ pages xs := by
  induction xs with
  | nil => simp [pages]
  | cons r xs ih =>
    simp only [pos, pages, List.map_cons, List.mem_cons, List.length_cons]
    by_cases e : r.1 = p
    · simp [e]
    · rw [if_neg e]
      have : ¬ p = r.1 := fun h => e h.symm
      simp only [this, false_or]
      rw [← show p ∈ pages xs ↔ p ∈ List.map Prod.fst xs from Iff.rfl, ← ih]
      omega
theorem row_mem {xs : Rows} {k : Nat} (hk : k < xs.length) : row xs k ∈ xs := by
  simp only [row, List.getD, List.getElem?_eq_getElem hk, Option.getD_some]
  exact List.getElem_mem hk
theorem ent_out {xs : Rows} {p : Int} (h : ¬ pos xs p < xs.length) : ent xs p = 0 := by
  simp [ent, row, List.getD, List.getElem?_eq_none (by omega : xs.length ≤ pos xs p)]
theorem row_wf {xs : Rows} (h : Fit xs) (k : Nat) : (0 ≤ (row xs k).1 ∧ (row xs k).1 < 4294967296) ∧ (0 ≤ (row xs k).2 ∧ (row xs k).2 < 4294967296) := by
  by_cases hk : k < xs.length
  · exact h.2.2 _ (row_mem hk)
  · simp [row, List.getD, List.getElem?_eq_none (by omega : xs.length ≤ k)]

theorem pages_set {xs : Rows} {p x : Int} (h : pos xs p < xs.length) : pages (xs.set (pos xs p) (p, x)) = pages xs := by
  rw [pages, List.map_set]
  apply List.ext_getElem
  · simp [pages]
  · intro i h1 h2
    rw [List.getElem_set]
    split
    · rename_i e
      subst e
      have := row_pos h
      simp only [row, List.getD, List.getElem?_eq_getElem h, Option.getD_some] at this
      simp [pages, this]
    · simp [pages]
theorem pages_length (xs : Rows) : (pages xs).length = xs.length := by simp [pages]
theorem pages_tail (xs : Rows) : pages xs.tail = (pages xs).tail := by simp [pages]
theorem pages_app (xs ys : Rows) : pages (xs ++ ys) = pages xs ++ pages ys := by simp [pages]
theorem Fit.nil : Fit [] := ⟨by simp [pages], by simp, by simp⟩
theorem Fit.sub {xs ys : Rows} (h : Fit xs) (s : ys.Sublist xs) : Fit ys :=
  ⟨(s.map Prod.fst).nodup h.1, Nat.le_trans s.length_le h.2.1, fun r hr => h.2.2 r (s.subset hr)⟩
theorem Fit.drop {xs : Rows} (h : Fit xs) (p : Int) : Fit (dropR xs p) := h.sub (List.eraseIdx_sublist _ _)
theorem Fit.put {xs : Rows} (h : Fit xs) {p x : Int} (hp : 0 ≤ p ∧ p < 4294967296) (hx : 0 ≤ x ∧ x < 4294967296) : Fit (putR xs p x) := by
  unfold putR
  by_cases e : pos xs p < xs.length
  · rw [if_pos e]
    refine ⟨by rw [pages_set e]; exact h.1, by simpa using h.2.1, fun r hr => ?_⟩
    rcases List.mem_or_eq_of_mem_set hr with hr | rfl
    · exact h.2.2 r hr
    · exact ⟨hp, hx⟩
  · rw [if_neg e]
    have hnot : p ∉ pages xs := fun hm => e (hav_mem.2 hm)
    have key : ∀ ys : Rows, Fit ys → ys.length ≤ 7 → p ∉ pages ys → Fit (ys ++ [(p, x)]) := by
      intro ys hy hl hn
      refine ⟨?_, by simp; omega, fun r hr => ?_⟩
      · rw [pages_app, List.nodup_append]
        refine ⟨hy.1, by simp [pages], ?_⟩
        intro a ha b hb
        simp [pages] at hb
        subst hb
        rintro rfl
        exact hn ha
      · rcases List.mem_append.1 hr with hr | hr
        · exact hy.2.2 r hr
        · simp at hr; subst hr; exact ⟨hp, hx⟩
    have hl := h.2.1
    split
    · exact key _ (h.sub (List.tail_sublist _)) (by simp; omega) (fun hm => hnot (by rw [pages_tail] at hm; exact List.mem_of_mem_tail hm))
    · exact key _ h (by omega) hnot

/-- What the document's Drop leaves: all but the page's. -/
theorem pos_cons_ne {r : Int × Int} {xs : Rows} {p : Int} (e : r.1 ≠ p) : pos (r :: xs) p = pos xs p + 1 := by simp [pos, e]
theorem pos_cons_eq {r : Int × Int} {xs : Rows} {p : Int} (e : r.1 = p) : pos (r :: xs) p = 0 := by simp [pos, e]
theorem drop_filter {xs : Rows} {p : Int} (h : (pages xs).Nodup) : dropR xs p = xs.filter fun r => decide (r.1 ≠ p) := by
  induction xs with
  | nil => simp [dropR]
  | cons r xs ih =>
    simp only [pages, List.map_cons, List.nodup_cons] at h
    by_cases e : r.1 = p
    · have hall : xs.filter (fun r => decide (r.1 ≠ p)) = xs := by
        rw [List.filter_eq_self]
        intro a ha
        have : a.1 ≠ p := by
          rintro rfl
          exact h.1 (by rw [e]; exact List.mem_map.2 ⟨a, ha, rfl⟩)
        simpa using this
      rw [dropR, pos_cons_eq e, List.filter_cons_of_neg (by simp [e]), hall]
      simp
    · rw [dropR, pos_cons_ne e, List.filter_cons_of_pos (by simp [e]), List.eraseIdx_cons_succ]
      rw [← ih h.2]; rfl
theorem drop_head {xs : Rows} (h0 : 0 < xs.length) : dropR xs (row xs 0).1 = xs.tail := by
  cases xs with
  | nil => simp at h0
  | cons r xs => simp [dropR, row, pos]

end Go.Proofs.YtdchaalmjhjejaaDoor.Tl

/- Buffers as they lie in the model's world: what blocks they are made of, what turns when one of them turns. No program is walked here. -/
namespace Go.Proofs.YtdchaalmjhjejaaDoor.Tl
open Go.RowKit

theorem lt_of_heap {w : World} {k : Nat} {o : Obj} (h : w.heap[k]? = some o) : k < w.heap.size := by
  rcases Nat.lt_or_ge k w.heap.size with hlt | hge
  · exact hlt
  · rw [Array.getElem?_eq_none hge] at h; cases h

/-- Only blocks of S have turned; new ones may have come. -/
structure Mods (S : Nat → Prop) (w w' : World) : Prop where
  os : w'.os = w.os
  tape : w'.tape = w.tape
  output : w'.output = w.output
  size : w.heap.size ≤ w'.heap.size
  block : ∀ k, k < w.heap.size → ¬ S k → w'.heap[k]? = w.heap[k]?
section
variable {S T : Nat → Prop} {a b c w w' : World}
theorem Mods.refl (S : Nat → Prop) (w : World) : Mods S w w := ⟨rfl, rfl, rfl, Nat.le_refl _, fun _ _ _ => rfl⟩
theorem Mods.trans (h : Mods S a b) (k : Mods T b c) (hT : ∀ i, i < a.heap.size → T i → S i) : Mods S a c :=
  ⟨k.os.trans h.os, k.tape.trans h.tape, k.output.trans h.output, Nat.le_trans h.size k.size,
   fun i hi hne => (k.block i (Nat.lt_of_lt_of_le hi h.size) (fun ht => hne (hT i hi ht))).trans (h.block i hi hne)⟩
theorem Mods.mono (h : Mods S a b) (hT : ∀ i, i < a.heap.size → S i → T i) : Mods T a b :=
  ⟨h.os, h.tape, h.output, h.size, fun i hi hne => h.block i hi (fun hs => hne (hT i hi hs))⟩
theorem Mods.of_below (h : Below a.heap.size a b) : Mods S a b := ⟨h.os, h.tape, h.output, h.size, fun i hi _ => h.block i hi⟩
theorem Mods.of_grown {row : Option Nat} (h : a.grownBy b row) (hr : ∀ k, row = some k → S k) : Mods S a b :=
  ⟨h.os, h.tape, h.output, h.size, fun i hi hne => h.block i hi (fun e => hne (hr i e.symm))⟩
theorem Mods.below {B : Nat} (h : Below B w a) (m : Mods S a b) (hS : ∀ k, S k → B ≤ k) (hB : B ≤ a.heap.size) : Below B w b :=
  h.trans ⟨m.os, m.tape, m.output, m.size, fun k hk => m.block k (by omega) (fun hs => by have := hS k hs; omega)⟩
theorem Mods.set (h : Mods S a b) {p : Addr} (u : Value) (hp : S p.block ∨ a.heap.size ≤ p.block) : Mods S a (b.setCell p u) :=
  ⟨h.os, h.tape, h.output, by simpa [World.setCell] using h.size, fun k hk hne => by
    rw [Below.heap_setCell _ _ _ _ (by rcases hp with hp | hp; · rintro rfl; exact hne hp
                                       · omega)]
    exact h.block k hk hne⟩
theorem Mods.drew (h : Mods S a b) : Mods S a b.drew := ⟨h.os, h.tape, h.output, h.size, h.block⟩
theorem Mods.alloc (h : Mods S a b) (o : Obj) : Mods S a (b.alloc o) :=
  h.trans (T := S) (Mods.of_below ((Below.refl _ _).alloc (Nat.le_refl _) _)) (fun _ _ h => h)
end
theorem bel_trans {a b c : World} {B : Nat} (h : Below B a b) (k : Below b.heap.size b c) (hB : B ≤ b.heap.size) : Below B a c := h.trans (k.mono hB)
theorem bel2 {a b c : World} (h : Below a.heap.size a b) (k : Below b.heap.size b c) : Below a.heap.size a c := h.trans (k.mono h.size)

def Apart (S T : Nat → Prop) : Prop := ∀ k, S k → T k → False
theorem Apart.symm {S T : Nat → Prop} (h : Apart S T) : Apart T S := fun k a b => h k b a
/-- From block B on. -/
def Ab (B : Nat) (S : Nat → Prop) : Prop := ∀ k, S k → B ≤ k
/-- Up to block B. -/
def Lo (B : Nat) (S : Nat → Prop) : Prop := ∀ k, S k → k < B
theorem Apart.of {S T : Nat → Prop} {B : Nat} (h : Lo B S) (k : Ab B T) : Apart S T := fun i a b => by have := h i a; have := k i b; omega

/-- A call turned blocks of S alone; the thing's blocks are S' now. -/
structure Step (S S' : Nat → Prop) (w w' : World) : Prop where
  mods : Mods S w w'
  grow : ∀ k, S' k → S k ∨ w.heap.size ≤ k
section
variable {S S' S'' T : Nat → Prop} {w w' w'' : World} {B : Nat}
theorem Step.apart (h : Step S S' w w') (a : Apart S T) (l : Lo w.heap.size T) : Apart S' T := fun k x y => by
  rcases h.grow k x with hs | hs
  · exact a k hs y
  · have := l k y; omega
theorem Step.ab (h : Step S S' w w') (a : Ab B S) (hB : B ≤ w.heap.size) : Ab B S' := fun k x => by
  rcases h.grow k x with hs | hs
  · exact a k hs
  · omega
theorem Step.below {w0 : World} (h : Step S S' w w') (b : Below B w0 w) (a : Ab B S) (hB : B ≤ w.heap.size) : Below B w0 w' := h.mods.below b a hB
theorem Step.of_below (h : Below w.heap.size w w') : Step S S w w' := ⟨Mods.of_below h, fun _ h => .inl h⟩
theorem Step.trans (h : Step S S' w w') (k : Step S' S'' w' w'') : Step S S'' w w'' :=
  ⟨h.mods.trans k.mods (fun i hi hs => by rcases h.grow i hs with x | x; · exact x
                                          · omega),
   fun i hi => by
    rcases k.grow i hi with x | x
    · exact h.grow i x
    · exact .inr (Nat.le_trans h.mods.size x)⟩
end

/-- Cells of numbers, and of rows of two numbers. -/
def c1 (xs : List Int) : List Value := xs.map fun x => .int .u32 x
def c2 : Rows → List Value
  | [] => []
  | r :: xs => .int .u32 r.1 :: .int .u32 r.2 :: c2 xs
theorem c1_length (xs : List Int) : (c1 xs).length = xs.length := by simp [c1]
theorem c2_length (xs : Rows) : (c2 xs).length = xs.length * 2 := by
  induction xs with
  | nil => rfl
  | cons r xs ih => simp only [c2, List.length_cons, ih]; omega
theorem c1_one (xs : List Int) : ∀ v ∈ c1 xs, v.oneCell' = true := by
  intro v hv
  simp only [c1, List.mem_map] at hv
  obtain ⟨x, _, rfl⟩ := hv
  rfl
theorem c2_one (xs : Rows) : ∀ v ∈ c2 xs, v.oneCell' = true := by
  induction xs with
  | nil => simp [c2]
  | cons r xs ih =>
    intro v hv
    simp only [c2, List.mem_cons] at hv
    rcases hv with rfl | rfl | hv
    · rfl
    · rfl
    · exact ih v hv
theorem c1_get (xs : List Int) (i : Nat) (h : i < xs.length) : (c1 xs)[i]? = some (.int .u32 (xs.getD i 0)) := by simp [c1, List.getD, h]
theorem c2_get0 (xs : Rows) (i : Nat) (h : i < xs.length) : (c2 xs)[i * 2]? = some (.int .u32 (row xs i).1) := by
  induction xs generalizing i with
  | nil => simp at h
  | cons r xs ih =>
    cases i with
    | zero => simp [c2, row]
    | succ i =>
      rw [show (i + 1) * 2 = i * 2 + 1 + 1 by omega]
      simpa [c2, row] using ih i (by simpa using h)
theorem c2_get1 (xs : Rows) (i : Nat) (h : i < xs.length) : (c2 xs)[i * 2 + 1]? = some (.int .u32 (row xs i).2) := by
  induction xs generalizing i with
  | nil => simp at h
  | cons r xs ih =>
    cases i with
    | zero => simp [c2, row]
    | succ i =>
      rw [show (i + 1) * 2 + 1 = i * 2 + 1 + 1 + 1 by omega]
      simpa [c2, row] using ih i (by simpa using h)
theorem c2_app (xs ys : Rows) : c2 (xs ++ ys) = c2 xs ++ c2 ys := by
  induction xs with
  | nil => rfl
  | cons r xs ih => simp [c2, ih]
theorem c1_app (xs ys : List Int) : c1 (xs ++ ys) = c1 xs ++ c1 ys := by simp [c1]
theorem c2_drop (xs : Rows) (k : Nat) : c2 (xs.drop k) = (c2 xs).drop (k * 2) := by
  induction xs generalizing k with
  | nil => simp [c2]
  | cons r xs ih =>
    cases k with
    | zero => simp
    | succ k =>
      rw [show (k + 1) * 2 = k * 2 + 1 + 1 by omega]
      simp [c2, ih]
theorem c2_take (xs : Rows) (k : Nat) : c2 (xs.take k) = (c2 xs).take (k * 2) := by
  induction xs generalizing k with
  | nil => simp [c2]
  | cons r xs ih =>
    cases k with
    | zero => simp [c2]
    | succ k =>
      rw [show (k + 1) * 2 = k * 2 + 1 + 1 by omega]
      simp [c2, ih]
theorem c2_set1 (xs : Rows) (k : Nat) (y : Int × Int) (h : k < xs.length) (e : (row xs k).1 = y.1) : c2 (xs.set k y) = (c2 xs).set (k * 2 + 1) (.int .u32 y.2) := by
  induction xs generalizing k with
  | nil => simp at h
  | cons r xs ih =>
    cases k with
    | zero => simp only [row, List.getD_cons_zero] at e; simp [c2, e]
    | succ k =>
      rw [show (k + 1) * 2 + 1 = k * 2 + 1 + 1 + 1 by omega]
      simp [c2, ih k (by simpa using h) (by simpa [row] using e)]

/-- The blocks of a row. -/
def Bl (v : Value) : Nat → Prop := fun k => v.ownBlock = some k
/-- A row of numbers. -/
def R1 (w : World) (v : Value) (xs : List Int) : Prop := w.ownsRow 0 65 1 v xs.length (c1 xs)



section
variable {w w' : World} {v : Value} {e k n : Nat} {cs : List Value} {T : Nat → Prop}
theorem own_keep (h : w.ownsRow 0 e k v n cs) (hk : ∀ i, v.ownBlock = some i → w'.heap[i]? = w.heap[i]?) : w'.ownsRow 0 e k v n cs := by
  obtain ⟨h1, h2 | ⟨g, cap, cur, rfl, hb, hh, hr⟩⟩ := h
  · exact ⟨h1, .inl h2⟩
  · exact ⟨h1, .inr ⟨g, cap, cur, rfl, hb, (hk g rfl).trans hh, hr⟩⟩
theorem own_lo (h : w.ownsRow 0 e k v n cs) : Lo w.heap.size (Bl v) := fun i hi => (h.lt i hi).2
theorem own_mods (h : w.ownsRow 0 e k v n cs) (m : Mods T w w') (a : Apart T (Bl v)) : w'.ownsRow 0 e k v n cs :=
  own_keep h fun i hi => m.block i (own_lo h i hi) (fun ht => a i ht hi)
theorem own_below (h : w.ownsRow 0 e k v n cs) (m : Below w.heap.size w w') : w'.ownsRow 0 e k v n cs :=
  own_keep h fun i hi => m.block i (own_lo h i hi)
/-- What a row of numbers is: nil, or a block. -/
theorem own_shape (h : w.ownsRow 0 e k v n cs) : (v = .slice none 0 0 ∧ n = 0) ∨ ∃ r cap, v = .slice (some ⟨r, 0, none⟩) n cap ∧ n ≤ cap ∧ cap ≤ 9223372036854775807 ∧ r < w.heap.size ∧
    (∀ j u, cs[j]? = some u → w.cell? ⟨r, j, none⟩ = some u) ∧ ∀ j, w.frozen? ⟨r, j, none⟩ = false := by
  have h0 := h
  obtain ⟨h1, h2 | ⟨g, cap, cur, rfl, hb, hh, hc, hm, hs, ht⟩⟩ := h
  · exact .inl h2
  · refine .inr ⟨g, cap, rfl, hc, by simpa [maxLen] using hm, lt_of_heap hh, fun j u hu => ?_, fun j => frozen_of_row w g j _ _ hh⟩
    rw [cell_of_row w g j _ _ _ hh]
    rw [← ht, List.getElem?_take] at hu
    split at hu
    · simpa using hu
    · cases hu
end

section
variable {w w' : World} {g : Nat} {S T : Nat → Prop} {xs : Rows}
end

section
variable {w w' : World} {g : Nat} {S T : Nat → Prop} {xs : Rows}
end





theorem u32_info : (Tryd.prog.info? 65).map (fun i => (i.zero, i.size, i.bytes)) = some (some (.int .u32 0), 1, 4) := by kernel_rfl



theorem wpList_append_run {P : Program} (w : World) {ops : Array Oper} {rest : List Oper} {o : Oper} {a : Act} {Q : Exit → Act → World → Prop} (hgd : o.guard = none) (d s : Operand) (t t' : TypeId)
    (ho : o.op = .call { callee := .builtin .append, args := #[d, s], argTypes := #[t, t'] }) (v u : Value) (hd : a.eval d = v) (hs : a.eval s = u) {v' : Value} {w' : World}
    (hr : (Builtin.append_ #[t, t'] o.type #[v, u]).run P w = .ok v' w') (h : wpList P ops Q rest (a.put o.dst v') w') : wpList P ops Q (o :: rest) a w :=
  wpList_plain hgd fun _ hK => by
    unfold Oper.wp execOp
    simp only [ho, resolve, invoke, builtin, Sem.run_bind, Sem.run_pure, Result.andThen_ok, List.map_toArray, List.map_cons, List.map_nil, hd, hs, hr]
    exact hK _ _ h





end Go.Proofs.YtdchaalmjhjejaaDoor.Tl
