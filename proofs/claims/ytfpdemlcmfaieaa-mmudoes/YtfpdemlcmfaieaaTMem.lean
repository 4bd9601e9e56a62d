/- Buffers as they lie in the model's world: what blocks they are made of, what turns when one of them turns. No program is walked here. -/
import Derived.Test.YtfpdemlcmfaieaaTnum
import Derived.Laws.Rows
import Derived.Laws.OwnMore
import Derived.Maps.AppendAt
import Derived.OwnWalk
import Derived.Deep.Draws
import Derived.Test.YtfpdemlcmfaieaaChecked
import Derived.KernelRfl
namespace Go.Proofs.Ytfpdemlcmfaieaa.Tl
open Go.RowKit

theorem lt_of_heap {w : World} {k : Nat} {o : Obj} (h : w.heap[k]? = some o) : k < w.heap.size := by
  rcases Nat.lt_or_ge k w.heap.size with hlt | hge
  · exact hlt
  · rw [Array.getElem?_eq_none hge] at h; cases h

/-- Only blocks of S have turned; new ones may have come. -/
structure Mods (S : Nat → Prop) (w w' : World) : Prop where
  os : w'.os = w.os
  tape : w'.tape = w.tape
  output : w'.output = w.output
  size : w.heap.size ≤ w'.heap.size
  block : ∀ k, k < w.heap.size → ¬ S k → w'.heap[k]? = w.heap[k]?
section
variable {S T : Nat → Prop} {a b c w w' : World}
theorem Mods.refl (S : Nat → Prop) (w : World) : Mods S w w := ⟨rfl, rfl, rfl, Nat.le_refl _, fun _ _ _ => rfl⟩
theorem Mods.trans (h : Mods S a b) (k : Mods T b c) (hT : ∀ i, i < a.heap.size → T i → S i) : Mods S a c :=
  ⟨k.os.trans h.os, k.tape.trans h.tape, k.output.trans h.output, Nat.le_trans h.size k.size,
   fun i hi hne => (k.block i (Nat.lt_of_lt_of_le hi h.size) (fun ht => hne (hT i hi ht))).trans (h.block i hi hne)⟩
theorem Mods.mono (h : Mods S a b) (hT : ∀ i, i < a.heap.size → S i → T i) : Mods T a b :=
  ⟨h.os, h.tape, h.output, h.size, fun i hi hne => h.block i hi (fun hs => hne (hT i hi hs))⟩
theorem Mods.of_below (h : Below a.heap.size a b) : Mods S a b := ⟨h.os, h.tape, h.output, h.size, fun i hi _ => h.block i hi⟩
theorem Mods.of_grown {row : Option Nat} (h : a.grownBy b row) (hr : ∀ k, row = some k → S k) : Mods S a b :=
  ⟨h.os, h.tape, h.output, h.size, fun i hi hne => h.block i hi (fun e => hne (hr i e.symm))⟩
theorem Mods.below {B : Nat} (h : Below B w a) (m : Mods S a b) (hS : ∀ k, S k → B ≤ k) (hB : B ≤ a.heap.size) : Below B w b :=
  h.trans ⟨m.os, m.tape, m.output, m.size, fun k hk => m.block k (by omega) (fun hs => by have := hS k hs; omega)⟩
theorem Mods.set (h : Mods S a b) {p : Addr} (u : Value) (hp : S p.block ∨ a.heap.size ≤ p.block) : Mods S a (b.setCell p u) :=
  ⟨h.os, h.tape, h.output, by simpa [World.setCell] using h.size, fun k hk hne => by
    rw [Below.heap_setCell _ _ _ _ (by rcases hp with hp | hp; · rintro rfl; exact hne hp
                                       · omega)]
    exact h.block k hk hne⟩
theorem Mods.drew (h : Mods S a b) : Mods S a b.drew := ⟨h.os, h.tape, h.output, h.size, h.block⟩
theorem Mods.alloc (h : Mods S a b) (o : Obj) : Mods S a (b.alloc o) :=
  h.trans (T := S) (Mods.of_below ((Below.refl _ _).alloc (Nat.le_refl _) _)) (fun _ _ h => h)
end
theorem bel_trans {a b c : World} {B : Nat} (h : Below B a b) (k : Below b.heap.size b c) (hB : B ≤ b.heap.size) : Below B a c := h.trans (k.mono hB)
theorem bel2 {a b c : World} (h : Below a.heap.size a b) (k : Below b.heap.size b c) : Below a.heap.size a c := h.trans (k.mono h.size)

def Apart (S T : Nat → Prop) : Prop := ∀ k, S k → T k → False
theorem Apart.symm {S T : Nat → Prop} (h : Apart S T) : Apart T S := fun k a b => h k b a
/-- From block B on. -/
def Ab (B : Nat) (S : Nat → Prop) : Prop := ∀ k, S k → B ≤ k
/-- Up to block B. -/
def Lo (B : Nat) (S : Nat → Prop) : Prop := ∀ k, S k → k < B
theorem Apart.of {S T : Nat → Prop} {B : Nat} (h : Lo B S) (k : Ab B T) : Apart S T := fun i a b => by have := h i a; have := k i b; omega

/-- A call turned blocks of S alone; the thing's blocks are S' now. -/
structure Step (S S' : Nat → Prop) (w w' : World) : Prop where
  mods : Mods S w w'
  grow : ∀ k, S' k → S k ∨ w.heap.size ≤ k
section
variable {S S' S'' T : Nat → Prop} {w w' w'' : World} {B : Nat}
theorem Step.apart (h : Step S S' w w') (a : Apart S T) (l : Lo w.heap.size T) : Apart S' T := fun k x y => by
  rcases h.grow k x with hs | hs
  · exact a k hs y
  · have := l k y; omega
theorem Step.ab (h : Step S S' w w') (a : Ab B S) (hB : B ≤ w.heap.size) : Ab B S' := fun k x => by
  rcases h.grow k x with hs | hs
  · exact a k hs
  · omega
theorem Step.below {w0 : World} (h : Step S S' w w') (b : Below B w0 w) (a : Ab B S) (hB : B ≤ w.heap.size) : Below B w0 w' := h.mods.below b a hB
theorem Step.of_below (h : Below w.heap.size w w') : Step S S w w' := ⟨Mods.of_below h, fun _ h => .inl h⟩
theorem Step.trans (h : Step S S' w w') (k : Step S' S'' w' w'') : Step S S'' w w'' :=
  ⟨h.mods.trans k.mods (fun i hi hs => by rcases h.grow i hs with x | x; · exact x
                                          · omega),
   fun i hi => by
    rcases k.grow i hi with x | x
    · exact h.grow i x
    · exact .inr (Nat.le_trans h.mods.size x)⟩
end

/-- Cells of numbers, and of rows of two numbers. -/
def c1 (xs : List Int) : List Value := xs.map fun x => .int .u32 x
def c2 : Rows → List Value
  | [] => []
  | r :: xs => .int .u32 r.1 :: .int .u32 r.2 :: c2 xs
theorem c1_length (xs : List Int) : (c1 xs).length = xs.length := by simp [c1]
theorem c2_length (xs : Rows) : (c2 xs).length = xs.length * 2 := by
  induction xs with
  | nil => rfl
  | cons r xs ih => simp only [c2, List.length_cons, ih]; omega
theorem c1_one (xs : List Int) : ∀ v ∈ c1 xs, v.oneCell' = true := by
  intro v hv
  simp only [c1, List.mem_map] at hv
  obtain ⟨x, _, rfl⟩ := hv
  rfl
theorem c2_one (xs : Rows) : ∀ v ∈ c2 xs, v.oneCell' = true := by
  induction xs with
  | nil => simp [c2]
  | cons r xs ih =>
    intro v hv
    simp only [c2, List.mem_cons] at hv
    rcases hv with rfl | rfl | hv
    · rfl
    · rfl
    · exact ih v hv
theorem c1_get (xs : List Int) (i : Nat) (h : i < xs.length) : (c1 xs)[i]? = some (.int .u32 (xs.getD i 0)) := by simp [c1, List.getD, h]
theorem c2_get0 (xs : Rows) (i : Nat) (h : i < xs.length) : (c2 xs)[i * 2]? = some (.int .u32 (row xs i).1) := by
  induction xs generalizing i with
  | nil => simp at h
  | cons r xs ih =>
    cases i with
    | zero => simp [c2, row]
    | succ i =>
      rw [show (i + 1) * 2 = i * 2 + 1 + 1 by omega]
      simpa [c2, row] using ih i (by simpa using h)
theorem c2_get1 (xs : Rows) (i : Nat) (h : i < xs.length) : (c2 xs)[i * 2 + 1]? = some (.int .u32 (row xs i).2) := by
  induction xs generalizing i with
  | nil => simp at h
  | cons r xs ih =>
    cases i with
    | zero => simp [c2, row]
    | succ i =>
      rw [show (i + 1) * 2 + 1 = i * 2 + 1 + 1 + 1 by omega]
      simpa [c2, row] using ih i (by simpa using h)
theorem c2_app (xs ys : Rows) : c2 (xs ++ ys) = c2 xs ++ c2 ys := by
  induction xs with
  | nil => rfl
  | cons r xs ih => simp [c2, ih]
theorem c1_app (xs ys : List Int) : c1 (xs ++ ys) = c1 xs ++ c1 ys := by simp [c1]
theorem c2_drop (xs : Rows) (k : Nat) : c2 (xs.drop k) = (c2 xs).drop (k * 2) := by
  induction xs generalizing k with
  | nil => simp [c2]
  | cons r xs ih =>
    cases k with
    | zero => simp
    | succ k =>
      rw [show (k + 1) * 2 = k * 2 + 1 + 1 by omega]
      simp [c2, ih]
theorem c2_take (xs : Rows) (k : Nat) : c2 (xs.take k) = (c2 xs).take (k * 2) := by
  induction xs generalizing k with
  | nil => simp [c2]
  | cons r xs ih =>
    cases k with
    | zero => simp [c2]
    | succ k =>
      rw [show (k + 1) * 2 = k * 2 + 1 + 1 by omega]
      simp [c2, ih]
theorem c2_set1 (xs : Rows) (k : Nat) (y : Int × Int) (h : k < xs.length) (e : (row xs k).1 = y.1) : c2 (xs.set k y) = (c2 xs).set (k * 2 + 1) (.int .u32 y.2) := by
  induction xs generalizing k with
  | nil => simp at h
  | cons r xs ih =>
    cases k with
    | zero => simp only [row, List.getD_cons_zero] at e; simp [c2, e]
    | succ k =>
      rw [show (k + 1) * 2 + 1 = k * 2 + 1 + 1 + 1 by omega]
      simp [c2, ih k (by simpa using h) (by simpa [row] using e)]

/-- The blocks of a row. -/
def Bl (v : Value) : Nat → Prop := fun k => v.ownBlock = some k
/-- A row of numbers. -/
def R1 (w : World) (v : Value) (xs : List Int) : Prop := w.ownsRow 0 23 1 v xs.length (c1 xs)
def R2 (w : World) (v : Value) (xs : Rows) : Prop := w.ownsRow 0 113 2 v xs.length (c2 xs)
section
variable {w w' : World} {v : Value} {e k n : Nat} {cs : List Value} {T : Nat → Prop}
theorem own_keep (h : w.ownsRow 0 e k v n cs) (hk : ∀ i, v.ownBlock = some i → w'.heap[i]? = w.heap[i]?) : w'.ownsRow 0 e k v n cs := by
  obtain ⟨h1, h2 | ⟨g, cap, cur, rfl, hb, hh, hr⟩⟩ := h
  · exact ⟨h1, .inl h2⟩
  · exact ⟨h1, .inr ⟨g, cap, cur, rfl, hb, (hk g rfl).trans hh, hr⟩⟩
theorem own_lo (h : w.ownsRow 0 e k v n cs) : Lo w.heap.size (Bl v) := fun i hi => (h.lt i hi).2
theorem own_mods (h : w.ownsRow 0 e k v n cs) (m : Mods T w w') (a : Apart T (Bl v)) : w'.ownsRow 0 e k v n cs :=
  own_keep h fun i hi => m.block i (own_lo h i hi) (fun ht => a i ht hi)
theorem own_below (h : w.ownsRow 0 e k v n cs) (m : Below w.heap.size w w') : w'.ownsRow 0 e k v n cs :=
  own_keep h fun i hi => m.block i (own_lo h i hi)
/-- What a row of numbers is: nil, or a block. -/
theorem own_shape (h : w.ownsRow 0 e k v n cs) : (v = .slice none 0 0 ∧ n = 0) ∨ ∃ r cap, v = .slice (some ⟨r, 0, none⟩) n cap ∧ n ≤ cap ∧ cap ≤ 9223372036854775807 ∧ r < w.heap.size ∧
    (∀ j u, cs[j]? = some u → w.cell? ⟨r, j, none⟩ = some u) ∧ ∀ j, w.frozen? ⟨r, j, none⟩ = false := by
  have h0 := h
  obtain ⟨h1, h2 | ⟨g, cap, cur, rfl, hb, hh, hc, hm, hs, ht⟩⟩ := h
  · exact .inl h2
  · refine .inr ⟨g, cap, rfl, hc, by simpa [maxLen] using hm, lt_of_heap hh, fun j u hu => ?_, fun j => frozen_of_row w g j _ _ hh⟩
    rw [cell_of_row w g j _ _ _ hh]
    rw [← ht, List.getElem?_take] at hu
    split at hu
    · simpa using hu
    · cases hu
end

/-- Block g is a buffer with these rows; its blocks are S. -/
structure Tb (w : World) (g : Nat) (S : Nat → Prop) (xs : Rows) : Prop where
  ex : ∃ v, w.heap[g]? = some (.cells #[v] 105 (0, 0)) ∧ R2 w v xs ∧ ∀ k, S k ↔ (k = g ∨ Bl v k)
  fit : Fit xs
section
variable {w w' : World} {g : Nat} {S T : Nat → Prop} {xs : Rows}
theorem Tb.lo (h : Tb w g S xs) : Lo w.heap.size S := by
  obtain ⟨v, hb, hr, hS⟩ := h.ex
  intro k hk
  rcases (hS k).1 hk with rfl | hk
  · exact lt_of_heap hb
  · exact own_lo hr k hk
theorem Tb.in_ (h : Tb w g S xs) : S g := by obtain ⟨v, _, _, hS⟩ := h.ex; exact (hS g).2 (.inl rfl)
theorem Tb.keep (h : Tb w g S xs) (hk : ∀ k, S k → w'.heap[k]? = w.heap[k]?) : Tb w' g S xs := by
  obtain ⟨v, hb, hr, hS⟩ := h.ex
  exact ⟨⟨v, (hk g h.in_).trans hb, own_keep hr (fun i hi => hk i ((hS i).2 (.inr hi))), hS⟩, h.fit⟩
theorem Tb.mods (h : Tb w g S xs) (m : Mods T w w') (a : Apart T S) : Tb w' g S xs :=
  h.keep fun k hk => m.block k (h.lo k hk) (fun ht => a k ht hk)
theorem Tb.below (h : Tb w g S xs) (m : Below w.heap.size w w') : Tb w' g S xs := h.keep fun k hk => m.block k (h.lo k hk)
end

/-- Block g is the document's buffer; its blocks are S. -/
structure Rf (w : World) (g : Nat) (S : Nat → Prop) (xs : Rows) : Prop where
  ex : ∃ v u, w.heap[g]? = some (.cells #[v, u] 62 (0, 0)) ∧ R1 w v (pages xs) ∧ R1 w u (xs.map Prod.snd) ∧ Apart (Bl v) (Bl u) ∧ ∀ k, S k ↔ (k = g ∨ Bl v k ∨ Bl u k)
section
variable {w w' : World} {g : Nat} {S T : Nat → Prop} {xs : Rows}
theorem Rf.lo (h : Rf w g S xs) : Lo w.heap.size S := by
  obtain ⟨v, u, hb, hr, hr', _, hS⟩ := h.ex
  intro k hk
  rcases (hS k).1 hk with rfl | hk | hk
  · exact lt_of_heap hb
  · exact own_lo hr k hk
  · exact own_lo hr' k hk
theorem Rf.in_ (h : Rf w g S xs) : S g := by obtain ⟨v, u, _, _, _, _, hS⟩ := h.ex; exact (hS g).2 (.inl rfl)
theorem Rf.keep (h : Rf w g S xs) (hk : ∀ k, S k → w'.heap[k]? = w.heap[k]?) : Rf w' g S xs := by
  obtain ⟨v, u, hb, hr, hr', ha, hS⟩ := h.ex
  exact ⟨⟨v, u, (hk g h.in_).trans hb, own_keep hr (fun i hi => hk i ((hS i).2 (.inr (.inl hi)))), own_keep hr' (fun i hi => hk i ((hS i).2 (.inr (.inr hi)))), ha, hS⟩⟩
theorem Rf.mods (h : Rf w g S xs) (m : Mods T w w') (a : Apart T S) : Rf w' g S xs :=
  h.keep fun k hk => m.block k (h.lo k hk) (fun ht => a k ht hk)
theorem Rf.below (h : Rf w g S xs) (m : Below w.heap.size w w') : Rf w' g S xs := h.keep fun k hk => m.block k (h.lo k hk)
end

theorem under_u32s : Try.prog.underlying 58 = some (.slice 23) := by kernel_rfl
theorem under_rows : Try.prog.underlying 103 = some (.slice 113) := by kernel_rfl
theorem u32_info : (Try.prog.info? 23).map (fun i => (i.zero, i.size, i.bytes)) = some (some (.int .u32 0), 1, 4) := by kernel_rfl
theorem row_info : (Try.prog.info? 113).map (fun i => (i.zero, i.size, i.bytes)) = some (some (.agg #[.int .u32 0, .int .u32 0]), 2, 8) := by kernel_rfl

theorem wpList_append_run {P : Program} (w : World) {ops : Array Oper} {rest : List Oper} {o : Oper} {a : Act} {Q : Exit → Act → World → Prop} (hgd : o.guard = none) (d s : Operand) (t t' : TypeId)
    (ho : o.op = .call { callee := .builtin .append, args := #[d, s], argTypes := #[t, t'] }) (v u : Value) (hd : a.eval d = v) (hs : a.eval s = u) {v' : Value} {w' : World}
    (hr : (Builtin.append_ #[t, t'] o.type #[v, u]).run P w = .ok v' w') (h : wpList P ops Q rest (a.put o.dst v') w') : wpList P ops Q (o :: rest) a w :=
  wpList_plain hgd fun _ hK => by
    unfold Oper.wp execOp
    simp only [ho, resolve, invoke, builtin, Sem.run_bind, Sem.run_pure, Result.andThen_ok, List.map_toArray, List.map_cons, List.map_nil, hd, hs, hr]
    exact hK _ _ h

/-- append of one number: it was laid in a block of its own just now. -/
theorem run_app1 (w : World) (v : Value) (xs : List Int) (x : Int) (h : R1 w v xs) (hl : xs.length ≤ 1000000) :
    ∃ r' cap' w', (Builtin.append_ #[58, 58] 58 #[v, .slice (some ⟨w.heap.size, 0, none⟩) 1 1]).run Try.prog (w.alloc (.cells #[.int .u32 x] 23)) = .ok (.slice (some ⟨r', 0, none⟩) (xs.length + 1) cap') w' ∧
      Hid (R1 w' (.slice (some ⟨r', 0, none⟩) (xs.length + 1) cap') (xs ++ [x]) ∧ Step (Bl v) (Bl (.slice (some ⟨r', 0, none⟩) (xs.length + 1) cap')) w w') := by
  obtain ⟨i, hi, hz, hsz, hb⟩ := info_parts u32_info
  have hown : (w.alloc (.cells #[.int .u32 x] 23)).ownsRow 0 23 1 v xs.length (c1 xs) := h.alloc _
  obtain ⟨v', w', hrun, ho, hg, _, hat⟩ := run_append_own_at (P := Try.prog) _ 0 58 58 23 i (.int .u32 0) 1 4 under_u32s hi hz hsz hb rfl (by omega) v xs.length (c1 xs) hown ⟨w.heap.size, 0, none⟩ 1 1 (c1 [x])
    rfl (cell_one_new w _ _) (c1_one [x]) (by simp only [maxLen]; omega) (by omega) (by simp)
  obtain ⟨r', cap', rfl⟩ : ∃ r' cap', v' = .slice (some ⟨r', 0, none⟩) (xs.length + 1) cap' := by
    rcases ho.2 with ⟨_, h⟩ | ⟨g, cap, cur, rfl, _⟩
    · omega
    · exact ⟨g, cap, rfl⟩
  refine ⟨r', cap', w', hrun, ?_, ?_, ?_⟩
  · show w'.ownsRow _ _ _ _ _ _
    rw [List.length_append, c1_app]; exact ho
  · exact (Mods.refl (Bl v) w |>.alloc _).trans (Mods.of_grown hg (fun k e => e)) (fun _ _ h => h)
  · intro k hk
    rcases hat with e | e
    · exact .inl (by rw [Bl, ← e]; exact hk)
    · right
      rw [Bl, e] at hk
      injection hk with hk
      simp at hk
      omega

/-- append of one row. -/
theorem run_app2 (w : World) (v : Value) (xs : Rows) (p x : Int) (h : R2 w v xs) (hl : xs.length ≤ 8) :
    ∃ r' cap' w', (Builtin.append_ #[103, 103] 103 #[v, .slice (some ⟨w.heap.size, 0, none⟩) 1 1]).run Try.prog (w.alloc (.cells #[.int .u32 p, .int .u32 x] 113)) = .ok (.slice (some ⟨r', 0, none⟩) (xs.length + 1) cap') w' ∧
      Hid (R2 w' (.slice (some ⟨r', 0, none⟩) (xs.length + 1) cap') (xs ++ [(p, x)]) ∧ Step (Bl v) (Bl (.slice (some ⟨r', 0, none⟩) (xs.length + 1) cap')) w w') := by
  obtain ⟨i, hi, hz, hsz, hb⟩ := info_parts row_info
  have hown : (w.alloc (.cells #[.int .u32 p, .int .u32 x] 113)).ownsRow 0 113 2 v xs.length (c2 xs) := h.alloc _
  obtain ⟨v', w', hrun, ho, hg, _, hat⟩ := run_append_own_at (P := Try.prog) _ 0 103 103 113 i (.agg #[.int .u32 0, .int .u32 0]) 2 8 under_rows hi hz hsz hb rfl (by omega) v xs.length (c2 xs) hown ⟨w.heap.size, 0, none⟩ 1 1 (c2 [(p, x)])
    rfl (fun j u hj => by
      rw [Addr.add_lit, cell_of_row _ w.heap.size _ _ _ _ (heap_alloc_new w _)]
      simpa [c2] using hj) (c2_one _) (by simp only [maxLen]; omega) (by omega) (by simp)
  obtain ⟨r', cap', rfl⟩ : ∃ r' cap', v' = .slice (some ⟨r', 0, none⟩) (xs.length + 1) cap' := by
    rcases ho.2 with ⟨_, h⟩ | ⟨g, cap, cur, rfl, _⟩
    · omega
    · exact ⟨g, cap, rfl⟩
  refine ⟨r', cap', w', hrun, ?_, ?_, ?_⟩
  · show w'.ownsRow _ _ _ _ _ _
    rw [List.length_append, c2_app]; exact ho
  · exact (Mods.refl (Bl v) w |>.alloc _).trans (Mods.of_grown hg (fun k e => e)) (fun _ _ h => h)
  · intro k hk
    rcases hat with e | e
    · exact .inl (by rw [Bl, ← e]; exact hk)
    · right
      rw [Bl, e] at hk
      injection hk with hk
      simp at hk
      omega

end Go.Proofs.Ytfpdemlcmfaieaa.Tl
