/- Texts as lists of bytes, rows of texts, of operands and of instructions as they lie in the world; append of one element, of whatever kind. No program is walked here. -/
import Derived.Test.YtppkpfkoggnbmaaGreatDoorGMem
import Derived.WalkKit
import Derived.Laws.Strings2
import Derived.Laws.Concat
import Derived.Lib.Hide
namespace Go.Proofs.YtppkpfkoggnbmaaGreatDoor.Cs.Ia
open Go.RowKit

/-- A text of bytes. -/
abbrev sb (l : List UInt8) : ByteArray := ⟨l.toArray⟩
theorem sb_size (l : List UInt8) : (sb l).size = l.length := by simp [ByteArray.size]
theorem sb_get (l : List UInt8) (k : Nat) (h : k < (sb l).size) : (sb l)[k] = l.getD k 0 := by
  have h' : k < l.length := by rw [sb_size] at h; exact h
  rw [List.getD_eq_getElem?_getD, List.getElem?_eq_getElem h']
  rfl
theorem sb_inj {a b : List UInt8} (h : sb a = sb b) : a = b := by
  have := congrArg (fun s : ByteArray => s.data.toList) h
  simpa [sb] using this
theorem sb_extract (l : List UInt8) (a b : Nat) : (sb l).extract a b = sb ((l.drop a).take (b - a)) := ByteArray.extract_mk l a b
theorem sb_append (a b : List UInt8) : sb a ++ sb b = sb (a ++ b) := ByteArray.mk_append_mk a b
theorem sb_of (s : ByteArray) : s = sb s.data.toList := by cases s; rfl

/-- append of one element of k cells: it was laid in a block of its own just now. -/
theorem run_app {T e : TypeId} {i : TypeInfo} {z : Value} {k by_ : Nat} (hT : Tryz.prog.underlying T = some (.slice e)) (hi : Tryz.prog.info? e = some i) (hz : i.zero = some z) (hs : i.size = k) (hb : i.bytes = by_)
    (hzs : z.cells.size = k) (hk : 0 < k) (hby : by_ ≤ 1000) (w : World) (v : Value) (n : Nat) (cs new : List Value) (h : w.ownsRow 0 e k v n cs) (hn : n ≤ 1000000) (hnew : new.length = k) (hone : ∀ v ∈ new, v.oneCell' = true) :
    ∃ r' cap' w', (Builtin.append_ #[T, T] T #[v, .slice (some ⟨w.heap.size, 0, none⟩) 1 1]).run Tryz.prog (w.alloc (.cells new.toArray e)) = .ok (.slice (some ⟨r', 0, none⟩) (n + 1) cap') w' ∧
      Hid (w'.ownsRow 0 e k (.slice (some ⟨r', 0, none⟩) (n + 1) cap') (n + 1) (cs ++ new) ∧ Step (Bl v) (Bl (.slice (some ⟨r', 0, none⟩) (n + 1) cap')) w w') := by
  have hown : (w.alloc (.cells new.toArray e)).ownsRow 0 e k v n cs := h.alloc _
  obtain ⟨v', w', hrun, ho, hg, _, hat⟩ := run_append_own_at (P := Tryz.prog) _ 0 T T e i z k by_ hT hi hz hs hb hzs (by omega) v n cs hown ⟨w.heap.size, 0, none⟩ 1 1 new
    (by omega) (fun j u hj => by
      rw [Addr.add_lit, cell_of_row _ w.heap.size _ _ _ _ (heap_alloc_new w _)]
      simpa using hj) hone (by simp only [maxLen]; omega) (by have : by_ * n ≤ 1000 * n := Nat.mul_le_mul_right _ hby; have : n * by_ ≤ 1000 * n := by rw [Nat.mul_comm]; exact this
                                                              simp only [Nat.add_mul]; omega) (by simp)
  obtain ⟨r', cap', rfl⟩ : ∃ r' cap', v' = .slice (some ⟨r', 0, none⟩) (n + 1) cap' := by
    rcases ho.2 with ⟨_, h⟩ | ⟨g, cap, cur, rfl, _⟩
    · omega
    · exact ⟨g, cap, rfl⟩
  refine ⟨r', cap', w', hrun, ho, ?_, ?_⟩
  · exact (Mods.refl (Bl v) w |>.alloc _).trans (Mods.of_grown hg (fun k e => e)) (fun _ _ h => h)
  · intro k hk
    rcases hat with e | e
    · exact .inl (by rw [Bl, ← e]; exact hk)
    · right
      rw [Bl, e] at hk
      injection hk with hk
      simp at hk
      omega

/-- Texts. -/
def cst (xs : List (List UInt8)) : List Value := xs.map fun l => .string (sb l)
theorem cst_one (xs : List (List UInt8)) : ∀ v ∈ cst xs, v.oneCell' = true := by
  intro v hv
  simp only [cst, List.mem_map] at hv
  obtain ⟨x, _, rfl⟩ := hv
  rfl
theorem cst_get (xs : List (List UInt8)) (i : Nat) (h : i < xs.length) : (cst xs)[i]? = some (.string (sb (xs.getD i []))) := by simp [cst, List.getD, h]
def Rs (w : World) (v : Value) (xs : List (List UInt8)) : Prop := w.ownsRow 0 9 1 v xs.length (cst xs)
theorem under_strs : Tryz.prog.underlying 56 = some (.slice 9) := by kernel_rfl
theorem str_info : (Tryz.prog.info? 9).map (fun i => (i.zero, i.size, i.bytes)) = some (some (.string ⟨#[]⟩), 1, 16) := by kernel_rfl
theorem run_apps (w : World) (v : Value) (xs : List (List UInt8)) (x : List UInt8) (h : Rs w v xs) (hl : xs.length ≤ 1000000) :
    ∃ r' cap' w', (Builtin.append_ #[56, 56] 56 #[v, .slice (some ⟨w.heap.size, 0, none⟩) 1 1]).run Tryz.prog (w.alloc (.cells #[.string (sb x)] 9)) = .ok (.slice (some ⟨r', 0, none⟩) (xs.length + 1) cap') w' ∧
      Hid (Rs w' (.slice (some ⟨r', 0, none⟩) (xs.length + 1) cap') (xs ++ [x]) ∧ Step (Bl v) (Bl (.slice (some ⟨r', 0, none⟩) (xs.length + 1) cap')) w w') := by
  obtain ⟨i, hi, hz, hsz, hb⟩ := info_parts str_info
  obtain ⟨r', cap', w', hrun, ho, hst⟩ := run_app under_strs hi hz hsz hb rfl (by omega) (by omega) w v xs.length (cst xs) (cst [x]) h hl rfl (cst_one _)
  refine ⟨r', cap', w', hrun, ?_, hst⟩
  show w'.ownsRow _ _ _ _ _ _
  rw [List.length_append, show cst (xs ++ [x]) = cst xs ++ cst [x] by simp [cst]]
  exact ho

/-- Operands: the access's letter, the size. -/
def cop : List (Int × Int) → List Value
  | [] => []
  | o :: xs => .int .u8 o.1 :: .int .i64 o.2 :: cop xs
theorem cop_app (xs ys : List (Int × Int)) : cop (xs ++ ys) = cop xs ++ cop ys := by
  induction xs with
  | nil => rfl
  | cons r xs ih => simp [cop, ih]
theorem cop_length (xs : List (Int × Int)) : (cop xs).length = xs.length * 2 := by
  induction xs with
  | nil => rfl
  | cons r xs ih => simp only [cop, List.length_cons, ih]; omega
theorem cop_one (xs : List (Int × Int)) : ∀ v ∈ cop xs, v.oneCell' = true := by
  induction xs with
  | nil => simp [cop]
  | cons r xs ih =>
    intro v hv
    simp only [cop, List.mem_cons] at hv
    rcases hv with rfl | rfl | hv
    · rfl
    · rfl
    · exact ih v hv
abbrev opn (xs : List (Int × Int)) (i : Nat) : Int × Int := xs.getD i (0, 0)
theorem cop_get0 (xs : List (Int × Int)) (i : Nat) (h : i < xs.length) : (cop xs)[i * 2]? = some (.int .u8 (opn xs i).1) := by
  induction xs generalizing i with
  | nil => simp at h
  | cons r xs ih =>
    cases i with
    | zero => simp [cop, opn]
    | succ i =>
      rw [show (i + 1) * 2 = i * 2 + 1 + 1 by omega]
      simpa [cop, opn] using ih i (by simpa using h)
theorem cop_get1 (xs : List (Int × Int)) (i : Nat) (h : i < xs.length) : (cop xs)[i * 2 + 1]? = some (.int .i64 (opn xs i).2) := by
  induction xs generalizing i with
  | nil => simp at h
  | cons r xs ih =>
    cases i with
    | zero => simp [cop, opn]
    | succ i =>
      rw [show (i + 1) * 2 + 1 = i * 2 + 1 + 1 + 1 by omega]
      simpa [cop, opn] using ih i (by simpa using h)
def Ro (w : World) (v : Value) (xs : List (Int × Int)) : Prop := w.ownsRow 0 45 2 v xs.length (cop xs)
theorem under_ops : Tryz.prog.underlying 39 = some (.slice 45) := by kernel_rfl
theorem opr_info : (Tryz.prog.info? 45).map (fun i => (i.zero, i.size, i.bytes)) = some (some (.agg #[.int .u8 0, .int .i64 0]), 2, 16) := by kernel_rfl
theorem run_appo (w : World) (v : Value) (xs : List (Int × Int)) (a s : Int) (h : Ro w v xs) (hl : xs.length ≤ 1000000) :
    ∃ r' cap' w', (Builtin.append_ #[39, 39] 39 #[v, .slice (some ⟨w.heap.size, 0, none⟩) 1 1]).run Tryz.prog (w.alloc (.cells #[.int .u8 a, .int .i64 s] 45)) = .ok (.slice (some ⟨r', 0, none⟩) (xs.length + 1) cap') w' ∧
      Hid (Ro w' (.slice (some ⟨r', 0, none⟩) (xs.length + 1) cap') (xs ++ [(a, s)]) ∧ Step (Bl v) (Bl (.slice (some ⟨r', 0, none⟩) (xs.length + 1) cap')) w w') := by
  obtain ⟨i, hi, hz, hsz, hb⟩ := info_parts opr_info
  obtain ⟨r', cap', w', hrun, ho, hst⟩ := run_app under_ops hi hz hsz hb rfl (by omega) (by omega) w v xs.length (cop xs) (cop [(a, s)]) h hl rfl (cop_one _)
  refine ⟨r', cap', w', hrun, ?_, hst⟩
  show w'.ownsRow _ _ _ _ _ _
  rw [List.length_append, cop_app]
  exact ho

/-- An instruction; as cells, its operands' slice u. -/
structure Oq where
  code : Int
  name : List UInt8
  cls : Int
  alu : Int
  ops : List (Int × Int)
abbrev Oq.cells (x : Oq) (u : Value) : List Value := [.int .i64 x.code, .string (sb x.name), .int .i64 x.cls, .int .i64 x.alu, u]
abbrev Oq.val (x : Oq) (u : Value) : Value := .agg #[.int .i64 x.code, .string (sb x.name), .int .i64 x.cls, .int .i64 x.alu, u]
def cqs : List (Oq × Value) → List Value
  | [] => []
  | y :: ys => y.1.cells y.2 ++ cqs ys
theorem cqs_app (xs ys : List (Oq × Value)) : cqs (xs ++ ys) = cqs xs ++ cqs ys := by
  induction xs with
  | nil => rfl
  | cons r xs ih => simp [cqs, ih]
theorem cqs_get (xs : List (Oq × Value)) (i j : Nat) (h : i < xs.length) (hj : j < 5) : (cqs xs)[i * 5 + j]? = (xs[i].1.cells xs[i].2)[j]? := by
  induction xs generalizing i with
  | nil => simp at h
  | cons r xs ih =>
    cases i with
    | zero =>
      simp only [cqs, Nat.zero_mul, Nat.zero_add, List.getElem_cons_zero]
      rw [List.getElem?_append_left (by simpa using hj)]
    | succ i =>
      simp only [cqs, List.getElem_cons_succ]
      rw [List.getElem?_append_right (by simp; omega), ← ih i (by simpa using h)]
      congr 1
      simp
      omega
theorem cqs_one (xs : List (Oq × Value)) (h : ∀ y ∈ xs, y.2.oneCell' = true) : ∀ v ∈ cqs xs, v.oneCell' = true := by
  induction xs with
  | nil => simp [cqs]
  | cons r xs ih =>
    intro v hv
    simp only [cqs, List.mem_append, Oq.cells, List.mem_cons, List.mem_nil_iff, or_false] at hv
    rcases hv with (rfl | rfl | rfl | rfl | rfl) | hv
    · rfl
    · rfl
    · rfl
    · rfl
    · exact h r (List.mem_cons_self ..)
    · exact ih (fun y hy => h y (List.mem_cons_of_mem _ hy)) v hv
/-- An instruction's operands lie at u, from block B on. -/
def Op1 (B : Nat) (w : World) (x : Oq) (u : Value) : Prop := Ro w u x.ops ∧ ∀ k, Bl u k → B ≤ k
/-- A row of instructions, each with its operands, apart from the row. -/
def Rq (B : Nat) (w : World) (v : Value) (xs : List Oq) : Prop :=
  ∃ ys : List (Oq × Value), ys.map Prod.fst = xs ∧ w.ownsRow 0 41 5 v xs.length (cqs ys) ∧ (∀ k, Bl v k → B ≤ k) ∧ ∀ y ∈ ys, Op1 B w y.1 y.2 ∧ Apart (Bl v) (Bl y.2)
theorem under_qs : Tryz.prog.underlying 76 = some (.slice 41) := by kernel_rfl
theorem opq_info : (Tryz.prog.info? 41).map (fun i => (i.zero, i.size, i.bytes)) = some (some (.agg #[.int .i64 0, .string ⟨#[]⟩, .int .i64 0, .int .i64 0, .slice none 0 0]), 5, 64) := by kernel_rfl
theorem ro_slice {w : World} {u : Value} {xs : List (Int × Int)} (h : Ro w u xs) : ∃ A c, u = .slice A xs.length c := by
  rcases own_shape h with ⟨rfl, h0⟩ | ⟨r, cap, rfl, _⟩
  · exact ⟨none, 0, by rw [h0]⟩
  · exact ⟨_, _, rfl⟩
theorem Op1.below {B : Nat} {w w' : World} {x : Oq} {u : Value} (h : Op1 B w x u) (b : Below w.heap.size w w') : Op1 B w' x u := ⟨own_below h.1 b, h.2⟩
theorem Rq.below {B : Nat} {w w' : World} {v : Value} {xs : List Oq} (h : Rq B w v xs) (b : Below w.heap.size w w') : Rq B w' v xs := by
  obtain ⟨ys, h1, h2, h3, h4⟩ := h
  exact ⟨ys, h1, own_below h2 b, h3, fun y hy => ⟨(h4 y hy).1.below b, (h4 y hy).2⟩⟩
theorem run_appq (B : Nat) (w : World) (v : Value) (xs : List Oq) (x : Oq) (u : Value) (h : Rq B w v xs) (hu : Op1 B w x u) (ha : Apart (Bl v) (Bl u)) (hB : B ≤ w.heap.size) (hl : xs.length ≤ 1000000) :
    ∃ r' cap' w', (Builtin.append_ #[76, 76] 76 #[v, .slice (some ⟨w.heap.size, 0, none⟩) 1 1]).run Tryz.prog (w.alloc (.cells (x.cells u).toArray 41)) = .ok (.slice (some ⟨r', 0, none⟩) (xs.length + 1) cap') w' ∧
      Hid (Rq B w' (.slice (some ⟨r', 0, none⟩) (xs.length + 1) cap') (xs ++ [x]) ∧ Step (Bl v) (Bl (.slice (some ⟨r', 0, none⟩) (xs.length + 1) cap')) w w') := by
  obtain ⟨i, hi, hz, hsz, hb⟩ := info_parts opq_info
  obtain ⟨ys, h1, h2, h3, h4⟩ := h
  have hone : ∀ v ∈ x.cells u, v.oneCell' = true := by
    intro v hv
    obtain ⟨A, c, rfl⟩ := ro_slice hu.1
    simp only [Oq.cells, List.mem_cons, List.mem_nil_iff, or_false] at hv
    rcases hv with rfl | rfl | rfl | rfl | rfl <;> rfl
  obtain ⟨r', cap', w', hrun, ho, hst⟩ := run_app under_qs hi hz hsz hb rfl (by omega) (by omega) w v xs.length (cqs ys) (x.cells u) h2 hl rfl hone
  refine ⟨r', cap', w', hrun, ⟨ys ++ [(x, u)], by simp [h1], ?_, hst.ab h3 hB, ?_⟩, hst⟩
  · rw [List.length_append, cqs_app, show cqs [(x, u)] = x.cells u by simp [cqs]]
    exact ho
  · intro y hy
    rcases List.mem_append.1 hy with hy | hy
    · exact ⟨⟨own_mods (h4 y hy).1.1 hst.mods (h4 y hy).2, (h4 y hy).1.2⟩, hst.apart (h4 y hy).2 (own_lo (h4 y hy).1.1)⟩
    · obtain rfl : y = (x, u) := by simpa using hy
      exact ⟨⟨own_mods hu.1 hst.mods ha, hu.2⟩, hst.apart ha (own_lo hu.1)⟩

end Go.Proofs.YtppkpfkoggnbmaaGreatDoor.Cs.Ia
