import Derived.WalkKit
import Derived.Deep.QuietTactic
import Derived.BigQuiet
import Derived.Test.YtdchaalmjhjejaaDoorGTlb
import Derived.Laws.Strings2
import Derived.Laws.Concat
import Derived.Lib.Hide

/- Regions whose order is left open, and whose operations read, call, and lay blocks of their own, walked once: the class of worlds 'nothing that was there has turned'. -/
namespace Go.Proofs.YtdchaalmjhjejaaDoor.Tl.Ia
open Go.RowKit

/-- a world in which all of w is as it was -/
structure Later (w : World) where
  v : World
  h : Below w.heap.size w v

instance (w : World) : Inhabited (Later w) := ⟨⟨w, Below.refl _ _⟩⟩

theorem wp_region_later {P : Program} {id : Nat} {Q : Exit → Act → World → Prop} {a : Act} {w : World} {l : List Oper} (hm : P.follows .mixedOrders = true) (hB : Region.lexB .any l.toArray = true)
    (h : wpQuiet P l.toArray (fun w' => ∃ p : Later w, w' = p.v) (fun a' => ∀ w', (∃ p : Later w, w' = p.v) → Q .normal a' w') l a) : (Code.region id l.toArray true).wp P Q a w :=
  wp_region_quiet (C := fun w' => ∃ p : Later w, w' = p.v) hm hB ⟨⟨w.drew, (Below.refl _ _).drew⟩, rfl⟩ (by simpa using h)

/-- a callee that lays blocks of its own -/
theorem later_of {P : Program} {f : FuncId} {args : Array Value} {w : World} {p : Later w} {v : Value}
    (h : Calls P f args p.v fun e w' => e = .returned v ∧ Below p.v.heap.size p.v w') : Calls P f args p.v fun e w'' => e = .returned v ∧ ∃ q : Later w, w'' = q.v :=
  h.mono fun _ w' ⟨he, hb⟩ => ⟨he, ⟨w', p.h.trans (hb.mono p.h.size)⟩, rfl⟩

/-- a callee that lays none -/
theorem later_same {P : Program} {f : FuncId} {args : Array Value} {w : World} {p : Later w} {v : Value}
    (h : Calls P f args p.v fun e w' => e = .returned v ∧ p.v = w') : Calls P f args p.v fun e w'' => e = .returned v ∧ ∃ q : Later w, w'' = q.v :=
  h.mono fun _ _ ⟨he, hw⟩ => ⟨he, p, hw.symm⟩

/-- a cell that is there is there later -/
theorem later_cell {w : World} {b o : Nat} {v : Value} (e : w.cell? ⟨b, o, none⟩ = some v) (p : Later w) : p.v.cell? ⟨b, o, none⟩ = some v := by
  have hlt : b < w.heap.size := by
    by_cases hb : b < w.heap.size
    · exact hb
    · exfalso; simp [World.cell?, Array.getElem?_eq_none (Nat.le_of_not_lt hb)] at e
  rw [p.h.cell (p := ⟨b, o, none⟩) hlt]; exact e

end Go.Proofs.YtdchaalmjhjejaaDoor.Tl.Ia

/- Texts as lists of bytes, rows of texts, of operands and of instructions as they lie in the world; append of one element, of whatever kind. No program is walked here. -/
namespace Go.Proofs.YtdchaalmjhjejaaDoor.Tl.Ia
open Go.RowKit

/-- A text of bytes. -/
abbrev sb (l : List UInt8) : ByteArray := ⟨l.toArray⟩
theorem sb_size (l : List UInt8) : (sb l).size = l.length := by simp [ByteArray.size]
theorem sb_get (l : List UInt8) (k : Nat) (h : k < (sb l).size) : (sb l)[k] = l.getD k 0 := by
  have h' : k < l.length := by rw [sb_size] at h; exact h
  rw [List.getD_eq_getElem?_getD, List.getElem?_eq_getElem h']
  rfl
theorem sb_inj {a b : List UInt8} (h : sb a = sb b) : a = b := by
  have := congrArg (fun s : ByteArray => s.data.toList) h
  simpa [sb] using this
theorem sb_extract (l : List UInt8) (a b : Nat) : (sb l).extract a b = sb ((l.drop a).take (b - a)) := ByteArray.extract_mk l a b
theorem sb_append (a b : List UInt8) : sb a ++ sb b = sb (a ++ b) := ByteArray.mk_append_mk a b
theorem sb_of (s : ByteArray) : s = sb s.data.toList := by cases s; rfl

/-- append of one element of k cells: it was laid in a block of its own just now. -/
theorem run_app {T e : TypeId} {i : TypeInfo} {z : Value} {k by_ : Nat} (hT : Tryd.prog.underlying T = some (.slice e)) (hi : Tryd.prog.info? e = some i) (hz : i.zero = some z) (hs : i.size = k) (hb : i.bytes = by_)
    (hzs : z.cells.size = k) (hk : 0 < k) (hby : by_ ≤ 1000) (w : World) (v : Value) (n : Nat) (cs new : List Value) (h : w.ownsRow 0 e k v n cs) (hn : n ≤ 1000000) (hnew : new.length = k) (hone : ∀ v ∈ new, v.oneCell' = true) :
    ∃ r' cap' w', (Builtin.append_ #[T, T] T #[v, .slice (some ⟨w.heap.size, 0, none⟩) 1 1]).run Tryd.prog (w.alloc (.cells new.toArray e)) = .ok (.slice (some ⟨r', 0, none⟩) (n + 1) cap') w' ∧
      Hid (w'.ownsRow 0 e k (.slice (some ⟨r', 0, none⟩) (n + 1) cap') (n + 1) (cs ++ new) ∧ Step (Bl v) (Bl (.slice (some ⟨r', 0, none⟩) (n + 1) cap')) w w') := by
  have hown : (w.alloc (.cells new.toArray e)).ownsRow 0 e k v n cs := h.alloc _
  obtain ⟨v', w', hrun, ho, hg, _, hat⟩ := run_append_own_at (P := Tryd.prog) _ 0 T T e i z k by_ hT hi hz hs hb hzs (by omega) v n cs hown ⟨w.heap.size, 0, none⟩ 1 1 new
    (by omega) (fun j u hj => by
      rw [Addr.add_lit, cell_of_row _ w.heap.size _ _ _ _ (heap_alloc_new w _)]
      simpa using hj) hone (by simp only [maxLen]; omega) (by have : by_ * n ≤ 1000 * n := Nat.mul_le_mul_right _ hby; have : n * by_ ≤ 1000 * n := by rw [Nat.mul_comm]; exact this
                                                              simp only [Nat.add_mul]; omega) (by simp)
  obtain ⟨r', cap', rfl⟩ : ∃ r' cap', v' = .slice (some ⟨r', 0, none⟩) (n + 1) cap' := by
    rcases ho.2 with ⟨_, h⟩ | ⟨g, cap, cur, rfl, _⟩
    · omega
    · exact ⟨g, cap, rfl⟩
  refine ⟨r', cap', w', hrun, ho, ?_, ?_⟩
  · exact (Mods.refl (Bl v) w |>.alloc _).trans (Mods.of_grown hg (fun k e => e)) (fun _ _ h => h)
  · intro k hk
    rcases hat with e | e
    · exact .inl (by rw [Bl, ← e]; exact hk)
    · right
      rw [Bl, e] at hk
      injection hk with hk
      simp at hk
      omega

/-- Texts. -/
def cst (xs : List (List UInt8)) : List Value := xs.map fun l => .string (sb l)
theorem cst_one (xs : List (List UInt8)) : ∀ v ∈ cst xs, v.oneCell' = true := by
  intro v hv
  simp only [cst, List.mem_map] at hv
  obtain ⟨x, _, rfl⟩ := hv
  rfl
theorem cst_get (xs : List (List UInt8)) (i : Nat) (h : i < xs.length) : (cst xs)[i]? = some (.string (sb (xs.getD i []))) := by simp [cst, List.getD, h]
def Rs (w : World) (v : Value) (xs : List (List UInt8)) : Prop := w.ownsRow 0 9 1 v xs.length (cst xs)
theorem under_strs : Tryd.prog.underlying 29 = some (.slice 9) := by kernel_rfl
theorem str_info : (Tryd.prog.info? 9).map (fun i => (i.zero, i.size, i.bytes)) = some (some (.string ⟨#[]⟩), 1, 16) := by kernel_rfl
theorem run_apps (w : World) (v : Value) (xs : List (List UInt8)) (x : List UInt8) (h : Rs w v xs) (hl : xs.length ≤ 1000000) :
    ∃ r' cap' w', (Builtin.append_ #[29, 29] 29 #[v, .slice (some ⟨w.heap.size, 0, none⟩) 1 1]).run Tryd.prog (w.alloc (.cells #[.string (sb x)] 9)) = .ok (.slice (some ⟨r', 0, none⟩) (xs.length + 1) cap') w' ∧
      Hid (Rs w' (.slice (some ⟨r', 0, none⟩) (xs.length + 1) cap') (xs ++ [x]) ∧ Step (Bl v) (Bl (.slice (some ⟨r', 0, none⟩) (xs.length + 1) cap')) w w') := by
  obtain ⟨i, hi, hz, hsz, hb⟩ := info_parts str_info
  obtain ⟨r', cap', w', hrun, ho, hst⟩ := run_app under_strs hi hz hsz hb rfl (by omega) (by omega) w v xs.length (cst xs) (cst [x]) h hl rfl (cst_one _)
  refine ⟨r', cap', w', hrun, ?_, hst⟩
  show w'.ownsRow _ _ _ _ _ _
  rw [List.length_append, show cst (xs ++ [x]) = cst xs ++ cst [x] by simp [cst]]
  exact ho

/-- Operands: the access's letter, the size. -/
def cop : List (Int × Int) → List Value
  | [] => []
  | o :: xs => .int .u8 o.1 :: .int .i64 o.2 :: cop xs
theorem cop_app (xs ys : List (Int × Int)) : cop (xs ++ ys) = cop xs ++ cop ys := by
  induction xs with
  | nil => rfl
  | cons r xs ih => simp [cop, ih]
theorem cop_length (xs : List (Int × Int)) : (cop xs).length = xs.length * 2 := by
  induction xs with
  | nil => rfl
  | cons r xs ih => simp only [cop, List.length_cons, ih]; omega
theorem cop_one (xs : List (Int × Int)) : ∀ v ∈ cop xs, v.oneCell' = true := by
  induction xs with
  | nil => simp [cop]
  | cons r xs ih =>
    intro v hv
    simp only [cop, List.mem_cons] at hv
    rcases hv with rfl | rfl | hv
    · rfl
    · rfl
    · exact ih v hv
abbrev opn (xs : List (Int × Int)) (i : Nat) : Int × Int := xs.getD i (0, 0)
theorem cop_get0 (xs : List (Int × Int)) (i : Nat) (h : i < xs.length) : (cop xs)[i * 2]? = some (.int .u8 (opn xs i).1) := by
  induction xs generalizing i with
  | nil => simp at h
  | cons r xs ih =>
    cases i with
    | zero => simp [cop, opn]
    | succ i =>
      rw [show (i + 1) * 2 = i * 2 + 1 + 1 by omega]
      simpa [cop, opn] using ih i (by simpa using h)
theorem cop_get1 (xs : List (Int × Int)) (i : Nat) (h : i < xs.length) : (cop xs)[i * 2 + 1]? = some (.int .i64 (opn xs i).2) := by
  induction xs generalizing i with
  | nil => simp at h
  | cons r xs ih =>
    cases i with
    | zero => simp [cop, opn]
    | succ i =>
      rw [show (i + 1) * 2 + 1 = i * 2 + 1 + 1 + 1 by omega]
      simpa [cop, opn] using ih i (by simpa using h)


/-- An instruction; as cells, its operands' slice u. -/
structure Oq where
  code : Int
  name : List UInt8
  cls : Int
  alu : Int
  ops : List (Int × Int)
abbrev Oq.cells (x : Oq) (u : Value) : List Value := [.int .i64 x.code, .string (sb x.name), .int .i64 x.cls, .int .i64 x.alu, u]
abbrev Oq.val (x : Oq) (u : Value) : Value := .agg #[.int .i64 x.code, .string (sb x.name), .int .i64 x.cls, .int .i64 x.alu, u]
def cqs : List (Oq × Value) → List Value
  | [] => []
  | y :: ys => y.1.cells y.2 ++ cqs ys
theorem cqs_app (xs ys : List (Oq × Value)) : cqs (xs ++ ys) = cqs xs ++ cqs ys := by
  induction xs with
  | nil => rfl
  | cons r xs ih => simp [cqs, ih]
theorem cqs_get (xs : List (Oq × Value)) (i j : Nat) (h : i < xs.length) (hj : j < 5) : (cqs xs)[i * 5 + j]? = (xs[i].1.cells xs[i].2)[j]? := by
  induction xs generalizing i with
  | nil => simp at h
  | cons r xs ih =>
    cases i with
    | zero =>
      simp only [cqs, Nat.zero_mul, Nat.zero_add, List.getElem_cons_zero]
      rw [List.getElem?_append_left (by simpa using hj)]
    | succ i =>
      simp only [cqs, List.getElem_cons_succ]
      rw [List.getElem?_append_right (by simp; omega), ← ih i (by simpa using h)]
      congr 1
      simp
      omega
theorem cqs_one (xs : List (Oq × Value)) (h : ∀ y ∈ xs, y.2.oneCell' = true) : ∀ v ∈ cqs xs, v.oneCell' = true := by
  induction xs with
  | nil => simp [cqs]
  | cons r xs ih =>
    intro v hv
    simp only [cqs, List.mem_append, Oq.cells, List.mem_cons, List.mem_nil_iff, or_false] at hv
    rcases hv with (rfl | rfl | rfl | rfl | rfl) | hv
    · rfl
    · rfl
    · rfl
    · rfl
    · exact h r (List.mem_cons_self ..)
    · exact ih (fun y hy => h y (List.mem_cons_of_mem _ hy)) v hv


end Go.Proofs.YtdchaalmjhjejaaDoor.Tl.Ia
