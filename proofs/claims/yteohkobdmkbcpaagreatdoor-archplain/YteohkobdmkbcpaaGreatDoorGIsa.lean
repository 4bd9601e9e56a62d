import Derived.WalkKit
import Derived.Deep.QuietTactic
import Derived.BigQuiet
import Derived.Test.YteohkobdmkbcpaaGreatDoorGTlb
import Derived.Laws.Strings2
import Derived.Laws.Concat
import Derived.Lib.Hide
import Derived.WalkLawsBesides
import Derived.Laws.IdiomStrings
import Derived.Deep.RegionHeld3
import Derived.Outline
import Derived.Deep.RegionLaw
import Derived.Deep.RegionWith
import Derived.Lib.SlicesS

/- Regions whose order is left open, and whose operations read, call, and lay blocks of their own, walked once: the class of worlds 'nothing that was there has turned'. -/
namespace Go.Proofs.YteohkobdmkbcpaaGreatDoor.Tl.Ia
open Go.RowKit

/-- a world in which all of w is as it was -/
structure Later (w : World) where
  v : World
  h : Below w.heap.size w v

instance (w : World) : Inhabited (Later w) := ⟨⟨w, Below.refl _ _⟩⟩

theorem wp_region_later {P : Program} {id : Nat} {Q : Exit → Act → World → Prop} {a : Act} {w : World} {l : List Oper} (hm : P.follows .mixedOrders = true) (hB : Region.lexB .any l.toArray = true)
    (h : wpQuiet P l.toArray (fun w' => ∃ p : Later w, w' = p.v) (fun a' => ∀ w', (∃ p : Later w, w' = p.v) → Q .normal a' w') l a) : (Code.region id l.toArray true).wp P Q a w :=
  wp_region_quiet (C := fun w' => ∃ p : Later w, w' = p.v) hm hB ⟨⟨w.drew, (Below.refl _ _).drew⟩, rfl⟩ (by simpa using h)

/-- a callee that lays blocks of its own -/
theorem later_of {P : Program} {f : FuncId} {args : Array Value} {w : World} {p : Later w} {v : Value}
    (h : Calls P f args p.v fun e w' => e = .returned v ∧ Below p.v.heap.size p.v w') : Calls P f args p.v fun e w'' => e = .returned v ∧ ∃ q : Later w, w'' = q.v :=
  h.mono fun _ w' ⟨he, hb⟩ => ⟨he, ⟨w', p.h.trans (hb.mono p.h.size)⟩, rfl⟩

/-- a callee that lays none -/
theorem later_same {P : Program} {f : FuncId} {args : Array Value} {w : World} {p : Later w} {v : Value}
    (h : Calls P f args p.v fun e w' => e = .returned v ∧ p.v = w') : Calls P f args p.v fun e w'' => e = .returned v ∧ ∃ q : Later w, w'' = q.v :=
  h.mono fun _ _ ⟨he, hw⟩ => ⟨he, p, hw.symm⟩

/-- a cell that is there is there later -/
theorem later_cell {w : World} {b o : Nat} {v : Value} (e : w.cell? ⟨b, o, none⟩ = some v) (p : Later w) : p.v.cell? ⟨b, o, none⟩ = some v := by
  have hlt : b < w.heap.size := by
    by_cases hb : b < w.heap.size
    · exact hb
    · exfalso; simp [World.cell?, Array.getElem?_eq_none (Nat.le_of_not_lt hb)] at e
  rw [p.h.cell (p := ⟨b, o, none⟩) hlt]; exact e

end Go.Proofs.YteohkobdmkbcpaaGreatDoor.Tl.Ia

/- Texts as lists of bytes, rows of texts, of operands and of instructions as they lie in the world; append of one element, of whatever kind. No program is walked here. -/
namespace Go.Proofs.YteohkobdmkbcpaaGreatDoor.Tl.Ia
open Go.RowKit

/-- A text of bytes. -/
abbrev sb (l : List UInt8) : ByteArray := ⟨l.toArray⟩
theorem sb_size (l : List UInt8) : (sb l).size = l.length := by simp [ByteArray.size]
theorem sb_get (l : List UInt8) (k : Nat) (h : k < (sb l).size) : (sb l)[k] = l.getD k 0 := by
  have h' : k < l.length := by rw [sb_size] at h; exact h
  rw [List.getD_eq_getElem?_getD, List.getElem?_eq_getElem h']
  rfl
theorem sb_inj {a b : List UInt8} (h : sb a = sb b) : a = b := by
  have := congrArg (fun s : ByteArray => s.data.toList) h
  simpa [sb] using this
theorem sb_extract (l : List UInt8) (a b : Nat) : (sb l).extract a b = sb ((l.drop a).take (b - a)) := ByteArray.extract_mk l a b
theorem sb_append (a b : List UInt8) : sb a ++ sb b = sb (a ++ b) := ByteArray.mk_append_mk a b
theorem sb_of (s : ByteArray) : s = sb s.data.toList := by cases s; rfl

/-- append of one element of k cells: it was laid in a block of its own just now. -/
theorem run_app {T e : TypeId} {i : TypeInfo} {z : Value} {k by_ : Nat} (hT : Tryz.prog.underlying T = some (.slice e)) (hi : Tryz.prog.info? e = some i) (hz : i.zero = some z) (hs : i.size = k) (hb : i.bytes = by_)
    (hzs : z.cells.size = k) (hk : 0 < k) (hby : by_ ≤ 1000) (w : World) (v : Value) (n : Nat) (cs new : List Value) (h : w.ownsRow 0 e k v n cs) (hn : n ≤ 1000000) (hnew : new.length = k) (hone : ∀ v ∈ new, v.oneCell' = true) :
    ∃ r' cap' w', (Builtin.append_ #[T, T] T #[v, .slice (some ⟨w.heap.size, 0, none⟩) 1 1]).run Tryz.prog (w.alloc (.cells new.toArray e)) = .ok (.slice (some ⟨r', 0, none⟩) (n + 1) cap') w' ∧
      Hid (w'.ownsRow 0 e k (.slice (some ⟨r', 0, none⟩) (n + 1) cap') (n + 1) (cs ++ new) ∧ Step (Bl v) (Bl (.slice (some ⟨r', 0, none⟩) (n + 1) cap')) w w') := by
  have hown : (w.alloc (.cells new.toArray e)).ownsRow 0 e k v n cs := h.alloc _
  obtain ⟨v', w', hrun, ho, hg, _, hat⟩ := run_append_own_at (P := Tryz.prog) _ 0 T T e i z k by_ hT hi hz hs hb hzs (by omega) v n cs hown ⟨w.heap.size, 0, none⟩ 1 1 new
    (by omega) (fun j u hj => by
      rw [Addr.add_lit, cell_of_row _ w.heap.size _ _ _ _ (heap_alloc_new w _)]
      simpa using hj) hone (by simp only [maxLen]; omega) (by have : by_ * n ≤ 1000 * n := Nat.mul_le_mul_right _ hby; have : n * by_ ≤ 1000 * n := by rw [Nat.mul_comm]; exact this
                                                              simp only [Nat.add_mul]; omega) (by simp)
  obtain ⟨r', cap', rfl⟩ : ∃ r' cap', v' = .slice (some ⟨r', 0, none⟩) (n + 1) cap' := by
    rcases ho.2 with ⟨_, h⟩ | ⟨g, cap, cur, rfl, _⟩
    · omega
    · exact ⟨g, cap, rfl⟩
  refine ⟨r', cap', w', hrun, ho, ?_, ?_⟩
  · exact (Mods.refl (Bl v) w |>.alloc _).trans (Mods.of_grown hg (fun k e => e)) (fun _ _ h => h)
  · intro k hk
    rcases hat with e | e
    · exact .inl (by rw [Bl, ← e]; exact hk)
    · right
      rw [Bl, e] at hk
      injection hk with hk
      simp at hk
      omega

/-- Texts. -/
def cst (xs : List (List UInt8)) : List Value := xs.map fun l => .string (sb l)
theorem cst_one (xs : List (List UInt8)) : ∀ v ∈ cst xs, v.oneCell' = true := by
  intro v hv
  simp only [cst, List.mem_map] at hv
  obtain ⟨x, _, rfl⟩ := hv
  rfl
theorem cst_get (xs : List (List UInt8)) (i : Nat) (h : i < xs.length) : (cst xs)[i]? = some (.string (sb (xs.getD i []))) := by simp [cst, List.getD, h]
def Rs (w : World) (v : Value) (xs : List (List UInt8)) : Prop := w.ownsRow 0 9 1 v xs.length (cst xs)
theorem str_info : (Tryz.prog.info? 9).map (fun i => (i.zero, i.size, i.bytes)) = some (some (.string ⟨#[]⟩), 1, 16) := by kernel_rfl


/-- Operands: the access's letter, the size. -/
def cop : List (Int × Int) → List Value
  | [] => []
  | o :: xs => .int .u8 o.1 :: .int .i64 o.2 :: cop xs
theorem cop_app (xs ys : List (Int × Int)) : cop (xs ++ ys) = cop xs ++ cop ys := by
  induction xs with
  | nil => rfl
  | cons r xs ih => simp [cop, ih]
theorem cop_length (xs : List (Int × Int)) : (cop xs).length = xs.length * 2 := by
  induction xs with
  | nil => rfl
  | cons r xs ih => simp only [cop, List.length_cons, ih]; omega
theorem cop_one (xs : List (Int × Int)) : ∀ v ∈ cop xs, v.oneCell' = true := by
  induction xs with
  | nil => simp [cop]
  | cons r xs ih =>
    intro v hv
    simp only [cop, List.mem_cons] at hv
    rcases hv with rfl | rfl | hv
    · rfl
    · rfl
    · exact ih v hv
abbrev opn (xs : List (Int × Int)) (i : Nat) : Int × Int := xs.getD i (0, 0)
theorem cop_get0 (xs : List (Int × Int)) (i : Nat) (h : i < xs.length) : (cop xs)[i * 2]? = some (.int .u8 (opn xs i).1) := by
  induction xs generalizing i with
  | nil => simp at h
  | cons r xs ih =>
    cases i with
    | zero => simp [cop, opn]
    | succ i =>
      rw [show (i + 1) * 2 = i * 2 + 1 + 1 by omega]
      simpa [cop, opn] using ih i (by simpa using h)
theorem cop_get1 (xs : List (Int × Int)) (i : Nat) (h : i < xs.length) : (cop xs)[i * 2 + 1]? = some (.int .i64 (opn xs i).2) := by
  induction xs generalizing i with
  | nil => simp at h
  | cons r xs ih =>
    cases i with
    | zero => simp [cop, opn]
    | succ i =>
      rw [show (i + 1) * 2 + 1 = i * 2 + 1 + 1 + 1 by omega]
      simpa [cop, opn] using ih i (by simpa using h)
def Ro (w : World) (v : Value) (xs : List (Int × Int)) : Prop := w.ownsRow 0 120 2 v xs.length (cop xs)
theorem under_ops : Tryz.prog.underlying 107 = some (.slice 120) := by kernel_rfl
theorem opr_info : (Tryz.prog.info? 120).map (fun i => (i.zero, i.size, i.bytes)) = some (some (.agg #[.int .u8 0, .int .i64 0]), 2, 16) := by kernel_rfl
theorem run_appo (w : World) (v : Value) (xs : List (Int × Int)) (a s : Int) (h : Ro w v xs) (hl : xs.length ≤ 1000000) :
    ∃ r' cap' w', (Builtin.append_ #[107, 107] 107 #[v, .slice (some ⟨w.heap.size, 0, none⟩) 1 1]).run Tryz.prog (w.alloc (.cells #[.int .u8 a, .int .i64 s] 120)) = .ok (.slice (some ⟨r', 0, none⟩) (xs.length + 1) cap') w' ∧
      Hid (Ro w' (.slice (some ⟨r', 0, none⟩) (xs.length + 1) cap') (xs ++ [(a, s)]) ∧ Step (Bl v) (Bl (.slice (some ⟨r', 0, none⟩) (xs.length + 1) cap')) w w') := by
  obtain ⟨i, hi, hz, hsz, hb⟩ := info_parts opr_info
  obtain ⟨r', cap', w', hrun, ho, hst⟩ := run_app under_ops hi hz hsz hb rfl (by omega) (by omega) w v xs.length (cop xs) (cop [(a, s)]) h hl rfl (cop_one _)
  refine ⟨r', cap', w', hrun, ?_, hst⟩
  show w'.ownsRow _ _ _ _ _ _
  rw [List.length_append, cop_app]
  exact ho

/-- An instruction; as cells, its operands' slice u. -/
structure Oq where
  code : Int
  name : List UInt8
  cls : Int
  alu : Int
  ops : List (Int × Int)
abbrev Oq.cells (x : Oq) (u : Value) : List Value := [.int .i64 x.code, .string (sb x.name), .int .i64 x.cls, .int .i64 x.alu, u]
abbrev Oq.val (x : Oq) (u : Value) : Value := .agg #[.int .i64 x.code, .string (sb x.name), .int .i64 x.cls, .int .i64 x.alu, u]
def cqs : List (Oq × Value) → List Value
  | [] => []
  | y :: ys => y.1.cells y.2 ++ cqs ys
theorem cqs_app (xs ys : List (Oq × Value)) : cqs (xs ++ ys) = cqs xs ++ cqs ys := by
  induction xs with
  | nil => rfl
  | cons r xs ih => simp [cqs, ih]
theorem cqs_get (xs : List (Oq × Value)) (i j : Nat) (h : i < xs.length) (hj : j < 5) : (cqs xs)[i * 5 + j]? = (xs[i].1.cells xs[i].2)[j]? := by
  induction xs generalizing i with
  | nil => simp at h
  | cons r xs ih =>
    cases i with
    | zero =>
      simp only [cqs, Nat.zero_mul, Nat.zero_add, List.getElem_cons_zero]
      rw [List.getElem?_append_left (by simpa using hj)]
    | succ i =>
      simp only [cqs, List.getElem_cons_succ]
      rw [List.getElem?_append_right (by simp; omega), ← ih i (by simpa using h)]
      congr 1
      simp
      omega
theorem cqs_one (xs : List (Oq × Value)) (h : ∀ y ∈ xs, y.2.oneCell' = true) : ∀ v ∈ cqs xs, v.oneCell' = true := by
  induction xs with
  | nil => simp [cqs]
  | cons r xs ih =>
    intro v hv
    simp only [cqs, List.mem_append, Oq.cells, List.mem_cons, List.mem_nil_iff, or_false] at hv
    rcases hv with (rfl | rfl | rfl | rfl | rfl) | hv
    · rfl
    · rfl
    · rfl
    · rfl
    · exact h r (List.mem_cons_self ..)
    · exact ih (fun y hy => h y (List.mem_cons_of_mem _ hy)) v hv
/-- An instruction's operands lie at u, from block B on. -/
def Op1 (B : Nat) (w : World) (x : Oq) (u : Value) : Prop := Ro w u x.ops ∧ ∀ k, Bl u k → B ≤ k
/-- A row of instructions, each with its operands, apart from the row. -/
def Rq (B : Nat) (w : World) (v : Value) (xs : List Oq) : Prop :=
  ∃ ys : List (Oq × Value), ys.map Prod.fst = xs ∧ w.ownsRow 0 109 5 v xs.length (cqs ys) ∧ (∀ k, Bl v k → B ≤ k) ∧ ∀ y ∈ ys, Op1 B w y.1 y.2 ∧ Apart (Bl v) (Bl y.2)
theorem opq_info : (Tryz.prog.info? 109).map (fun i => (i.zero, i.size, i.bytes)) = some (some (.agg #[.int .i64 0, .string ⟨#[]⟩, .int .i64 0, .int .i64 0, .slice none 0 0]), 5, 64) := by kernel_rfl
theorem ro_slice {w : World} {u : Value} {xs : List (Int × Int)} (h : Ro w u xs) : ∃ A c, u = .slice A xs.length c := by
  rcases own_shape h with ⟨rfl, h0⟩ | ⟨r, cap, rfl, _⟩
  · exact ⟨none, 0, by rw [h0]⟩
  · exact ⟨_, _, rfl⟩
theorem Op1.below {B : Nat} {w w' : World} {x : Oq} {u : Value} (h : Op1 B w x u) (b : Below w.heap.size w w') : Op1 B w' x u := ⟨own_below h.1 b, h.2⟩
theorem Rq.below {B : Nat} {w w' : World} {v : Value} {xs : List Oq} (h : Rq B w v xs) (b : Below w.heap.size w w') : Rq B w' v xs := by
  obtain ⟨ys, h1, h2, h3, h4⟩ := h
  exact ⟨ys, h1, own_below h2 b, h3, fun y hy => ⟨(h4 y hy).1.below b, (h4 y hy).2⟩⟩


end Go.Proofs.YteohkobdmkbcpaaGreatDoor.Tl.Ia

/- The document's own reckoning of layer 10: number, Cut, put. -/
namespace Go.Proofs.YteohkobdmkbcpaaGreatDoor.Tl.Ia
open Go.RowKit

theorem ret_int {k : IntKind} {a b : Int} (h : a = b) : Ending.returned (.int k a) = .returned (.int k b) := by rw [h]
/-- The number that the first k digits are. -/
def dg (l : List UInt8) : Nat → Int
  | 0 => 0
  | k + 1 => 10 * dg l k + (((l.getD k 0).toNat : Int) - 48)
/-- Digits alone, at most nine. -/
def Dig (l : List UInt8) : Prop := l.length ≤ 9 ∧ ∀ k, k < l.length → 48 ≤ (l.getD k 0).toNat ∧ (l.getD k 0).toNat ≤ 57
theorem dg_bd (l : List UInt8) (h : Dig l) (k : Nat) (hk : k ≤ l.length) : 0 ≤ dg l k ∧ dg l k < 10 ^ k := by
  induction k with
  | zero => simp [dg]
  | succ k ih =>
    have := ih (by omega)
    have := h.2 k (by omega)
    have e : (10 : Int) ^ (k + 1) = 10 * 10 ^ k := by rw [Int.pow_succ]; omega
    simp only [dg]
    omega
theorem pow9 (k : Nat) (h : k ≤ 9) : (10 : Int) ^ k ≤ 1000000000 := by
  match k, h with
  | 0, _ | 1, _ | 2, _ | 3, _ | 4, _ | 5, _ | 6, _ | 7, _ | 8, _ | 9, _ => decide



/-- What stands between signs c among the first k, and where the next part begins. -/
def ct (l : List UInt8) (c : Int) : Nat → List (List UInt8) × Nat
  | 0 => ([], 0)
  | k + 1 => if k = l.length ∨ ((l.getD k 0).toNat : Int) = c then ((ct l c k).1 ++ [(l.drop (ct l c k).2).take (k - (ct l c k).2)], k + 1) else ct l c k
def cut (l : List UInt8) (c : Int) : List (List UInt8) := (ct l c (l.length + 1)).1
theorem ct_le (l : List UInt8) (c : Int) (k : Nat) : (ct l c k).2 ≤ k ∧ (ct l c k).1.length ≤ k := by
  induction k with
  | zero => simp [ct]
  | succ k ih =>
    simp only [ct]
    split
    · simp; omega
    · omega
theorem ct_yes (l : List UInt8) (c : Int) (k : Nat) (h : k = l.length ∨ ((l.getD k 0).toNat : Int) = c) :
    ct l c (k + 1) = ((ct l c k).1 ++ [(l.drop (ct l c k).2).take (k - (ct l c k).2)], k + 1) := by simp only [ct, if_pos h]
theorem ct_not (l : List UInt8) (c : Int) (k : Nat) (h : ¬ (k = l.length ∨ ((l.getD k 0).toNat : Int) = c)) : ct l c (k + 1) = ct l c k := by simp only [ct, if_neg h]

/-- Parts that rounds of Cut have laid. -/
structure Ctd (w : World) (xs : List (List UInt8)) (v : Value) (wr : World) : Prop where
  row : Rs wr v xs
  ab : Ab w.heap.size (Bl v)
  bel : Below w.heap.size w wr




end Go.Proofs.YteohkobdmkbcpaaGreatDoor.Tl.Ia

/- The document's own reckoning of layer 10: put; bytes of a text in a row of the call's own. -/
namespace Go.Proofs.YteohkobdmkbcpaaGreatDoor.Tl.Ia
open Go.RowKit

theorem under_bytes : Tryz.prog.underlying 22 = some (.slice 5) := by kernel_rfl
theorem under_byte : Tryz.prog.underlying 5 = some (.int .u8) := by kernel_rfl
theorem under_str : Tryz.prog.underlying 9 = some .string := by kernel_rfl

/-- Block b begins with these bytes. -/
def By (w : World) (b : Nat) (l : List UInt8) : Prop :=
  ∃ (cur : Array Value) (lo hi : Nat), w.heap[b]? = some (.cells cur 5 (lo, hi)) ∧ l.length ≤ lo ∧ ∀ j, j < l.length → cur[j]? = some (.int .u8 ((l.getD j 0).toNat : Int))
section
variable {w w' : World} {b : Nat} {l : List UInt8}
theorem By.cell (h : By w b l) {j : Nat} (hj : j < l.length) : w.cell? ⟨b, j, none⟩ = some (.int .u8 ((l.getD j 0).toNat : Int)) := by
  obtain ⟨cur, lo, hi, hb, _, hc⟩ := h
  simp only [World.cell?, hb]
  exact hc j hj
theorem By.free (h : By w b l) {j : Nat} (hj : j < l.length) : w.frozen? ⟨b, j, none⟩ = false := by
  obtain ⟨cur, lo, hi, hb, hl, _⟩ := h
  simp only [World.frozen?, hb]
  simp
  omega
theorem By.set (h : By w b l) (j : Nat) (x : UInt8) : By (w.setCell ⟨b, j, none⟩ (.int .u8 (x.toNat : Int))) b (l.set j x) := by
  obtain ⟨cur, lo, hi, hb, hl, hc⟩ := h
  refine ⟨cur.setIfInBounds j (.int .u8 (x.toNat : Int)), lo, hi, by simp [World.setCell, Array.getElem?_modify, hb], by simpa using hl, fun i hi => ?_⟩
  rw [List.length_set] at hi
  have := hc i hi
  rw [Array.getElem?_setIfInBounds]
  have hs : i < cur.size := by
    rcases Nat.lt_or_ge i cur.size with h | h
    · exact h
    · rw [Array.getElem?_eq_none h] at this; cases this
  by_cases e : j = i
  · subst e
    simp [hs, hi, List.getD]
  · simp only [if_neg e, this]
    simp [List.getD, e]
theorem By.lt (h : By w b l) : b < w.heap.size := by obtain ⟨cur, lo, hi, hb, _⟩ := h; exact lt_of_heap hb
theorem By.string (h : By w b l) (c : Nat) : (convert 22 9 (.slice (some ⟨b, 0, none⟩) l.length c)).run Tryz.prog w = .ok (.string (sb l)) w :=
  run_convert_bytes_back w _ _ _ ⟨b, 0, none⟩ c l under_bytes under_byte under_str (fun j hj => by
    have := h.cell hj
    rw [Addr.add_lit]
    simpa [List.getD, hj] using this)
end
/-- The bytes of a text, laid in a row. -/
theorem run_bytes (l : List UInt8) (w : World) : ∃ c w', (convert 9 22 (.string (sb l))).run Tryz.prog w = .ok (.slice (some ⟨w.heap.size, 0, none⟩) l.length c) w' ∧ Hid (By w' w.heap.size l ∧ Below w.heap.size w w' ∧ w.heap.size < w'.heap.size) := by
  have h := run_bytes_of_string (P := Tryz.prog) w _ _ _ (sb l) under_str under_bytes under_byte
  rw [sb_size] at h
  refine ⟨_, _, h, ⟨_, _, _, heap_alloc_new w.drew _, ?_, fun j hj => ?_⟩, ((Below.refl _ w).drew).alloc (Nat.le_refl _) _, by simp [World.alloc]⟩
  · simp [bytesRow]
  · unfold bytesRow
    rw [Array.getElem?_append_left (by simpa using hj)]
    simp [List.getD, hj]

/-- A sign of a size's text. -/
def pu (s g c : UInt8) : UInt8 := if c = 120 then s else if c = 88 then g else c
/-- The first k signs are turned. -/
def pk (s g : UInt8) (l : List UInt8) (k : Nat) : List UInt8 := (l.take k).map (pu s g) ++ l.drop k
theorem pk_len (s g : UInt8) (l : List UInt8) (k : Nat) : (pk s g l k).length = l.length := by simp [pk]; omega
theorem pk_get (s g : UInt8) (l : List UInt8) (k : Nat) (h : k < l.length) : (pk s g l k).getD k 0 = l.getD k 0 := by
  unfold pk
  rw [List.getD_eq_getElem?_getD, List.getElem?_append_right (by simp; omega)]
  simp [List.getD, show min k l.length = k by omega]
theorem pk_succ (s g : UInt8) (l : List UInt8) (k : Nat) (h : k < l.length) : pk s g l (k + 1) = (pk s g l k).set k (pu s g (l.getD k 0)) := by
  have e1 : l.drop k = l.getD k 0 :: l.drop (k + 1) := by rw [List.drop_eq_getElem_cons h]; simp [List.getD, h]
  have e2 : l.take (k + 1) = l.take k ++ [l.getD k 0] := by rw [List.take_succ_eq_append_getElem h]; simp [List.getD, h]
  have e3 : ((l.take k).map (pu s g)).length = k := by simp; omega
  unfold pk
  rw [e1, e2, List.set_append_right _ _ (by omega), e3, Nat.sub_self, List.set_cons_zero]
  simp only [List.map_append, List.map_cons, List.map_nil, List.append_assoc, List.singleton_append]
theorem set_same (l : List UInt8) (k : Nat) (h : k < l.length) : l.set k (l.getD k 0) = l := by
  apply List.ext_getElem?
  intro i
  rw [List.getElem?_set]
  by_cases e : k = i
  · subst e; simp [List.getD, h]
  · simp [e]
theorem pk_all (s g : UInt8) (l : List UInt8) : pk s g l l.length = l.map (pu s g) := by simp [pk]

/-- Rounds of put. -/
structure Pkd (w : World) (n : Nat) (b : Nat) (l : List UInt8) (wr : World) : Prop where
  by_ : By wr b l
  len : l.length = n
  ab : w.heap.size ≤ b
  bel : Below w.heap.size w wr
theorem Pkd.set {w wr : World} {n b : Nat} {l : List UInt8} (h : Pkd w n b l wr) (j : Nat) (x : UInt8) : Pkd w n b (l.set j x) (wr.setCell ⟨b, j, none⟩ (.int .u8 (x.toNat : Int))) :=
  ⟨h.by_.set j x, by simpa using h.len, h.ab, h.bel.setCell h.ab _⟩



end Go.Proofs.YteohkobdmkbcpaaGreatDoor.Tl.Ia

/- The document's own reckoning of layer 10: read. -/
namespace Go.Proofs.YteohkobdmkbcpaaGreatDoor.Tl.Ia
open Go.RowKit

/-- a block of cells of one type -/
def Bk (W : World) (b t : Nat) (l : List Value) : Prop := W.heap[b]? = some (.cells l.toArray t (0, 0))
section
variable {W W' : World} {b b' t : Nat} {l : List Value}
theorem Bk.lt (h : Bk W b t l) : b < W.heap.size := lt_of_heap h
theorem Bk.cell (h : Bk W b t l) (i : Nat) (v : Value) (hv : l[i]? = some v) : W.cell? ⟨b, i, none⟩ = some v := by
  unfold Bk at h; simp [World.cell?, h, hv]
theorem Bk.free (h : Bk W b t l) (i : Nat) : W.frozen? ⟨b, i, none⟩ = false := by
  unfold Bk at h; simp [World.frozen?, h]
theorem Bk.set (h : Bk W b t l) (i : Nat) (v : Value) : Bk (W.setCell ⟨b, i, none⟩ v) b t (l.set i v) := by
  unfold Bk at h ⊢
  simp [World.setCell, Array.getElem?_modify, h]
theorem Bk.other (h : Bk W b t l) (hb : b ≠ b') (i : Nat) (v : Value) : Bk (W.setCell ⟨b', i, none⟩ v) b t l := by
  unfold Bk at h ⊢
  rw [Below.heap_setCell _ _ _ _ hb]; exact h
theorem Bk.drew (h : Bk W b t l) : Bk W.drew b t l := h
theorem Bk.new (W : World) (t : Nat) (l : List Value) : Bk (W.alloc (.cells l.toArray t)) W.heap.size t l := by
  unfold Bk
  show (W.heap.push _)[W.heap.size]? = _
  simp
theorem Bk.mods {S : Nat → Prop} (h : Bk W b t l) (m : Mods S W W') (hs : ¬ S b) : Bk W' b t l := (m.block b h.lt hs).trans h
theorem Bk.below (h : Bk W b t l) (m : Below W.heap.size W W') : Bk W' b t l := (m.block b h.lt).trans h
end

theorem step_append_run {P : Program} {w : World} {ops : Array Oper} {o : Oper} {a : Act} {K : Act → World → Prop} {Q : Exit → Act → World → Prop} {E : Prop} (hgd : o.guard = none) (d s : Operand) (t t' : TypeId)
    (ho : o.op = .call { callee := .builtin .append, args := #[d, s], argTypes := #[t, t'] }) (v u : Value) (hd : a.eval d = v) (hs : a.eval s = u) {v' : Value} {w' : World}
    (hr : (Builtin.append_ #[t, t'] o.type #[v, u]).run P w = .ok v' w') (h : K (a.put o.dst v') w') : if Region.wanted o (yielded ops a.tmps) = true then Oper.wp P o a w K Q else E := by
  have hw : Region.wanted o (yielded ops a.tmps) = true := by simp [Region.wanted, hgd]
  rw [if_pos hw]
  unfold Oper.wp execOp
  simp only [ho, resolve, invoke, builtin, Sem.run_bind, Sem.run_pure, Result.andThen_ok, List.map_toArray, List.map_cons, List.map_nil, hd, hs, hr]
  exact h

/-- The last large x among the first k signs is g. -/
def lx (l : List UInt8) (g : UInt8) : Nat → List UInt8
  | 0 => l
  | k + 1 => if l.getD k 0 = 88 then l.set k g else lx l g k
/-- It stands at p. -/
structure Lx (l : List UInt8) (p : Nat) : Prop where
  lt : p < l.length
  at_ : l.getD p 0 = 88
  no : ∀ j, p < j → j < l.length → l.getD j 0 ≠ 88
theorem lx_at (l : List UInt8) (g : UInt8) (p : Nat) (h : Lx l p) : lx l g l.length = l.set p g := by
  have key : ∀ k, p < k → k ≤ l.length → lx l g k = l.set p g := by
    intro k
    induction k with
    | zero => intro h; omega
    | succ k ih =>
      intro h1 h2
      simp only [lx]
      by_cases e : k = p
      · subst e; rw [if_pos h.at_]
      · rw [if_neg (h.no k (by omega) (by omega))]; exact ih (by omega) (by omega)
  exact key _ h.lt (Nat.le_refl _)
theorem lx_some (l : List UInt8) (h : l.contains 88 = true) : ∃ p, Lx l p := by
  have key : ∀ k, k ≤ l.length → (∀ j, k ≤ j → j < l.length → l.getD j 0 ≠ 88) → (∃ p, Lx l p) ∨ ∀ j, j < l.length → l.getD j 0 ≠ 88 := by
    intro k
    induction k with
    | zero => intro _ h; exact .inr fun j hj => h j (Nat.zero_le _) hj
    | succ k ih =>
      intro h1 h2
      by_cases e : l.getD k 0 = 88
      · exact .inl ⟨k, by omega, e, fun j hj hl => h2 j (by omega) hl⟩
      · refine ih (by omega) (fun j hj hl => ?_)
        by_cases ej : j = k
        · subst ej; exact e
        · exact h2 j (by omega) hl
  rcases key l.length (Nat.le_refl _) (fun j h1 h2 => absurd h2 (by omega)) with h' | h'
  · exact h'
  · exfalso
    rw [List.contains_iff_mem] at h
    obtain ⟨j, hj, e⟩ := List.mem_iff_getElem.1 h
    exact h' j hj (by simp [List.getD, hj, e])
/-- How many bytes a letter tells. -/
def sz (c : UInt8) : Int := if c = 108 then 4 else if c = 119 then 2 else 1
/-- An operand's text, of a size. -/
def ot (s g : UInt8) (o : List UInt8) : List UInt8 := if s = 0 then o else o.map (pu s g)
def opt (s g : UInt8) (o : List UInt8) : Int × Int := (((ot s g o).getD 0 0).toNat, sz ((ot s g o).getD 1 0))
/-- The instruction of a line's five words. -/
def rd (base : Int) (s g : UInt8) (a b c d e : List UInt8) : Oq :=
  ⟨base + dg a a.length, if s = 0 then b else lx b g b.length, dg c c.length, dg e e.length, if d = [45] then [] else (cut d 44).map (opt s g)⟩

/-- An instruction in a variable of read's own, another variable for what it answers, and the line's words. -/
structure Rx (w : World) (v : Value) (ws : List (List UInt8)) (q g : Nat) (x : Oq) (u : Value) (W : World) : Prop where
  res : Bk W q 109 [.int .i64 0, .string ⟨#[]⟩, .int .i64 0, .int .i64 0, .slice none 0 0]
  var : Bk W g 109 (x.cells u)
  ne : q ≠ g
  ops : Op1 w.heap.size W x u
  nq : ¬ Bl u q
  ng : ¬ Bl u g
  wds : Rs W v ws
  vg : ¬ Bl v g
  uv : Apart (Bl u) (Bl v)
  q0 : w.heap.size ≤ q
  g0 : w.heap.size ≤ g
  bel : Below w.heap.size w W
section
variable {w W W' : World} {v u : Value} {ws : List (List UInt8)} {q g : Nat} {x : Oq}
theorem Rx.below (h : Rx w v ws q g x u W) (b : Below W.heap.size W W') : Rx w v ws q g x u W' :=
  ⟨h.res.below b, h.var.below b, h.ne, h.ops.below b, h.nq, h.ng, own_below h.wds b, h.vg, h.uv, h.q0, h.g0, bel_trans h.bel b h.bel.size⟩
theorem own_set {e k n : Nat} {cs : List Value} (h : W.ownsRow 0 e k v n cs) (hg : ¬ Bl v g) (i : Nat) (y : Value) : (W.setCell ⟨g, i, none⟩ y).ownsRow 0 e k v n cs :=
  own_mods h ((Mods.refl (fun k => k = g) W).set (p := ⟨g, i, none⟩) y (.inl rfl)) (fun _ hk hb => hg (hk ▸ hb))
theorem Rx.name (h : Rx w v ws q g x u W) (l : List UInt8) : Rx w v ws q g { x with name := l } u (W.setCell ⟨g, 1, none⟩ (.string (sb l))) :=
  ⟨h.res.other h.ne _ _, h.var.set 1 _, h.ne, ⟨own_set h.ops.1 h.ng _ _, h.ops.2⟩, h.nq, h.ng, own_set h.wds h.vg _ _, h.vg, h.uv, h.q0, h.g0, h.bel.setCell h.g0 _⟩
theorem Rx.drew (h : Rx w v ws q g x u W) : Rx w v ws q g x u W.drew := h.below ((Below.refl _ _).drew)
/-- Other words, laid since. -/
theorem Rx.words {v' : Value} {ws' : List (List UInt8)} (h : Rx w v ws q g x u W) (c : Ctd W ws' v' W') : Rx w v' ws' q g x u W' :=
  ⟨h.res.below c.bel, h.var.below c.bel, h.ne, h.ops.below c.bel, h.nq, h.ng, c.row, fun hb => by have := c.ab g hb; have := h.var.lt; omega,
   fun k hu hv => by have := c.ab k hv; have := own_lo h.ops.1 k hu; omega, h.q0, h.g0, bel_trans h.bel c.bel h.bel.size⟩
/-- One operand more. -/
theorem Rx.app (h : Rx w v ws q g x u W) (a s : Int) (hl : x.ops.length ≤ 1000000) :
    ∃ r' cap' w', (Builtin.append_ #[107, 107] 107 #[u, .slice (some ⟨W.heap.size, 0, none⟩) 1 1]).run Tryz.prog (W.alloc (.cells #[.int .u8 a, .int .i64 s] 120)) = .ok (.slice (some ⟨r', 0, none⟩) (x.ops.length + 1) cap') w' ∧
      w'.cell? ⟨g, 4, none⟩ = some u ∧ w'.frozen? ⟨g, 4, none⟩ = false ∧
      Hid (Rx w v ws q g { x with ops := x.ops ++ [(a, s)] } (.slice (some ⟨r', 0, none⟩) (x.ops.length + 1) cap') (w'.setCell ⟨g, 4, none⟩ (.slice (some ⟨r', 0, none⟩) (x.ops.length + 1) cap'))) := by
  obtain ⟨r', cap', w', hrun, hro, hst⟩ := run_appo W u x.ops a s h.ops.1 hl
  have hg := h.var.mods hst.mods h.ng
  have nb : ∀ k, k < W.heap.size → ¬ Bl u k → ¬ Bl (.slice (some ⟨r', 0, none⟩) (x.ops.length + 1) cap') k := fun k hk hu hb => by
    rcases hst.grow k hb with e | e
    · exact hu e
    · omega
  have ng := nb g h.var.lt h.ng
  have hb := hst.below h.bel h.ops.2 h.bel.size
  refine ⟨r', cap', w', hrun, hg.cell 4 _ rfl, hg.free 4, ?_⟩
  exact ⟨(h.res.mods hst.mods h.nq).other h.ne _ _, hg.set 4 _, h.ne, ⟨own_set hro ng _ _, hst.ab h.ops.2 h.bel.size⟩, nb q h.res.lt h.nq, ng,
    own_set (own_mods h.wds hst.mods h.uv) h.vg _ _, h.vg, hst.apart h.uv (own_lo h.wds), h.q0, h.g0, hb.setCell h.g0 _⟩
end

theorem cut_pos (l : List UInt8) (c : Int) : 0 < (cut l c).length := by
  unfold cut
  rw [ct_yes l c l.length (.inl rfl)]
  simp


end Go.Proofs.YteohkobdmkbcpaaGreatDoor.Tl.Ia

/- The document's own reckoning of layer 10: read. -/
namespace Go.Proofs.YteohkobdmkbcpaaGreatDoor.Tl.Ia
open Go.RowKit

/-- An end in one frame and one world. -/
def OneEnd (F : Act) (W : World) : Exit → Act → World → Prop
  | .normal, a, w => a = F ∧ w = W
  | _, _, _ => False
/-- A region all of whose ways end in one frame and one world: what follows is walked once. -/
theorem wp_one {P : Program} {c : Code} {Q : Exit → Act → World → Prop} {a : Act} {w : World} (F : Act) (W : World) (h : c.wp P (OneEnd F W) a w) (k : Q .normal F W) : c.wp P Q a w :=
  Code.wp_mono (fun x _ _ h => by
    cases x <;> first | (obtain ⟨rfl, rfl⟩ := h; exact k) | exact h.elim) h

/-- What stands behind the first lines of read. -/
theorem Rx.first {w w1 : World} {v : Value} {ws : List (List UInt8)} (x : Oq) (hx : x.ops = []) (h : Ctd (w.alloc (.cells #[.int .i64 0, .string ⟨#[]⟩, .int .i64 0, .int .i64 0, .slice none 0 0] 109)) ws v w1) :
    Rx w v ws w.heap.size w1.heap.size x (.slice none 0 0) (w1.alloc (.cells (x.cells (.slice none 0 0)).toArray 109)).drew := by
  have hs : (w.alloc (.cells #[.int .i64 0, .string ⟨#[]⟩, .int .i64 0, .int .i64 0, .slice none 0 0] 109)).heap.size = w.heap.size + 1 := by show (w.heap.push _).size = _; rw [Array.size_push]
  have h1 := h.bel.size
  have b0 : Below w.heap.size w (w.alloc (.cells #[.int .i64 0, .string ⟨#[]⟩, .int .i64 0, .int .i64 0, .slice none 0 0] 109)) := (Below.refl _ _).alloc (Nat.le_refl _) _
  have b1 : Below w.heap.size w w1 := bel2 b0 h.bel
  have b2 : Below w1.heap.size w1 (w1.alloc (.cells (x.cells (.slice none 0 0)).toArray 109)).drew := ((Below.refl _ _).alloc (Nat.le_refl _) _).drew
  have nb : ∀ k, ¬ Bl (.slice none 0 0) k := fun k hk => by simp [Bl, Value.ownBlock] at hk
  exact ⟨((Bk.new w _ [.int .i64 0, .string ⟨#[]⟩, .int .i64 0, .int .i64 0, .slice none 0 0]).below h.bel).below b2, (Bk.new w1 _ _).drew, by omega,
    ⟨⟨by rw [hx]; simp [cop], .inl ⟨rfl, by rw [hx]; rfl⟩⟩, fun k hk => absurd hk (nb k)⟩, nb _, nb _, own_below h.row b2, fun hb => by have := own_lo h.row _ hb; omega, fun k hk => absurd hk (nb k), Nat.le_refl _, by omega, bel2 b1 b2⟩

/-- The cells of both variables. -/
theorem Rx.cells {w W : World} {v u : Value} {ws : List (List UInt8)} {q g : Nat} {x : Oq} (h : Rx w v ws q g x u W) :
    W.cell? ⟨g, 0, none⟩ = some (.int .i64 x.code) ∧ W.cell? ⟨g, 1, none⟩ = some (.string (sb x.name)) ∧ W.cell? ⟨g, 2, none⟩ = some (.int .i64 x.cls) ∧ W.cell? ⟨g, 3, none⟩ = some (.int .i64 x.alu) ∧ W.cell? ⟨g, 4, none⟩ = some u ∧
    W.cell? ⟨q, 0, none⟩ = some (.int .i64 0) ∧ W.cell? ⟨q, 1, none⟩ = some (.string ⟨#[]⟩) ∧ W.cell? ⟨q, 2, none⟩ = some (.int .i64 0) ∧ W.cell? ⟨q, 3, none⟩ = some (.int .i64 0) ∧ W.cell? ⟨q, 4, none⟩ = some (.slice none 0 0) ∧ (∀ i, W.frozen? ⟨q, i, none⟩ = false) ∧ ∀ i, W.frozen? ⟨g, i, none⟩ = false :=
  ⟨h.var.cell 0 _ rfl, h.var.cell 1 _ rfl, h.var.cell 2 _ rfl, h.var.cell 3 _ rfl, h.var.cell 4 _ rfl, h.res.cell 0 _ rfl, h.res.cell 1 _ rfl, h.res.cell 2 _ rfl, h.res.cell 3 _ rfl, h.res.cell 4 _ rfl, h.res.free, h.var.free⟩
/-- What is answered. -/
theorem Rx.fin {w W : World} {v u : Value} {ws : List (List UInt8)} {q g : Nat} {x : Oq} (h : Rx w v ws q g x u W) (a0 a1 a2 a3 a4 : Value) :
    Op1 w.heap.size (((((W.setCell ⟨q, 0, none⟩ a0).setCell ⟨q, 1, none⟩ a1).setCell ⟨q, 2, none⟩ a2).setCell ⟨q, 3, none⟩ a3).setCell ⟨q, 4, none⟩ a4) x u ∧
      Below w.heap.size w (((((W.setCell ⟨q, 0, none⟩ a0).setCell ⟨q, 1, none⟩ a1).setCell ⟨q, 2, none⟩ a2).setCell ⟨q, 3, none⟩ a3).setCell ⟨q, 4, none⟩ a4) :=
  ⟨⟨own_set (own_set (own_set (own_set (own_set h.ops.1 h.nq _ _) h.nq _ _) h.nq _ _) h.nq _ _) h.nq _ _, h.ops.2⟩,
   ((((h.bel.setCell h.q0 _).setCell h.q0 _).setCell h.q0 _).setCell h.q0 _).setCell h.q0 _⟩

/-- The next operand. -/
theorem Rx.next {w W : World} {v u : Value} {ws : List (List UInt8)} {q y k : Nat} {C L U : Int} {N : List UInt8} {s g : UInt8} (h : Rx w v ws q y ⟨C, N, L, U, (ws.take k).map (opt s g)⟩ u W) (hk : k < ws.length) (hl : ws.length ≤ 1000000) (a z : Int) (ha : opt s g (ws.getD k []) = (a, z)) :
    ∃ r' cap' w', (Builtin.append_ #[107, 107] 107 #[u, .slice (some ⟨W.heap.size, 0, none⟩) 1 1]).run Tryz.prog (W.drew.alloc (.cells #[.int .u8 a, .int .i64 z] 120)) = .ok (.slice (some ⟨r', 0, none⟩) (k + 1) cap') w' ∧
      w'.cell? ⟨y, 4, none⟩ = some u ∧ w'.frozen? ⟨y, 4, none⟩ = false ∧
      Hid (Rx w v ws q y ⟨C, N, L, U, (ws.take (k + 1)).map (opt s g)⟩ (.slice (some ⟨r', 0, none⟩) (k + 1) cap') (w'.setCell ⟨y, 4, none⟩ (.slice (some ⟨r', 0, none⟩) (k + 1) cap'))) := by
  have e1 : ((ws.take k).map (opt s g)).length = k := by simp; omega
  have e2 : (ws.take (k + 1)).map (opt s g) = (ws.take k).map (opt s g) ++ [(a, z)] := by
    rw [List.take_succ_eq_append_getElem hk, List.map_append, ← ha]
    simp [List.getD, hk]
  have := h.drew.app a z (by rw [e1]; omega)
  simp only [e1] at this
  rw [e2]
  exact this

/-- A word of the line. -/
theorem Rx.word {w W : World} {r n c : Nat} {u : Value} {ws : List (List UInt8)} {q g : Nat} {x : Oq} (h : Rx w (.slice (some ⟨r, 0, none⟩) n c) ws q g x u W) (k : Nat) (hk : k < ws.length) :
    W.cell? ⟨r, k, none⟩ = some (.string (sb (ws.getD k []))) := by
  rcases own_shape h.wds with ⟨h, _⟩ | ⟨r', cap', e1, _, _, _, hc, _⟩
  · cases h
  · injection e1 with e1 _ _
    injection e1 with e1
    injection e1 with e1
    subst e1
    exact hc k _ (cst_get ws k hk)
theorem bl_some (r n c : Nat) : Bl (.slice (some ⟨r, 0, none⟩) n c) r := by simp [Bl, Value.ownBlock]
/-- While read puts the size's letter into the name: a row of the name's bytes. -/
structure Nx (w : World) (v : Value) (ws : List (List UInt8)) (q g : Nat) (x : Oq) (u : Value) (bb : Nat) (l : List UInt8) (W : World) : Prop where
  rx : Rx w v ws q g x u W
  by_ : By W bb l
  nq : q ≠ bb
  ng : g ≠ bb
  nu : ¬ Bl u bb
  nv : ¬ Bl v bb
  b0 : w.heap.size ≤ bb
section
variable {w W W' : World} {v u : Value} {ws : List (List UInt8)} {q g bb : Nat} {x : Oq} {l : List UInt8}
theorem Nx.drew (h : Nx w v ws q g x u bb l W) : Nx w v ws q g x u bb l W.drew := ⟨h.rx.drew, h.by_, h.nq, h.ng, h.nu, h.nv, h.b0⟩
theorem Nx.set (h : Nx w v ws q g x u bb l W) (j : Nat) (y : UInt8) : Nx w v ws q g x u bb (l.set j y) (W.setCell ⟨bb, j, none⟩ (.int .u8 (y.toNat : Int))) :=
  ⟨⟨h.rx.res.other h.nq _ _, h.rx.var.other h.ng _ _, h.rx.ne, ⟨own_set h.rx.ops.1 h.nu _ _, h.rx.ops.2⟩, h.rx.nq, h.rx.ng, own_set h.rx.wds h.nv _ _, h.rx.vg, h.rx.uv, h.rx.q0, h.rx.g0, h.rx.bel.setCell h.b0 _⟩,
   h.by_.set j y, h.nq, h.ng, h.nu, h.nv, h.b0⟩
theorem Nx.first (h : Rx w v ws q g x u W) (hb : By W' W.heap.size l ∧ Below W.heap.size W W' ∧ W.heap.size < W'.heap.size) : Nx w v ws q g x u W.heap.size l W' := by
  refine ⟨h.below hb.2.1, hb.1, ?_, ?_, ?_, ?_, h.bel.size⟩
  · have := h.res.lt; omega
  · have := h.var.lt; omega
  · intro k; have := own_lo h.ops.1 _ k; omega
  · intro k; have := own_lo h.wds _ k; omega
end

/-- What a line must be: five words, the first, the third and the last of digits; operands of two signs at least. -/
structure Ln (line a b c d e : List UInt8) : Prop where
  len : line.length ≤ 1000
  cut : cut line 32 = [a, b, c, d, e]
  da : Dig a
  dc : Dig c
  de : Dig e
  ld : d.length ≤ 1000
  lb : b.length ≤ 1000
  two : d ≠ [45] → ∀ o ∈ Ia.cut d 44, 2 ≤ o.length ∧ o.length ≤ 1000



end Go.Proofs.YteohkobdmkbcpaaGreatDoor.Tl.Ia

/- The document's own reckoning of layer 10: its lines. -/
namespace Go.Proofs.YteohkobdmkbcpaaGreatDoor.Tl.Ia
open Go.RowKit

/-- The document's lines, as bytes. -/
def lns : List (List UInt8) := [[48, 32, 72, 65, 76, 84, 32, 49, 32, 45, 32, 48],
  [49, 32, 78, 79, 80, 32, 50, 32, 45, 32, 48],
  [50, 32, 82, 69, 73, 32, 51, 32, 45, 32, 48],
  [51, 32, 66, 80, 84, 32, 52, 32, 45, 32, 48],
  [52, 32, 82, 69, 84, 32, 53, 32, 45, 32, 48],
  [53, 32, 82, 83, 66, 32, 54, 32, 45, 32, 48],
  [49, 54, 32, 66, 83, 66, 66, 32, 55, 32, 98, 98, 32, 48],
  [52, 56, 32, 66, 83, 66, 87, 32, 55, 32, 98, 119, 32, 48],
  [49, 55, 32, 66, 82, 66, 32, 56, 32, 98, 98, 32, 48],
  [52, 57, 32, 66, 82, 87, 32, 56, 32, 98, 119, 32, 48],
  [50, 50, 32, 74, 83, 66, 32, 49, 48, 32, 97, 98, 32, 48],
  [50, 51, 32, 74, 77, 80, 32, 49, 49, 32, 97, 98, 32, 48],
  [49, 56, 32, 66, 78, 69, 81, 32, 57, 32, 98, 98, 32, 48],
  [49, 57, 32, 66, 69, 81, 76, 32, 57, 32, 98, 98, 32, 48],
  [50, 48, 32, 66, 71, 84, 82, 32, 57, 32, 98, 98, 32, 48],
  [50, 49, 32, 66, 76, 69, 81, 32, 57, 32, 98, 98, 32, 48],
  [50, 52, 32, 66, 71, 69, 81, 32, 57, 32, 98, 98, 32, 48],
  [50, 53, 32, 66, 76, 83, 83, 32, 57, 32, 98, 98, 32, 48],
  [50, 54, 32, 66, 71, 84, 82, 85, 32, 57, 32, 98, 98, 32, 48],
  [50, 55, 32, 66, 76, 69, 81, 85, 32, 57, 32, 98, 98, 32, 48],
  [50, 56, 32, 66, 86, 67, 32, 57, 32, 98, 98, 32, 48],
  [50, 57, 32, 66, 86, 83, 32, 57, 32, 98, 98, 32, 48],
  [51, 48, 32, 66, 67, 67, 32, 57, 32, 98, 98, 32, 48],
  [51, 49, 32, 66, 67, 83, 32, 57, 32, 98, 98, 32, 48],
  [52, 48, 32, 77, 79, 86, 67, 51, 32, 52, 48, 32, 114, 119, 44, 97, 98, 44, 97, 98, 32, 48],
  [52, 49, 32, 67, 77, 80, 67, 51, 32, 52, 50, 32, 114, 119, 44, 97, 98, 44, 97, 98, 32, 48],
  [52, 52, 32, 77, 79, 86, 67, 53, 32, 52, 49, 32, 114, 119, 44, 97, 98, 44, 114, 98, 44, 114, 119, 44, 97, 98, 32, 48],
  [52, 53, 32, 67, 77, 80, 67, 53, 32, 52, 51, 32, 114, 119, 44, 97, 98, 44, 114, 98, 44, 114, 119, 44, 97, 98, 32, 48],
  [53, 56, 32, 76, 79, 67, 67, 32, 52, 52, 32, 114, 98, 44, 114, 119, 44, 97, 98, 32, 48],
  [53, 57, 32, 83, 75, 80, 67, 32, 52, 53, 32, 114, 98, 44, 114, 119, 44, 97, 98, 32, 48],
  [53, 48, 32, 67, 86, 84, 87, 76, 32, 49, 56, 32, 114, 119, 44, 119, 108, 32, 48],
  [53, 49, 32, 67, 86, 84, 87, 66, 32, 49, 56, 32, 114, 119, 44, 119, 98, 32, 48],
  [49, 53, 50, 32, 67, 86, 84, 66, 76, 32, 49, 56, 32, 114, 98, 44, 119, 108, 32, 48],
  [49, 53, 51, 32, 67, 86, 84, 66, 87, 32, 49, 56, 32, 114, 98, 44, 119, 119, 32, 48],
  [50, 52, 54, 32, 67, 86, 84, 76, 66, 32, 49, 56, 32, 114, 108, 44, 119, 98, 32, 48],
  [50, 52, 55, 32, 67, 86, 84, 76, 87, 32, 49, 56, 32, 114, 108, 44, 119, 119, 32, 48],
  [54, 48, 32, 77, 79, 86, 90, 87, 76, 32, 49, 57, 32, 114, 119, 44, 119, 108, 32, 48],
  [49, 53, 52, 32, 77, 79, 86, 90, 66, 76, 32, 49, 57, 32, 114, 98, 44, 119, 108, 32, 48],
  [49, 53, 53, 32, 77, 79, 86, 90, 66, 87, 32, 49, 57, 32, 114, 98, 44, 119, 119, 32, 48],
  [49, 50, 48, 32, 65, 83, 72, 76, 32, 50, 51, 32, 114, 98, 44, 114, 108, 44, 119, 108, 32, 48],
  [49, 53, 54, 32, 82, 79, 84, 76, 32, 50, 52, 32, 114, 98, 44, 114, 108, 44, 119, 108, 32, 48],
  [49, 53, 56, 32, 77, 79, 86, 65, 66, 32, 50, 48, 32, 97, 98, 44, 119, 108, 32, 48],
  [49, 57, 48, 32, 77, 79, 86, 65, 87, 32, 50, 48, 32, 97, 119, 44, 119, 108, 32, 48],
  [50, 50, 50, 32, 77, 79, 86, 65, 76, 32, 50, 48, 32, 97, 108, 44, 119, 108, 32, 48],
  [49, 53, 57, 32, 80, 85, 83, 72, 65, 66, 32, 50, 49, 32, 97, 98, 32, 48],
  [49, 57, 49, 32, 80, 85, 83, 72, 65, 87, 32, 50, 49, 32, 97, 119, 32, 48],
  [50, 50, 51, 32, 80, 85, 83, 72, 65, 76, 32, 50, 49, 32, 97, 108, 32, 48],
  [50, 50, 49, 32, 80, 85, 83, 72, 76, 32, 50, 50, 32, 114, 108, 32, 48],
  [49, 56, 52, 32, 66, 73, 83, 80, 83, 87, 32, 51, 53, 32, 114, 119, 32, 48],
  [49, 56, 53, 32, 66, 73, 67, 80, 83, 87, 32, 51, 54, 32, 114, 119, 32, 48],
  [49, 56, 54, 32, 80, 79, 80, 82, 32, 51, 51, 32, 114, 119, 32, 48],
  [49, 56, 55, 32, 80, 85, 83, 72, 82, 32, 51, 50, 32, 114, 119, 32, 48],
  [49, 56, 56, 32, 67, 72, 77, 75, 32, 51, 55, 32, 114, 119, 32, 48],
  [50, 49, 56, 32, 77, 84, 80, 82, 32, 51, 56, 32, 114, 108, 44, 114, 108, 32, 48],
  [50, 49, 57, 32, 77, 70, 80, 82, 32, 51, 57, 32, 114, 108, 44, 119, 108, 32, 48],
  [50, 50, 48, 32, 77, 79, 86, 80, 83, 76, 32, 51, 52, 32, 119, 108, 32, 48],
  [50, 49, 54, 32, 65, 68, 87, 67, 32, 49, 52, 32, 114, 108, 44, 109, 108, 32, 56],
  [50, 49, 55, 32, 83, 66, 87, 67, 32, 49, 52, 32, 114, 108, 44, 109, 108, 32, 57],
  [50, 50, 52, 32, 66, 66, 83, 32, 50, 54, 32, 114, 108, 44, 118, 98, 44, 98, 98, 32, 49],
  [50, 50, 53, 32, 66, 66, 67, 32, 50, 54, 32, 114, 108, 44, 118, 98, 44, 98, 98, 32, 48],
  [50, 51, 50, 32, 66, 76, 66, 83, 32, 50, 53, 32, 114, 108, 44, 98, 98, 32, 49],
  [50, 51, 51, 32, 66, 76, 66, 67, 32, 50, 53, 32, 114, 108, 44, 98, 98, 32, 48],
  [50, 51, 56, 32, 69, 88, 84, 86, 32, 50, 57, 32, 114, 108, 44, 114, 98, 44, 118, 98, 44, 119, 108, 32, 49],
  [50, 51, 57, 32, 69, 88, 84, 90, 86, 32, 50, 57, 32, 114, 108, 44, 114, 98, 44, 118, 98, 44, 119, 108, 32, 48],
  [50, 52, 48, 32, 73, 78, 83, 86, 32, 51, 48, 32, 114, 108, 44, 114, 108, 44, 114, 98, 44, 118, 98, 32, 48],
  [50, 52, 50, 32, 65, 79, 66, 76, 83, 83, 32, 50, 55, 32, 114, 108, 44, 109, 108, 44, 98, 98, 32, 48],
  [50, 52, 51, 32, 65, 79, 66, 76, 69, 81, 32, 50, 55, 32, 114, 108, 44, 109, 108, 44, 98, 98, 32, 49],
  [50, 52, 52, 32, 83, 79, 66, 71, 69, 81, 32, 50, 56, 32, 109, 108, 44, 98, 98, 32, 49],
  [50, 52, 53, 32, 83, 79, 66, 71, 84, 82, 32, 50, 56, 32, 109, 108, 44, 98, 98, 32, 48],
  [50, 53, 49, 32, 67, 65, 76, 76, 83, 32, 51, 49, 32, 114, 108, 44, 97, 98, 32, 48]]
/-- Those for each size. -/
def szd : List (List UInt8) := [[48, 32, 65, 68, 68, 88, 50, 32, 49, 52, 32, 114, 120, 44, 109, 120, 32, 54],
  [49, 32, 65, 68, 68, 88, 51, 32, 49, 53, 32, 114, 120, 44, 114, 120, 44, 119, 120, 32, 54],
  [50, 32, 83, 85, 66, 88, 50, 32, 49, 52, 32, 114, 120, 44, 109, 120, 32, 55],
  [51, 32, 83, 85, 66, 88, 51, 32, 49, 53, 32, 114, 120, 44, 114, 120, 44, 119, 120, 32, 55],
  [52, 32, 77, 85, 76, 88, 50, 32, 49, 52, 32, 114, 120, 44, 109, 120, 32, 49, 48],
  [53, 32, 77, 85, 76, 88, 51, 32, 49, 53, 32, 114, 120, 44, 114, 120, 44, 119, 120, 32, 49, 48],
  [54, 32, 68, 73, 86, 88, 50, 32, 49, 52, 32, 114, 120, 44, 109, 120, 32, 49, 49],
  [55, 32, 68, 73, 86, 88, 51, 32, 49, 53, 32, 114, 120, 44, 114, 120, 44, 119, 120, 32, 49, 49],
  [56, 32, 66, 73, 83, 88, 50, 32, 49, 52, 32, 114, 120, 44, 109, 120, 32, 49, 50],
  [57, 32, 66, 73, 83, 88, 51, 32, 49, 53, 32, 114, 120, 44, 114, 120, 44, 119, 120, 32, 49, 50],
  [49, 48, 32, 66, 73, 67, 88, 50, 32, 49, 52, 32, 114, 120, 44, 109, 120, 32, 49, 51],
  [49, 49, 32, 66, 73, 67, 88, 51, 32, 49, 53, 32, 114, 120, 44, 114, 120, 44, 119, 120, 32, 49, 51],
  [49, 50, 32, 88, 79, 82, 88, 50, 32, 49, 52, 32, 114, 120, 44, 109, 120, 32, 49, 52],
  [49, 51, 32, 88, 79, 82, 88, 51, 32, 49, 53, 32, 114, 120, 44, 114, 120, 44, 119, 120, 32, 49, 52],
  [49, 52, 32, 77, 78, 69, 71, 88, 32, 49, 50, 32, 114, 120, 44, 119, 120, 32, 51],
  [49, 54, 32, 77, 79, 86, 88, 32, 49, 50, 32, 114, 120, 44, 119, 120, 32, 49],
  [49, 55, 32, 67, 77, 80, 88, 32, 49, 55, 32, 114, 120, 44, 114, 120, 32, 49, 54],
  [49, 56, 32, 77, 67, 79, 77, 88, 32, 49, 50, 32, 114, 120, 44, 119, 120, 32, 50],
  [49, 57, 32, 66, 73, 84, 88, 32, 49, 55, 32, 114, 120, 44, 114, 120, 32, 49, 53],
  [50, 48, 32, 67, 76, 82, 88, 32, 49, 51, 32, 119, 120, 32, 49, 56],
  [50, 49, 32, 84, 83, 84, 88, 32, 49, 54, 32, 114, 120, 32, 49, 55],
  [50, 50, 32, 73, 78, 67, 88, 32, 49, 51, 32, 109, 120, 32, 52],
  [50, 51, 32, 68, 69, 67, 88, 32, 49, 51, 32, 109, 120, 32, 53]]

/-- A row of texts, new. -/
theorem Ctd.new (w : World) (xs : List (List UInt8)) (h0 : 0 < xs.length) (hl : xs.length ≤ 1000) : Ctd w xs (.slice (some ⟨w.heap.size, 0, none⟩) xs.length xs.length) (w.alloc (.cells (cst xs).toArray 9)) := by
  refine ⟨⟨by simp [cst], .inr ⟨w.heap.size, xs.length, (cst xs).toArray, rfl, Nat.zero_le _, heap_alloc_new w _, Nat.le_refl _, by unfold maxLen; omega, by simp [cst], ?_⟩⟩, fun k hk => ?_, (Below.refl _ w).alloc (Nat.le_refl _) _⟩
  · simp [cst]
    exact List.take_of_length_le (by simp)
  · simp [Bl, Value.ownBlock] at hk; omega



/-- Digits alone, at most nine: a test. -/
def digb (l : List UInt8) : Bool := Nat.ble l.length 9 && l.all fun c => Nat.ble 48 c.toNat && Nat.ble c.toNat 57
theorem dig_of (l : List UInt8) (h : digb l = true) : Dig l := by
  unfold digb at h
  rw [Bool.and_eq_true, Nat.ble_eq, List.all_eq_true] at h
  refine ⟨h.1, fun k hk => ?_⟩
  have := h.2 (l.getD k 0) (by simp [List.getD, hk])
  rw [Bool.and_eq_true, Nat.ble_eq, Nat.ble_eq] at this
  exact this
/-- What a line must be: a test; z: for each size. -/
def lnb (z : Bool) (l : List UInt8) : Bool :=
  match cut l 32 with
  | [a, b, c, d, e] => Nat.ble l.length 1000 && (digb a && (digb c && (digb e && (Nat.ble d.length 1000 && (Nat.ble b.length 1000 && ((d == [45] || (cut d 44).all (fun o => Nat.ble 2 o.length && Nat.ble o.length 1000)) && (!z || (b.contains 88 && d != [45]))))))))
  | _ => false
/-- The instruction of a line. -/
def rdl (base : Int) (s g : UInt8) (l : List UInt8) : Oq :=
  match cut l 32 with
  | [a, b, c, d, e] => rd base s g a b c d e
  | _ => ⟨0, [], 0, 0, []⟩
theorem lns_ok : lns.all (lnb false) = true := by kernel_rfl
theorem szd_ok : szd.all (lnb true) = true := by kernel_rfl
theorem lns_len : lns.length = 70 := by kernel_rfl
theorem szd_len : szd.length = 23 := by kernel_rfl
/-- The document's instructions. -/
def docs : List Oq := lns.map (rdl 0 0 0) ++ szd.map (rdl 128 98 66) ++ szd.map (rdl 160 119 87) ++ szd.map (rdl 192 108 76)

end Go.Proofs.YteohkobdmkbcpaaGreatDoor.Tl.Ia

/- The document's own reckoning of layer 10: All. -/
namespace Go.Proofs.YteohkobdmkbcpaaGreatDoor.Tl.Ia
open Go.RowKit

/-- Instructions that rounds of All have laid, beside the lines that they go by. -/
structure Al (w : World) (L : Value) (ls : List (List UInt8)) (xs : List Oq) (v : Value) (W : World) : Prop where
  row : Rq w.heap.size W v xs
  lin : Rs W L ls
  ap : Apart (Bl v) (Bl L)
  bel : Below w.heap.size w W
theorem rq_lo {B : Nat} {W : World} {v : Value} {xs : List Oq} (h : Rq B W v xs) : Lo W.heap.size (Bl v) := by
  obtain ⟨ys, _, h2, _, _⟩ := h
  exact own_lo h2
theorem rq_ab {B : Nat} {W : World} {v : Value} {xs : List Oq} (h : Rq B W v xs) : Ab B (Bl v) := by
  obtain ⟨ys, _, _, h3, _⟩ := h
  exact h3
/-- Other lines, laid since. -/
theorem Al.lines {w W W1 : World} {L L1 v : Value} {ls ls1 : List (List UInt8)} {xs : List Oq} (h : Al w L ls xs v W) (c : Ctd W ls1 L1 W1) : Al w L1 ls1 xs v W1 :=
  ⟨h.row.below c.bel, c.row, Apart.of (rq_lo h.row) c.ab, bel_trans h.bel c.bel h.bel.size⟩
theorem Al.first {w W1 : World} {L1 : Value} {ls1 : List (List UInt8)} (c : Ctd w ls1 L1 W1) : Al w L1 ls1 [] (.slice none 0 0) W1 := by
  have nb : ∀ k, ¬ Bl (.slice none 0 0) k := fun k hk => by simp [Bl, Value.ownBlock] at hk
  exact ⟨⟨[], rfl, ⟨by simp [cqs], .inl ⟨rfl, rfl⟩⟩, fun k hk => absurd hk (nb k), fun y hy => by simp at hy⟩, c.row, fun k hk => absurd hk (nb k), c.bel⟩
/-- A line. -/
theorem Al.line {w W : World} {r n c : Nat} {v : Value} {ls : List (List UInt8)} {xs : List Oq} (h : Al w (.slice (some ⟨r, 0, none⟩) n c) ls xs v W) (k : Nat) (hk : k < ls.length) :
    W.cell? ⟨r, k, none⟩ = some (.string (sb (ls.getD k []))) := by
  rcases own_shape h.lin with ⟨h, _⟩ | ⟨r', cap', e1, _, _, _, hc, _⟩
  · cases h
  · injection e1 with e1 _ _
    injection e1 with e1
    injection e1 with e1
    subst e1
    exact hc k _ (cst_get ls k hk)

theorem all_at {p : List UInt8 → Bool} {l : List (List UInt8)} (h : l.all p = true) (k : Nat) (hk : k < l.length) : p (l.getD k []) = true := by
  rw [List.all_eq_true] at h
  exact h _ (by simp [List.getD, hk])
theorem map_take {α β : Type} (f : α → β) (l : List α) (d : α) (k : Nat) (hk : k < l.length) : (l.take (k + 1)).map f = (l.take k).map f ++ [f (l.getD k d)] := by
  rw [List.take_succ_eq_append_getElem hk, List.map_append]
  simp [List.getD, hk]

/-- The size's letters. -/
def sml (i : Nat) : UInt8 := if i = 0 then 98 else if i = 1 then 119 else 108
def lrg (i : Nat) : UInt8 := if i = 0 then 66 else if i = 1 then 87 else 76
/-- Those of the first i sizes. -/
def szs : Nat → List Oq
  | 0 => lns.map (rdl 0 0 0)
  | i + 1 => szs i ++ szd.map (rdl (128 + 32 * i) (sml i) (lrg i))
theorem szs_docs : szs 3 = docs := by
  simp only [szs, docs]
  rfl
theorem szs_len (i : Nat) : (szs i).length = 70 + 23 * i := by
  induction i with
  | zero => simp [szs, lns_len]
  | succ i ih => simp only [szs, List.length_append, ih, List.length_map, szd_len]; omega

end Go.Proofs.YteohkobdmkbcpaaGreatDoor.Tl.Ia

/- The document's own reckoning of layer 10: All. -/
namespace Go.Proofs.YteohkobdmkbcpaaGreatDoor.Tl.Ia
open Go.RowKit



/-- What All answers. -/
def AllE (w : World) (e : Ending) (w' : World) : Prop := ∃ r c, e = .returned (.slice (some ⟨r, 0, none⟩) 139 c) ∧ Rq w.heap.size w' (.slice (some ⟨r, 0, none⟩) 139 c) docs ∧ Below w.heap.size w w'



end Go.Proofs.YteohkobdmkbcpaaGreatDoor.Tl.Ia

/- The document's own reckoning of layer 10: Of, Find. -/
namespace Go.Proofs.YteohkobdmkbcpaaGreatDoor.Tl.Ia
open Go.RowKit

/-- Nothing. -/
def zq : Oq := ⟨0, [], 0, 0, []⟩
/-- What is found, and whether. -/
def fnd : Option Oq → Oq × Bool
  | some x => (x, true)
  | none => (zq, false)
def FoundE (w : World) (p : Oq × Bool) (e : Ending) (w' : World) : Prop :=
  ∃ u, e = .returned (.tuple #[p.1.val u, .bool p.2]) ∧ Op1 w.heap.size w' p.1 u ∧ Below w.heap.size w w'
theorem op_none (B : Nat) (W : World) (x : Oq) (hx : x.ops = []) : Op1 B W x (.slice none 0 0) :=
  ⟨⟨by rw [hx]; simp [cop], .inl ⟨rfl, by rw [hx]; rfl⟩⟩, fun k hk => by simp [Bl, Value.ownBlock] at hk⟩

/-- A row of instructions behind a variable for what is answered. -/
structure Fd (D : List Oq) (w : World) (L : Value) (W : World) : Prop where
  row : Rq (w.heap.size + 1) W L D
  res : Bk W w.heap.size 109 [.int .i64 0, .string ⟨#[]⟩, .int .i64 0, .int .i64 0, .slice none 0 0]
  bel : Below w.heap.size w W
section
variable {D : List Oq} {w W W' : World} {L : Value}
theorem Fd.below (h : Fd D w L W) (b : Below W.heap.size W W') : Fd D w L W' := ⟨h.row.below b, h.res.below b, bel_trans h.bel b h.bel.size⟩
theorem Fd.at_ {r n c : Nat} (h : Fd D w (.slice (some ⟨r, 0, none⟩) n c) W) (k : Nat) (hk : k < D.length) : ∃ A m, Op1 (w.heap.size + 1) W (D.getD k zq) (.slice A (D.getD k zq).ops.length m) ∧
    W.cell? ⟨r, k * 5, none⟩ = some (.int .i64 (D.getD k zq).code) ∧ W.cell? ⟨r, k * 5 + 1, none⟩ = some (.string (sb (D.getD k zq).name)) ∧ W.cell? ⟨r, k * 5 + 2, none⟩ = some (.int .i64 (D.getD k zq).cls) ∧
    W.cell? ⟨r, k * 5 + 3, none⟩ = some (.int .i64 (D.getD k zq).alu) ∧ W.cell? ⟨r, k * 5 + 4, none⟩ = some (.slice A (D.getD k zq).ops.length m) := by
  obtain ⟨ys, h1, h2, h3, h4⟩ := h.row
  have hl : ys.length = D.length := by rw [← h1, List.length_map]
  have hk' : k < ys.length := by omega
  have hy := h4 ys[k] (List.getElem_mem hk')
  have e : (D.getD k zq) = ys[k].1 := by subst h1; simp [List.getD, hk']
  rw [e]
  obtain ⟨A, m, hu⟩ := ro_slice hy.1.1
  have hg := fun j hj => cqs_get ys k j hk' hj
  rcases own_shape h2 with ⟨h, _⟩ | ⟨r', cap', e1, _, _, _, hc, _⟩
  · cases h
  · injection e1 with e1 _ _
    injection e1 with e1
    injection e1 with e1
    subst e1
    refine ⟨A, m, hu ▸ hy.1, hc _ _ ?_, hc _ _ ?_, hc _ _ ?_, hc _ _ ?_, hc _ _ ?_⟩
    · rw [show k * 5 = k * 5 + 0 by omega, hg 0 (by omega)]; rfl
    · rw [hg 1 (by omega)]; rfl
    · rw [hg 2 (by omega)]; rfl
    · rw [hg 3 (by omega)]; rfl
    · rw [hg 4 (by omega), hu]; rfl
end
theorem Fd.fin {D : List Oq} {w W : World} {L u : Value} {x : Oq} (h : Fd D w L W) (ho : Op1 (w.heap.size + 1) W x u) (a0 a1 a2 a3 a4 : Value) (o : Obj) :
    Op1 w.heap.size ((((((W.setCell ⟨w.heap.size, 0, none⟩ a0).setCell ⟨w.heap.size, 1, none⟩ a1).setCell ⟨w.heap.size, 2, none⟩ a2).setCell ⟨w.heap.size, 3, none⟩ a3).setCell ⟨w.heap.size, 4, none⟩ a4).alloc o) x u ∧
      Below w.heap.size w ((((((W.setCell ⟨w.heap.size, 0, none⟩ a0).setCell ⟨w.heap.size, 1, none⟩ a1).setCell ⟨w.heap.size, 2, none⟩ a2).setCell ⟨w.heap.size, 3, none⟩ a3).setCell ⟨w.heap.size, 4, none⟩ a4).alloc o) := by
  have hn : ¬ Bl u w.heap.size := fun k => by have := ho.2 _ k; omega
  have hs := h.bel.size
  exact ⟨⟨own_below (own_set (own_set (own_set (own_set (own_set ho.1 hn _ _) hn _ _) hn _ _) hn _ _) hn _ _) ((Below.refl _ _).alloc (Nat.le_refl _) _), fun k hk => by have := ho.2 k hk; omega⟩,
   (((((h.bel.setCell (Nat.le_refl _) _).setCell (Nat.le_refl _) _).setCell (Nat.le_refl _) _).setCell (Nat.le_refl _) _).setCell (Nat.le_refl _) _).alloc (by simpa [World.setCell] using hs) _⟩
theorem Fd.fin2 {D : List Oq} {w W : World} {L : Value} (h : Fd D w L W) (a0 a1 a2 a3 a4 : Value) :
    Below w.heap.size w (((((W.setCell ⟨w.heap.size, 0, none⟩ a0).setCell ⟨w.heap.size, 1, none⟩ a1).setCell ⟨w.heap.size, 2, none⟩ a2).setCell ⟨w.heap.size, 3, none⟩ a3).setCell ⟨w.heap.size, 4, none⟩ a4) :=
  ((((h.bel.setCell (Nat.le_refl _) _).setCell (Nat.le_refl _) _).setCell (Nat.le_refl _) _).setCell (Nat.le_refl _) _).setCell (Nat.le_refl _) _
theorem find_at {D : List Oq} {p : Oq → Bool} {k : Nat} (hk : k < D.length) (h : ∀ j, j < k → p (D.getD j zq) = false) (hp : p (D.getD k zq) = true) : D.find? p = some (D.getD k zq) := by
  induction D generalizing k with
  | nil => simp at hk
  | cons x D ih =>
    cases k with
    | zero => rw [List.find?_cons]; simp [List.getD] at hp ⊢; rw [hp]
    | succ k =>
      have h0 := h 0 (by omega)
      simp only [List.getD_cons_zero] at h0
      rw [List.find?_cons, h0]
      simp only [List.getD_cons_succ] at hp ⊢
      exact ih (by simpa using hk) (fun j hj => by have := h (j + 1) (by omega); simpa only [List.getD_cons_succ] using this) hp
theorem find_not {D : List Oq} {p : Oq → Bool} (h : ∀ j, j < D.length → p (D.getD j zq) = false) : D.find? p = none := by
  rw [List.find?_eq_none]
  intro x hx
  obtain ⟨j, hj, rfl⟩ := List.mem_iff_getElem.1 hx
  have := h j hj
  simp [List.getD, hj] at this
  simp [this]

theorem lt_of_cell {W : World} {r k : Nat} {v : Value} (h : W.cell? ⟨r, k, none⟩ = some v) : r < W.heap.size := World.block_lt_of_cell? _ _ h





end Go.Proofs.YteohkobdmkbcpaaGreatDoor.Tl.Ia

/- The document's own reckoning of layer 10: Same, of two that are the same. -/
namespace Go.Proofs.YteohkobdmkbcpaaGreatDoor.Tl.Ia
open Go.RowKit

theorem ro_at {w : World} {r n c : Nat} {xs : List (Int × Int)} (h : Ro w (.slice (some ⟨r, 0, none⟩) n c) xs) (k : Nat) (hk : k < xs.length) :
    w.cell? ⟨r, k * 2, none⟩ = some (.int .u8 (opn xs k).1) ∧ w.cell? ⟨r, k * 2 + 1, none⟩ = some (.int .i64 (opn xs k).2) := by
  rcases own_shape h with ⟨h, _⟩ | ⟨r', cap', e1, _, _, _, hc, _⟩
  · cases h
  · injection e1 with e1 _ _
    injection e1 with e1
    injection e1 with e1
    subst e1
    exact ⟨hc _ _ (cop_get0 xs k hk), hc _ _ (cop_get1 xs k hk)⟩
/-- A slice of operands: none, or at a block. -/
theorem ro_some {w : World} {u : Value} {xs : List (Int × Int)} (h : Ro w u xs) (h0 : xs.length ≠ 0) : ∃ r c, u = .slice (some ⟨r, 0, none⟩) xs.length c ∧ r < w.heap.size := by
  rcases own_shape h with ⟨_, h1⟩ | ⟨r, cap, e, hr⟩
  · exact absurd h1 h0
  · refine ⟨r, cap, e, ?_⟩
    have := own_lo h r (by rw [e]; simp [Bl, Value.ownBlock])
    exact this

/-- Two instructions, boxed. -/
structure Sa (w : World) (x : Oq) (u v : Value) (W : World) : Prop where
  one : Bk W w.heap.size 109 (x.cells u)
  two : Bk W (w.heap.size + 1) 109 (x.cells v)
  ou : Ro W u x.ops
  ov : Ro W v x.ops
  bel : Below w.heap.size w W
theorem Sa.first {w : World} {x : Oq} {u v : Value} (hu : Ro w u x.ops) (hv : Ro w v x.ops) : Sa w x u v ((w.alloc (.cells (x.cells u).toArray 109)).alloc (.cells (x.cells v).toArray 109)) := by
  have b1 : Below w.heap.size w (w.alloc (.cells (x.cells u).toArray 109)) := (Below.refl _ _).alloc (Nat.le_refl _) _
  have b2 : ∀ (W : World) o, Below W.heap.size W (W.alloc o) := fun W o => (Below.refl _ _).alloc (Nat.le_refl _) _
  have hs : (w.alloc (.cells (x.cells u).toArray 109)).heap.size = w.heap.size + 1 := by show (w.heap.push _).size = _; rw [Array.size_push]
  refine ⟨(Bk.new w _ _).below (b2 _ _), ?_, own_below (own_below hu b1) (b2 _ _), own_below (own_below hv b1) (b2 _ _), bel2 b1 (b2 _ _)⟩
  have := Bk.new (w.alloc (.cells (x.cells u).toArray 109)) 109 (x.cells v)
  rw [hs] at this
  exact this
theorem Sa.drew {w W : World} {x : Oq} {u v : Value} (h : Sa w x u v W) : Sa w x u v W.drew :=
  ⟨h.one.drew, h.two.drew, own_below h.ou ((Below.refl _ _).drew), own_below h.ov ((Below.refl _ _).drew), h.bel.drew⟩



end Go.Proofs.YteohkobdmkbcpaaGreatDoor.Tl.Ia

/- The instructions written out: the document's, and by their codes names and shapes; what the document finds by a code and by a name. -/
namespace Go.Proofs.YteohkobdmkbcpaaGreatDoor.Tl.Ia
open Go.RowKit

/-- The document's instructions, written out. -/
def lit : List Oq := [⟨0, [72, 65, 76, 84], 1, 0, []⟩,
  ⟨1, [78, 79, 80], 2, 0, []⟩,
  ⟨2, [82, 69, 73], 3, 0, []⟩,
  ⟨3, [66, 80, 84], 4, 0, []⟩,
  ⟨4, [82, 69, 84], 5, 0, []⟩,
  ⟨5, [82, 83, 66], 6, 0, []⟩,
  ⟨16, [66, 83, 66, 66], 7, 0, [(98, 1)]⟩,
  ⟨48, [66, 83, 66, 87], 7, 0, [(98, 2)]⟩,
  ⟨17, [66, 82, 66], 8, 0, [(98, 1)]⟩,
  ⟨49, [66, 82, 87], 8, 0, [(98, 2)]⟩,
  ⟨22, [74, 83, 66], 10, 0, [(97, 1)]⟩,
  ⟨23, [74, 77, 80], 11, 0, [(97, 1)]⟩,
  ⟨18, [66, 78, 69, 81], 9, 0, [(98, 1)]⟩,
  ⟨19, [66, 69, 81, 76], 9, 0, [(98, 1)]⟩,
  ⟨20, [66, 71, 84, 82], 9, 0, [(98, 1)]⟩,
  ⟨21, [66, 76, 69, 81], 9, 0, [(98, 1)]⟩,
  ⟨24, [66, 71, 69, 81], 9, 0, [(98, 1)]⟩,
  ⟨25, [66, 76, 83, 83], 9, 0, [(98, 1)]⟩,
  ⟨26, [66, 71, 84, 82, 85], 9, 0, [(98, 1)]⟩,
  ⟨27, [66, 76, 69, 81, 85], 9, 0, [(98, 1)]⟩,
  ⟨28, [66, 86, 67], 9, 0, [(98, 1)]⟩,
  ⟨29, [66, 86, 83], 9, 0, [(98, 1)]⟩,
  ⟨30, [66, 67, 67], 9, 0, [(98, 1)]⟩,
  ⟨31, [66, 67, 83], 9, 0, [(98, 1)]⟩,
  ⟨40, [77, 79, 86, 67, 51], 40, 0, [(114, 2), (97, 1), (97, 1)]⟩,
  ⟨41, [67, 77, 80, 67, 51], 42, 0, [(114, 2), (97, 1), (97, 1)]⟩,
  ⟨44, [77, 79, 86, 67, 53], 41, 0, [(114, 2), (97, 1), (114, 1), (114, 2), (97, 1)]⟩,
  ⟨45, [67, 77, 80, 67, 53], 43, 0, [(114, 2), (97, 1), (114, 1), (114, 2), (97, 1)]⟩,
  ⟨58, [76, 79, 67, 67], 44, 0, [(114, 1), (114, 2), (97, 1)]⟩,
  ⟨59, [83, 75, 80, 67], 45, 0, [(114, 1), (114, 2), (97, 1)]⟩,
  ⟨50, [67, 86, 84, 87, 76], 18, 0, [(114, 2), (119, 4)]⟩,
  ⟨51, [67, 86, 84, 87, 66], 18, 0, [(114, 2), (119, 1)]⟩,
  ⟨152, [67, 86, 84, 66, 76], 18, 0, [(114, 1), (119, 4)]⟩,
  ⟨153, [67, 86, 84, 66, 87], 18, 0, [(114, 1), (119, 2)]⟩,
  ⟨246, [67, 86, 84, 76, 66], 18, 0, [(114, 4), (119, 1)]⟩,
  ⟨247, [67, 86, 84, 76, 87], 18, 0, [(114, 4), (119, 2)]⟩,
  ⟨60, [77, 79, 86, 90, 87, 76], 19, 0, [(114, 2), (119, 4)]⟩,
  ⟨154, [77, 79, 86, 90, 66, 76], 19, 0, [(114, 1), (119, 4)]⟩,
  ⟨155, [77, 79, 86, 90, 66, 87], 19, 0, [(114, 1), (119, 2)]⟩,
  ⟨120, [65, 83, 72, 76], 23, 0, [(114, 1), (114, 4), (119, 4)]⟩,
  ⟨156, [82, 79, 84, 76], 24, 0, [(114, 1), (114, 4), (119, 4)]⟩,
  ⟨158, [77, 79, 86, 65, 66], 20, 0, [(97, 1), (119, 4)]⟩,
  ⟨190, [77, 79, 86, 65, 87], 20, 0, [(97, 2), (119, 4)]⟩,
  ⟨222, [77, 79, 86, 65, 76], 20, 0, [(97, 4), (119, 4)]⟩,
  ⟨159, [80, 85, 83, 72, 65, 66], 21, 0, [(97, 1)]⟩,
  ⟨191, [80, 85, 83, 72, 65, 87], 21, 0, [(97, 2)]⟩,
  ⟨223, [80, 85, 83, 72, 65, 76], 21, 0, [(97, 4)]⟩,
  ⟨221, [80, 85, 83, 72, 76], 22, 0, [(114, 4)]⟩,
  ⟨184, [66, 73, 83, 80, 83, 87], 35, 0, [(114, 2)]⟩,
  ⟨185, [66, 73, 67, 80, 83, 87], 36, 0, [(114, 2)]⟩,
  ⟨186, [80, 79, 80, 82], 33, 0, [(114, 2)]⟩,
  ⟨187, [80, 85, 83, 72, 82], 32, 0, [(114, 2)]⟩,
  ⟨188, [67, 72, 77, 75], 37, 0, [(114, 2)]⟩,
  ⟨218, [77, 84, 80, 82], 38, 0, [(114, 4), (114, 4)]⟩,
  ⟨219, [77, 70, 80, 82], 39, 0, [(114, 4), (119, 4)]⟩,
  ⟨220, [77, 79, 86, 80, 83, 76], 34, 0, [(119, 4)]⟩,
  ⟨216, [65, 68, 87, 67], 14, 8, [(114, 4), (109, 4)]⟩,
  ⟨217, [83, 66, 87, 67], 14, 9, [(114, 4), (109, 4)]⟩,
  ⟨224, [66, 66, 83], 26, 1, [(114, 4), (118, 1), (98, 1)]⟩,
  ⟨225, [66, 66, 67], 26, 0, [(114, 4), (118, 1), (98, 1)]⟩,
  ⟨232, [66, 76, 66, 83], 25, 1, [(114, 4), (98, 1)]⟩,
  ⟨233, [66, 76, 66, 67], 25, 0, [(114, 4), (98, 1)]⟩,
  ⟨238, [69, 88, 84, 86], 29, 1, [(114, 4), (114, 1), (118, 1), (119, 4)]⟩,
  ⟨239, [69, 88, 84, 90, 86], 29, 0, [(114, 4), (114, 1), (118, 1), (119, 4)]⟩,
  ⟨240, [73, 78, 83, 86], 30, 0, [(114, 4), (114, 4), (114, 1), (118, 1)]⟩,
  ⟨242, [65, 79, 66, 76, 83, 83], 27, 0, [(114, 4), (109, 4), (98, 1)]⟩,
  ⟨243, [65, 79, 66, 76, 69, 81], 27, 1, [(114, 4), (109, 4), (98, 1)]⟩,
  ⟨244, [83, 79, 66, 71, 69, 81], 28, 1, [(109, 4), (98, 1)]⟩,
  ⟨245, [83, 79, 66, 71, 84, 82], 28, 0, [(109, 4), (98, 1)]⟩,
  ⟨251, [67, 65, 76, 76, 83], 31, 0, [(114, 4), (97, 1)]⟩,
  ⟨128, [65, 68, 68, 66, 50], 14, 6, [(114, 1), (109, 1)]⟩,
  ⟨129, [65, 68, 68, 66, 51], 15, 6, [(114, 1), (114, 1), (119, 1)]⟩,
  ⟨130, [83, 85, 66, 66, 50], 14, 7, [(114, 1), (109, 1)]⟩,
  ⟨131, [83, 85, 66, 66, 51], 15, 7, [(114, 1), (114, 1), (119, 1)]⟩,
  ⟨132, [77, 85, 76, 66, 50], 14, 10, [(114, 1), (109, 1)]⟩,
  ⟨133, [77, 85, 76, 66, 51], 15, 10, [(114, 1), (114, 1), (119, 1)]⟩,
  ⟨134, [68, 73, 86, 66, 50], 14, 11, [(114, 1), (109, 1)]⟩,
  ⟨135, [68, 73, 86, 66, 51], 15, 11, [(114, 1), (114, 1), (119, 1)]⟩,
  ⟨136, [66, 73, 83, 66, 50], 14, 12, [(114, 1), (109, 1)]⟩,
  ⟨137, [66, 73, 83, 66, 51], 15, 12, [(114, 1), (114, 1), (119, 1)]⟩,
  ⟨138, [66, 73, 67, 66, 50], 14, 13, [(114, 1), (109, 1)]⟩,
  ⟨139, [66, 73, 67, 66, 51], 15, 13, [(114, 1), (114, 1), (119, 1)]⟩,
  ⟨140, [88, 79, 82, 66, 50], 14, 14, [(114, 1), (109, 1)]⟩,
  ⟨141, [88, 79, 82, 66, 51], 15, 14, [(114, 1), (114, 1), (119, 1)]⟩,
  ⟨142, [77, 78, 69, 71, 66], 12, 3, [(114, 1), (119, 1)]⟩,
  ⟨144, [77, 79, 86, 66], 12, 1, [(114, 1), (119, 1)]⟩,
  ⟨145, [67, 77, 80, 66], 17, 16, [(114, 1), (114, 1)]⟩,
  ⟨146, [77, 67, 79, 77, 66], 12, 2, [(114, 1), (119, 1)]⟩,
  ⟨147, [66, 73, 84, 66], 17, 15, [(114, 1), (114, 1)]⟩,
  ⟨148, [67, 76, 82, 66], 13, 18, [(119, 1)]⟩,
  ⟨149, [84, 83, 84, 66], 16, 17, [(114, 1)]⟩,
  ⟨150, [73, 78, 67, 66], 13, 4, [(109, 1)]⟩,
  ⟨151, [68, 69, 67, 66], 13, 5, [(109, 1)]⟩,
  ⟨160, [65, 68, 68, 87, 50], 14, 6, [(114, 2), (109, 2)]⟩,
  ⟨161, [65, 68, 68, 87, 51], 15, 6, [(114, 2), (114, 2), (119, 2)]⟩,
  ⟨162, [83, 85, 66, 87, 50], 14, 7, [(114, 2), (109, 2)]⟩,
  ⟨163, [83, 85, 66, 87, 51], 15, 7, [(114, 2), (114, 2), (119, 2)]⟩,
  ⟨164, [77, 85, 76, 87, 50], 14, 10, [(114, 2), (109, 2)]⟩,
  ⟨165, [77, 85, 76, 87, 51], 15, 10, [(114, 2), (114, 2), (119, 2)]⟩,
  ⟨166, [68, 73, 86, 87, 50], 14, 11, [(114, 2), (109, 2)]⟩,
  ⟨167, [68, 73, 86, 87, 51], 15, 11, [(114, 2), (114, 2), (119, 2)]⟩,
  ⟨168, [66, 73, 83, 87, 50], 14, 12, [(114, 2), (109, 2)]⟩,
  ⟨169, [66, 73, 83, 87, 51], 15, 12, [(114, 2), (114, 2), (119, 2)]⟩,
  ⟨170, [66, 73, 67, 87, 50], 14, 13, [(114, 2), (109, 2)]⟩,
  ⟨171, [66, 73, 67, 87, 51], 15, 13, [(114, 2), (114, 2), (119, 2)]⟩,
  ⟨172, [88, 79, 82, 87, 50], 14, 14, [(114, 2), (109, 2)]⟩,
  ⟨173, [88, 79, 82, 87, 51], 15, 14, [(114, 2), (114, 2), (119, 2)]⟩,
  ⟨174, [77, 78, 69, 71, 87], 12, 3, [(114, 2), (119, 2)]⟩,
  ⟨176, [77, 79, 86, 87], 12, 1, [(114, 2), (119, 2)]⟩,
  ⟨177, [67, 77, 80, 87], 17, 16, [(114, 2), (114, 2)]⟩,
  ⟨178, [77, 67, 79, 77, 87], 12, 2, [(114, 2), (119, 2)]⟩,
  ⟨179, [66, 73, 84, 87], 17, 15, [(114, 2), (114, 2)]⟩,
  ⟨180, [67, 76, 82, 87], 13, 18, [(119, 2)]⟩,
  ⟨181, [84, 83, 84, 87], 16, 17, [(114, 2)]⟩,
  ⟨182, [73, 78, 67, 87], 13, 4, [(109, 2)]⟩,
  ⟨183, [68, 69, 67, 87], 13, 5, [(109, 2)]⟩,
  ⟨192, [65, 68, 68, 76, 50], 14, 6, [(114, 4), (109, 4)]⟩,
  ⟨193, [65, 68, 68, 76, 51], 15, 6, [(114, 4), (114, 4), (119, 4)]⟩,
  ⟨194, [83, 85, 66, 76, 50], 14, 7, [(114, 4), (109, 4)]⟩,
  ⟨195, [83, 85, 66, 76, 51], 15, 7, [(114, 4), (114, 4), (119, 4)]⟩,
  ⟨196, [77, 85, 76, 76, 50], 14, 10, [(114, 4), (109, 4)]⟩,
  ⟨197, [77, 85, 76, 76, 51], 15, 10, [(114, 4), (114, 4), (119, 4)]⟩,
  ⟨198, [68, 73, 86, 76, 50], 14, 11, [(114, 4), (109, 4)]⟩,
  ⟨199, [68, 73, 86, 76, 51], 15, 11, [(114, 4), (114, 4), (119, 4)]⟩,
  ⟨200, [66, 73, 83, 76, 50], 14, 12, [(114, 4), (109, 4)]⟩,
  ⟨201, [66, 73, 83, 76, 51], 15, 12, [(114, 4), (114, 4), (119, 4)]⟩,
  ⟨202, [66, 73, 67, 76, 50], 14, 13, [(114, 4), (109, 4)]⟩,
  ⟨203, [66, 73, 67, 76, 51], 15, 13, [(114, 4), (114, 4), (119, 4)]⟩,
  ⟨204, [88, 79, 82, 76, 50], 14, 14, [(114, 4), (109, 4)]⟩,
  ⟨205, [88, 79, 82, 76, 51], 15, 14, [(114, 4), (114, 4), (119, 4)]⟩,
  ⟨206, [77, 78, 69, 71, 76], 12, 3, [(114, 4), (119, 4)]⟩,
  ⟨208, [77, 79, 86, 76], 12, 1, [(114, 4), (119, 4)]⟩,
  ⟨209, [67, 77, 80, 76], 17, 16, [(114, 4), (114, 4)]⟩,
  ⟨210, [77, 67, 79, 77, 76], 12, 2, [(114, 4), (119, 4)]⟩,
  ⟨211, [66, 73, 84, 76], 17, 15, [(114, 4), (114, 4)]⟩,
  ⟨212, [67, 76, 82, 76], 13, 18, [(119, 4)]⟩,
  ⟨213, [84, 83, 84, 76], 16, 17, [(114, 4)]⟩,
  ⟨214, [73, 78, 67, 76], 13, 4, [(109, 4)]⟩,
  ⟨215, [68, 69, 67, 76], 13, 5, [(109, 4)]⟩]
/-- The names by their codes; empty: there is none. -/
def nms : List (List UInt8) := [[72, 65, 76, 84],
  [78, 79, 80],
  [82, 69, 73],
  [66, 80, 84],
  [82, 69, 84],
  [82, 83, 66],
  [],
  [],
  [],
  [],
  [],
  [],
  [],
  [],
  [],
  [],
  [66, 83, 66, 66],
  [66, 82, 66],
  [66, 78, 69, 81],
  [66, 69, 81, 76],
  [66, 71, 84, 82],
  [66, 76, 69, 81],
  [74, 83, 66],
  [74, 77, 80],
  [66, 71, 69, 81],
  [66, 76, 83, 83],
  [66, 71, 84, 82, 85],
  [66, 76, 69, 81, 85],
  [66, 86, 67],
  [66, 86, 83],
  [66, 67, 67],
  [66, 67, 83],
  [],
  [],
  [],
  [],
  [],
  [],
  [],
  [],
  [77, 79, 86, 67, 51],
  [67, 77, 80, 67, 51],
  [],
  [],
  [77, 79, 86, 67, 53],
  [67, 77, 80, 67, 53],
  [],
  [],
  [66, 83, 66, 87],
  [66, 82, 87],
  [67, 86, 84, 87, 76],
  [67, 86, 84, 87, 66],
  [],
  [],
  [],
  [],
  [],
  [],
  [76, 79, 67, 67],
  [83, 75, 80, 67],
  [77, 79, 86, 90, 87, 76],
  [],
  [],
  [],
  [],
  [],
  [],
  [],
  [],
  [],
  [],
  [],
  [],
  [],
  [],
  [],
  [],
  [],
  [],
  [],
  [],
  [],
  [],
  [],
  [],
  [],
  [],
  [],
  [],
  [],
  [],
  [],
  [],
  [],
  [],
  [],
  [],
  [],
  [],
  [],
  [],
  [],
  [],
  [],
  [],
  [],
  [],
  [],
  [],
  [],
  [],
  [],
  [],
  [],
  [],
  [],
  [],
  [],
  [],
  [],
  [65, 83, 72, 76],
  [],
  [],
  [],
  [],
  [],
  [],
  [],
  [65, 68, 68, 66, 50],
  [65, 68, 68, 66, 51],
  [83, 85, 66, 66, 50],
  [83, 85, 66, 66, 51],
  [77, 85, 76, 66, 50],
  [77, 85, 76, 66, 51],
  [68, 73, 86, 66, 50],
  [68, 73, 86, 66, 51],
  [66, 73, 83, 66, 50],
  [66, 73, 83, 66, 51],
  [66, 73, 67, 66, 50],
  [66, 73, 67, 66, 51],
  [88, 79, 82, 66, 50],
  [88, 79, 82, 66, 51],
  [77, 78, 69, 71, 66],
  [],
  [77, 79, 86, 66],
  [67, 77, 80, 66],
  [77, 67, 79, 77, 66],
  [66, 73, 84, 66],
  [67, 76, 82, 66],
  [84, 83, 84, 66],
  [73, 78, 67, 66],
  [68, 69, 67, 66],
  [67, 86, 84, 66, 76],
  [67, 86, 84, 66, 87],
  [77, 79, 86, 90, 66, 76],
  [77, 79, 86, 90, 66, 87],
  [82, 79, 84, 76],
  [],
  [77, 79, 86, 65, 66],
  [80, 85, 83, 72, 65, 66],
  [65, 68, 68, 87, 50],
  [65, 68, 68, 87, 51],
  [83, 85, 66, 87, 50],
  [83, 85, 66, 87, 51],
  [77, 85, 76, 87, 50],
  [77, 85, 76, 87, 51],
  [68, 73, 86, 87, 50],
  [68, 73, 86, 87, 51],
  [66, 73, 83, 87, 50],
  [66, 73, 83, 87, 51],
  [66, 73, 67, 87, 50],
  [66, 73, 67, 87, 51],
  [88, 79, 82, 87, 50],
  [88, 79, 82, 87, 51],
  [77, 78, 69, 71, 87],
  [],
  [77, 79, 86, 87],
  [67, 77, 80, 87],
  [77, 67, 79, 77, 87],
  [66, 73, 84, 87],
  [67, 76, 82, 87],
  [84, 83, 84, 87],
  [73, 78, 67, 87],
  [68, 69, 67, 87],
  [66, 73, 83, 80, 83, 87],
  [66, 73, 67, 80, 83, 87],
  [80, 79, 80, 82],
  [80, 85, 83, 72, 82],
  [67, 72, 77, 75],
  [],
  [77, 79, 86, 65, 87],
  [80, 85, 83, 72, 65, 87],
  [65, 68, 68, 76, 50],
  [65, 68, 68, 76, 51],
  [83, 85, 66, 76, 50],
  [83, 85, 66, 76, 51],
  [77, 85, 76, 76, 50],
  [77, 85, 76, 76, 51],
  [68, 73, 86, 76, 50],
  [68, 73, 86, 76, 51],
  [66, 73, 83, 76, 50],
  [66, 73, 83, 76, 51],
  [66, 73, 67, 76, 50],
  [66, 73, 67, 76, 51],
  [88, 79, 82, 76, 50],
  [88, 79, 82, 76, 51],
  [77, 78, 69, 71, 76],
  [],
  [77, 79, 86, 76],
  [67, 77, 80, 76],
  [77, 67, 79, 77, 76],
  [66, 73, 84, 76],
  [67, 76, 82, 76],
  [84, 83, 84, 76],
  [73, 78, 67, 76],
  [68, 69, 67, 76],
  [65, 68, 87, 67],
  [83, 66, 87, 67],
  [77, 84, 80, 82],
  [77, 70, 80, 82],
  [77, 79, 86, 80, 83, 76],
  [80, 85, 83, 72, 76],
  [77, 79, 86, 65, 76],
  [80, 85, 83, 72, 65, 76],
  [66, 66, 83],
  [66, 66, 67],
  [],
  [],
  [],
  [],
  [],
  [],
  [66, 76, 66, 83],
  [66, 76, 66, 67],
  [],
  [],
  [],
  [],
  [69, 88, 84, 86],
  [69, 88, 84, 90, 86],
  [73, 78, 83, 86],
  [],
  [65, 79, 66, 76, 83, 83],
  [65, 79, 66, 76, 69, 81],
  [83, 79, 66, 71, 69, 81],
  [83, 79, 66, 71, 84, 82],
  [67, 86, 84, 76, 66],
  [67, 86, 84, 76, 87],
  [],
  [],
  [],
  [67, 65, 76, 76, 83],
  [],
  [],
  [],
  []]
/-- The classes, what the ALU does, the letters of the operands. -/
def shs : List (Int × Int × List UInt8) := [(1, 0, []),
  (2, 0, []),
  (3, 0, []),
  (4, 0, []),
  (5, 0, []),
  (6, 0, []),
  (0, 0, []),
  (0, 0, []),
  (0, 0, []),
  (0, 0, []),
  (0, 0, []),
  (0, 0, []),
  (0, 0, []),
  (0, 0, []),
  (0, 0, []),
  (0, 0, []),
  (7, 0, [98, 98]),
  (8, 0, [98, 98]),
  (9, 0, [98, 98]),
  (9, 0, [98, 98]),
  (9, 0, [98, 98]),
  (9, 0, [98, 98]),
  (10, 0, [97, 98]),
  (11, 0, [97, 98]),
  (9, 0, [98, 98]),
  (9, 0, [98, 98]),
  (9, 0, [98, 98]),
  (9, 0, [98, 98]),
  (9, 0, [98, 98]),
  (9, 0, [98, 98]),
  (9, 0, [98, 98]),
  (9, 0, [98, 98]),
  (0, 0, []),
  (0, 0, []),
  (0, 0, []),
  (0, 0, []),
  (0, 0, []),
  (0, 0, []),
  (0, 0, []),
  (0, 0, []),
  (40, 0, [114, 119, 97, 98, 97, 98]),
  (42, 0, [114, 119, 97, 98, 97, 98]),
  (0, 0, []),
  (0, 0, []),
  (41, 0, [114, 119, 97, 98, 114, 98, 114, 119, 97, 98]),
  (43, 0, [114, 119, 97, 98, 114, 98, 114, 119, 97, 98]),
  (0, 0, []),
  (0, 0, []),
  (7, 0, [98, 119]),
  (8, 0, [98, 119]),
  (18, 0, [114, 119, 119, 108]),
  (18, 0, [114, 119, 119, 98]),
  (0, 0, []),
  (0, 0, []),
  (0, 0, []),
  (0, 0, []),
  (0, 0, []),
  (0, 0, []),
  (44, 0, [114, 98, 114, 119, 97, 98]),
  (45, 0, [114, 98, 114, 119, 97, 98]),
  (19, 0, [114, 119, 119, 108]),
  (0, 0, []),
  (0, 0, []),
  (0, 0, []),
  (0, 0, []),
  (0, 0, []),
  (0, 0, []),
  (0, 0, []),
  (0, 0, []),
  (0, 0, []),
  (0, 0, []),
  (0, 0, []),
  (0, 0, []),
  (0, 0, []),
  (0, 0, []),
  (0, 0, []),
  (0, 0, []),
  (0, 0, []),
  (0, 0, []),
  (0, 0, []),
  (0, 0, []),
  (0, 0, []),
  (0, 0, []),
  (0, 0, []),
  (0, 0, []),
  (0, 0, []),
  (0, 0, []),
  (0, 0, []),
  (0, 0, []),
  (0, 0, []),
  (0, 0, []),
  (0, 0, []),
  (0, 0, []),
  (0, 0, []),
  (0, 0, []),
  (0, 0, []),
  (0, 0, []),
  (0, 0, []),
  (0, 0, []),
  (0, 0, []),
  (0, 0, []),
  (0, 0, []),
  (0, 0, []),
  (0, 0, []),
  (0, 0, []),
  (0, 0, []),
  (0, 0, []),
  (0, 0, []),
  (0, 0, []),
  (0, 0, []),
  (0, 0, []),
  (0, 0, []),
  (0, 0, []),
  (0, 0, []),
  (0, 0, []),
  (0, 0, []),
  (0, 0, []),
  (0, 0, []),
  (0, 0, []),
  (0, 0, []),
  (23, 0, [114, 98, 114, 108, 119, 108]),
  (0, 0, []),
  (0, 0, []),
  (0, 0, []),
  (0, 0, []),
  (0, 0, []),
  (0, 0, []),
  (0, 0, []),
  (14, 6, [114, 98, 109, 98]),
  (15, 6, [114, 98, 114, 98, 119, 98]),
  (14, 7, [114, 98, 109, 98]),
  (15, 7, [114, 98, 114, 98, 119, 98]),
  (14, 10, [114, 98, 109, 98]),
  (15, 10, [114, 98, 114, 98, 119, 98]),
  (14, 11, [114, 98, 109, 98]),
  (15, 11, [114, 98, 114, 98, 119, 98]),
  (14, 12, [114, 98, 109, 98]),
  (15, 12, [114, 98, 114, 98, 119, 98]),
  (14, 13, [114, 98, 109, 98]),
  (15, 13, [114, 98, 114, 98, 119, 98]),
  (14, 14, [114, 98, 109, 98]),
  (15, 14, [114, 98, 114, 98, 119, 98]),
  (12, 3, [114, 98, 119, 98]),
  (0, 0, []),
  (12, 1, [114, 98, 119, 98]),
  (17, 16, [114, 98, 114, 98]),
  (12, 2, [114, 98, 119, 98]),
  (17, 15, [114, 98, 114, 98]),
  (13, 18, [119, 98]),
  (16, 17, [114, 98]),
  (13, 4, [109, 98]),
  (13, 5, [109, 98]),
  (18, 0, [114, 98, 119, 108]),
  (18, 0, [114, 98, 119, 119]),
  (19, 0, [114, 98, 119, 108]),
  (19, 0, [114, 98, 119, 119]),
  (24, 0, [114, 98, 114, 108, 119, 108]),
  (0, 0, []),
  (20, 0, [97, 98, 119, 108]),
  (21, 0, [97, 98]),
  (14, 6, [114, 119, 109, 119]),
  (15, 6, [114, 119, 114, 119, 119, 119]),
  (14, 7, [114, 119, 109, 119]),
  (15, 7, [114, 119, 114, 119, 119, 119]),
  (14, 10, [114, 119, 109, 119]),
  (15, 10, [114, 119, 114, 119, 119, 119]),
  (14, 11, [114, 119, 109, 119]),
  (15, 11, [114, 119, 114, 119, 119, 119]),
  (14, 12, [114, 119, 109, 119]),
  (15, 12, [114, 119, 114, 119, 119, 119]),
  (14, 13, [114, 119, 109, 119]),
  (15, 13, [114, 119, 114, 119, 119, 119]),
  (14, 14, [114, 119, 109, 119]),
  (15, 14, [114, 119, 114, 119, 119, 119]),
  (12, 3, [114, 119, 119, 119]),
  (0, 0, []),
  (12, 1, [114, 119, 119, 119]),
  (17, 16, [114, 119, 114, 119]),
  (12, 2, [114, 119, 119, 119]),
  (17, 15, [114, 119, 114, 119]),
  (13, 18, [119, 119]),
  (16, 17, [114, 119]),
  (13, 4, [109, 119]),
  (13, 5, [109, 119]),
  (35, 0, [114, 119]),
  (36, 0, [114, 119]),
  (33, 0, [114, 119]),
  (32, 0, [114, 119]),
  (37, 0, [114, 119]),
  (0, 0, []),
  (20, 0, [97, 119, 119, 108]),
  (21, 0, [97, 119]),
  (14, 6, [114, 108, 109, 108]),
  (15, 6, [114, 108, 114, 108, 119, 108]),
  (14, 7, [114, 108, 109, 108]),
  (15, 7, [114, 108, 114, 108, 119, 108]),
  (14, 10, [114, 108, 109, 108]),
  (15, 10, [114, 108, 114, 108, 119, 108]),
  (14, 11, [114, 108, 109, 108]),
  (15, 11, [114, 108, 114, 108, 119, 108]),
  (14, 12, [114, 108, 109, 108]),
  (15, 12, [114, 108, 114, 108, 119, 108]),
  (14, 13, [114, 108, 109, 108]),
  (15, 13, [114, 108, 114, 108, 119, 108]),
  (14, 14, [114, 108, 109, 108]),
  (15, 14, [114, 108, 114, 108, 119, 108]),
  (12, 3, [114, 108, 119, 108]),
  (0, 0, []),
  (12, 1, [114, 108, 119, 108]),
  (17, 16, [114, 108, 114, 108]),
  (12, 2, [114, 108, 119, 108]),
  (17, 15, [114, 108, 114, 108]),
  (13, 18, [119, 108]),
  (16, 17, [114, 108]),
  (13, 4, [109, 108]),
  (13, 5, [109, 108]),
  (14, 8, [114, 108, 109, 108]),
  (14, 9, [114, 108, 109, 108]),
  (38, 0, [114, 108, 114, 108]),
  (39, 0, [114, 108, 119, 108]),
  (34, 0, [119, 108]),
  (22, 0, [114, 108]),
  (20, 0, [97, 108, 119, 108]),
  (21, 0, [97, 108]),
  (26, 1, [114, 108, 118, 98, 98, 98]),
  (26, 0, [114, 108, 118, 98, 98, 98]),
  (0, 0, []),
  (0, 0, []),
  (0, 0, []),
  (0, 0, []),
  (0, 0, []),
  (0, 0, []),
  (25, 1, [114, 108, 98, 98]),
  (25, 0, [114, 108, 98, 98]),
  (0, 0, []),
  (0, 0, []),
  (0, 0, []),
  (0, 0, []),
  (29, 1, [114, 108, 114, 98, 118, 98, 119, 108]),
  (29, 0, [114, 108, 114, 98, 118, 98, 119, 108]),
  (30, 0, [114, 108, 114, 108, 114, 98, 118, 98]),
  (0, 0, []),
  (27, 0, [114, 108, 109, 108, 98, 98]),
  (27, 1, [114, 108, 109, 108, 98, 98]),
  (28, 1, [109, 108, 98, 98]),
  (28, 0, [109, 108, 98, 98]),
  (18, 0, [114, 108, 119, 98]),
  (18, 0, [114, 108, 119, 119]),
  (0, 0, []),
  (0, 0, []),
  (0, 0, []),
  (31, 0, [114, 108, 97, 98]),
  (0, 0, []),
  (0, 0, []),
  (0, 0, []),
  (0, 0, [])]

/-- Are two instructions the same? -/
def oeq (x y : Oq) : Bool := decide (x.code = y.code) && (decide (x.name = y.name) && (decide (x.cls = y.cls) && (decide (x.alu = y.alu) && decide (x.ops = y.ops))))
theorem oeq_eq {x y : Oq} (h : oeq x y = true) : x = y := by
  unfold oeq at h
  simp only [Bool.and_eq_true, decide_eq_true_eq] at h
  obtain ⟨h1, h2, h3, h4, h5⟩ := h
  cases x; cases y
  simp only at h1 h2 h3 h4 h5
  subst h1; subst h2; subst h3; subst h4; subst h5
  rfl
def leq : List Oq → List Oq → Bool
  | [], [] => true
  | x :: xs, y :: ys => oeq x y && leq xs ys
  | _, _ => false
theorem leq_eq {xs ys : List Oq} (h : leq xs ys = true) : xs = ys := by
  induction xs generalizing ys with
  | nil => cases ys with
    | nil => rfl
    | cons y ys => cases h
  | cons x xs ih => cases ys with
    | nil => cases h
    | cons y ys =>
      rw [leq, Bool.and_eq_true] at h
      rw [oeq_eq h.1, ih h.2]
theorem docs_lit : docs = lit := leq_eq (by kernel_rfl)

/-- The number of bytes that a letter tells, as the program has it. -/
def szp (c : UInt8) : Int := if c = 98 then 1 else if c = 119 then 2 else 4
/-- Operands of letters. -/
def opl : List UInt8 → List (Int × Int)
  | a :: b :: l => ((a.toNat : Int), szp b) :: opl l
  | _ => []
/-- The name of a code. -/
def nm (code : Int) : List UInt8 := if 0 ≤ code ∧ code < 256 then nms.getD code.toNat [] else []
/-- Its shape. -/
def sh (code : Int) : Int × Int × List UInt8 := shs.getD code.toNat (0, 0, [])
/-- What the program answers of a code. -/
def prg (code : Int) : Oq × Bool := if nm code = [] then (zq, false) else (⟨code, nm code, (sh code).1, (sh code).2.1, opl (sh code).2.2⟩, true)
def peq (a b : Oq × Bool) : Bool := oeq a.1 b.1 && (a.2 == b.2)
theorem peq_eq {a b : Oq × Bool} (h : peq a b = true) : a = b := by
  unfold peq at h
  rw [Bool.and_eq_true] at h
  have h1 := oeq_eq h.1
  have h2 : a.2 = b.2 := by simpa using h.2
  cases a; cases b
  simp only at h1 h2
  rw [h1, h2]

/-- All numbers up to n are so: a test that goes downward. -/
def upto (n : Nat) (p : Nat → Bool) : Bool := match n with
  | 0 => true
  | n + 1 => p n && upto n p
theorem upto_at {n : Nat} {p : Nat → Bool} (h : upto n p = true) (k : Nat) (hk : k < n) : p k = true := by
  induction n with
  | zero => omega
  | succ n ih =>
    rw [upto, Bool.and_eq_true] at h
    by_cases e : k = n
    · rw [e]; exact h.1
    · exact ih h.2 (by omega)
theorem code_all : upto 256 (fun k => peq (prg (k : Int)) (fnd (lit.find? fun x => x.code == (k : Int)))) = true := by kernel_rfl
theorem code_in : lit.all (fun x => decide (0 ≤ x.code) && decide (x.code < 256)) = true := by kernel_rfl
theorem code_prg (code : Int) : fnd (docs.find? fun x => x.code == code) = prg code := by
  rw [docs_lit]
  by_cases h : 0 ≤ code ∧ code < 256
  · obtain ⟨k, rfl⟩ : ∃ k : Nat, code = k := ⟨code.toNat, by omega⟩
    exact (peq_eq (upto_at code_all k (by omega))).symm
  · have e : lit.find? (fun x => x.code == code) = none := by
      rw [List.find?_eq_none]
      intro x hx
      have := List.all_eq_true.1 code_in x hx
      simp only [Bool.and_eq_true, decide_eq_true_eq] at this
      simp
      omega
    rw [e, prg, nm, if_neg h, if_pos rfl]
    rfl
theorem name_all : upto 256 (fun k => decide (nm (k : Int) = []) || peq (prg (k : Int)) (fnd (lit.find? fun x => x.name == nm (k : Int)))) = true := by kernel_rfl
theorem name_in : lit.all (fun x => decide (nm x.code = x.name) && (decide (0 ≤ x.code) && (decide (x.code < 256) && !decide (x.name = [])))) = true := by kernel_rfl
/-- A name that is a code's. -/
theorem name_at (k : Nat) (hk : k < 256) (h : nm (k : Int) ≠ []) : fnd (docs.find? fun x => x.name == nm (k : Int)) = prg k := by
  rw [docs_lit]
  have := upto_at name_all k hk
  rw [Bool.or_eq_true] at this
  rcases this with h' | h'
  · exact absurd (by simpa using h') h
  · exact (peq_eq h').symm
/-- A name that is none's. -/
theorem name_not (n : List UInt8) (h : n = [] ∨ ∀ k : Nat, k < 256 → nm (k : Int) ≠ n) : fnd (docs.find? fun x => x.name == n) = (zq, false) := by
  rw [docs_lit]
  have e : lit.find? (fun x => x.name == n) = none := by
    rw [List.find?_eq_none]
    intro x hx
    have := List.all_eq_true.1 name_in x hx
    simp only [Bool.and_eq_true, decide_eq_true_eq, Bool.not_eq_true', decide_eq_false_iff_not] at this
    obtain ⟨h1, h2, h3, h4⟩ := this
    intro hn
    have hn' : x.name = n := by simpa using hn
    rcases h with h | h
    · exact h4 (hn'.trans h)
    · refine h x.code.toNat (by omega) ?_
      rw [show ((x.code.toNat : Nat) : Int) = x.code by omega, h1, hn']
  rw [e]
  rfl

end Go.Proofs.YteohkobdmkbcpaaGreatDoor.Tl.Ia

/- Contracts of package isa: place, lettered, nameOf, size, String. -/
namespace Go.Proofs.YteohkobdmkbcpaaGreatDoor.Tl.Ia
open Go.RowKit

/-- The family's names. -/
def fam : List (List UInt8) := [[65, 68, 68, 50], [65, 68, 68, 51], [83, 85, 66, 50], [83, 85, 66, 51], [77, 85, 76, 50], [77, 85, 76, 51], [68, 73, 86, 50], [68, 73, 86, 51], [66, 73, 83, 50], [66, 73, 83, 51], [66, 73, 67, 50], [66, 73, 67, 51], [88, 79, 82, 50], [88, 79, 82, 51], [77, 78, 69, 71], [], [77, 79, 86], [67, 77, 80], [77, 67, 79, 77], [66, 73, 84], [67, 76, 82], [84, 83, 84], [73, 78, 67], [68, 69, 67]]
/-- The package's tables as they lie. -/
structure Gl (w : World) : Prop where
  ea : ∀ i, i < 64 → w.cell? ⟨0, i, none⟩ = some (.string (sb (nms.getD i [])))
  la : ∀ i, i < 32 → w.cell? ⟨1, i, none⟩ = some (.string (sb (nms.getD (224 + i) [])))
  od : ∀ i j, i < 4 → j < 8 → w.cell? ⟨2, i * 8 + j, none⟩ = some (.string (sb (nms.getD (120 + 32 * i + j) [])))
  fa : ∀ i, i < 24 → w.cell? ⟨3, i, none⟩ = some (.string (sb (fam.getD i [])))
  ml : ∃ m, w.cell? ⟨4, 0, none⟩ = some (.int .i64 m)
theorem Gl.below {w w' : World} (h : Gl w) (b : Below w.heap.size w w') : Gl w' := by
  have k : ∀ (r i : Nat) (v : Value), w.cell? ⟨r, i, none⟩ = some v → w'.cell? ⟨r, i, none⟩ = some v := fun r i v hc => (b.cell (p := ⟨r, i, none⟩) (lt_of_cell hc)).trans hc
  obtain ⟨m, hm⟩ := h.ml
  exact ⟨fun i hi => k _ _ _ (h.ea i hi), fun i hi => k _ _ _ (h.la i hi), fun i j hi hj => k _ _ _ (h.od i j hi hj), fun i hi => k _ _ _ (h.fa i hi), m, k _ _ _ hm⟩

/-- A family's name with a letter. -/
def lt (l c : List UInt8) : List UInt8 := if l = [] then [] else if l.getD (l.length - 1) 0 = 50 ∨ l.getD (l.length - 1) 0 = 51 then l.take (l.length - 1) ++ c ++ l.drop (l.length - 1) else l ++ c
theorem lt_all : upto 24 (fun a => decide (lt (fam.getD a []) [66] = nms.getD (128 + a) []) && (decide (lt (fam.getD a []) [87] = nms.getD (160 + a) []) && decide (lt (fam.getD a []) [76] = nms.getD (192 + a) []))) = true := by kernel_rfl
theorem gap_all : upto 56 (fun a => decide (nms.getD (64 + a) [] = [])) = true := by kernel_rfl
theorem nms_len : upto 256 (fun a => Nat.ble (nms.getD a []).length 8) = true := by kernel_rfl
theorem fam_len : upto 24 (fun a => Nat.ble (fam.getD a []).length 8) = true := by kernel_rfl

set_option maxHeartbeats 800000 in
set_option maxRecDepth 100000 in
theorem place_any (code : Int) (r a : Nat) (h : code = 96 + 32 * r + a) (hr : r < 4) (ha : a < 32) (w : World) :
    Calls Tryz.prog 139 #[.int .i64 code] w fun e w' => e = .returned (.tuple #[.int .i64 r, .int .i64 a]) ∧ w = w' := by
  have h0 : 96 ≤ code := by omega
  have h1 : code ≤ 223 := by omega
  have H := Lib.hid h
  clear h
  go_enter Tryz.func139, Tryz.ntmps139
  go_wp2
  go_ret2
  have h := H.out
  have e1 : (code - 96) / 32 = r := by omega
  have e2 : (code - 96) % 32 = a := by omega
  refine ⟨?_, rfl⟩
  first | (rw [e1, e2]; done) | (simp only [e1, e2]; done) | (simp [e1, e2])

theorem ret_str {a b : ByteArray} (h : a = b) : Ending.returned (.string a) = .returned (.string b) := by rw [h]
theorem not_empty {s : ByteArray} {n : Nat} (h : s.size = n + 1) : s.toList.isEmpty = false := by
  cases e : s.toList.isEmpty with
  | false => rfl
  | true =>
    have e' : s.toList = [] := List.isEmpty_iff.1 e
    have := (Lib.bytes_beq_iff s ⟨#[]⟩).1 (by rw [e']; decide +kernel)
    rw [this] at h
    cases h

set_option maxHeartbeats 1600000 in
set_option maxRecDepth 100000 in
theorem lettered_any (l c : List UInt8) (hl : l.length ≤ 1000) (hc : c.length ≤ 1000) (w : World) :
    Calls Tryz.prog 140 #[.string (sb l), .string (sb c)] w fun e w' => e = .returned (.string (sb (lt l c))) ∧ ∃ n, w' = w.drewN n := by
  by_cases h0 : l = []
  · subst h0
    go_enter Tryz.func140, Tryz.ntmps140
    go_wp2
    go_ret
    exact ⟨rfl, 0, rfl⟩
  · have hS : (sb l).size = l.length := sb_size l
    have hC : (sb c).size = c.length := sb_size c
    have hg : ∀ k (hk : k < (sb l).size), (sb l)[k] = l.getD k 0 := sb_get l
    have hx : ∀ a b, (sb l).extract a b = sb ((l.drop a).take (b - a)) := sb_extract l
    have he : (l == []) = false := by simpa using h0
    obtain ⟨n, hn⟩ : ∃ n, l.length = n + 1 := ⟨l.length - 1, by have : l.length ≠ 0 := fun h => h0 (List.length_eq_zero_iff.1 h); omega⟩
    have hz : (sb l).size = n + 1 := by omega
    have hz' : n < (sb l).size := by omega
    have hgn := hg n hz'
    have hn1 : n ≤ 1000 := by omega
    have hr : ∀ a b, sb ((l.drop a).take (b - a)) = (sb l).extract a b := fun a b => (hx a b).symm
    have HX := Lib.hid hx
    have HN := Lib.hid hn
    have H0 := Lib.hid h0
    clear hx hn h0 hg hr hS hl
    generalize hs : sb l = s at *
    have HS := Lib.hid hs
    generalize ht : sb c = t at *
    have HT := Lib.hid ht
    clear hs ht
    have hC' : t.size ≤ 1000 := by omega
    clear hC hc
    have hem : s.toList.isEmpty = false := not_empty hz
    by_cases h2 : l.getD n 0 = 50 ∨ l.getD n 0 = 51
    · have HL : Hid (lt l c = l.take n ++ c ++ l.drop n) := by
        show lt l c = _
        have e : l.length - 1 = n := by have := HN.out; omega
        unfold lt
        rw [if_neg H0.out, e, if_pos h2]
      have hb : (s[n].toNat : Int) = 50 ∨ (s[n].toNat : Int) = 51 := by rw [hgn]; rcases h2 with h | h <;> rw [h] <;> decide
      clear hgn h2
      have fin : s.extract 0 n ++ t ++ s.extract n (n + 1) = sb (lt l c) := by
        have := HN.out
        rw [HL.out, HX.out, HX.out, ← HT.out, List.drop_zero, Nat.sub_zero, sb_append, sb_append, show n + 1 - n = (l.drop n).length by simp; omega, List.take_length]
      have FN := Lib.hid fin
      clear fin
      rcases hb with hb | hb
      · have b1 : ((s[n].toNat : Int) == 50) = true := by simpa using hb
        clear hb
        go_enter Tryz.func140, Tryz.ntmps140
        go_wp2
        go_region
        go_wp2
        go_ret
        exact ⟨ret_str FN.out, 1, rfl⟩
      · have b0 : ((s[n].toNat : Int) == 50) = false := by simp [hb]
        have b1 : ((s[n].toNat : Int) == 51) = true := by simpa using hb
        clear hb
        go_enter Tryz.func140, Tryz.ntmps140
        go_wp2
        go_region
        go_wp2
        go_ret
        exact ⟨ret_str FN.out, 1, rfl⟩
    · have HL : Hid (lt l c = l ++ c) := by
        show lt l c = _
        have e : l.length - 1 = n := by have := HN.out; omega
        unfold lt
        rw [if_neg H0.out, e, if_neg h2]
      have hb : ¬ (s[n].toNat : Int) = 50 ∧ ¬ (s[n].toNat : Int) = 51 := by
        rw [hgn]
        generalize l.getD n 0 = x at h2
        constructor
        · intro e; exact h2 (.inl (by rw [← UInt8.toNat_inj]; simp; omega))
        · intro e; exact h2 (.inr (by rw [← UInt8.toNat_inj]; simp; omega))
      have b0 : ((s[n].toNat : Int) == 50) = false := by simp [hb.1]
      have b1 : ((s[n].toNat : Int) == 51) = false := by simp [hb.2]
      clear hb hgn h2
      go_enter Tryz.func140, Tryz.ntmps140
      go_wp2
      go_ret
      exact ⟨ret_str (by rw [HL.out, ← sb_append, HS.out, HT.out]), 0, rfl⟩

theorem nm_at (k : Nat) (hk : k < 256) : nm (k : Int) = nms.getD k [] := by
  unfold nm
  rw [if_pos (by omega)]
  rfl
def NameE (w : World) (l : List UInt8) (e : Ending) (w' : World) : Prop := e = .returned (.string (sb l)) ∧ ∃ n, w' = w.drewN n

set_option maxHeartbeats 3200000 in
set_option maxRecDepth 100000 in
theorem nameOf_any (code : Int) (w : World) (hg : Gl w) : Calls Tryz.prog 81 #[.int .i64 code] w (NameE w (nm code)) := by
  by_cases h0 : code < 0
  · have HM : Hid (nm code = []) := by show nm code = []; unfold nm; rw [if_neg (by omega)]
    clear hg
    go_enter Tryz.func81, Tryz.ntmps81
    go_wp2
    go_ret
    exact ⟨ret_str (congrArg sb HM.out.symm), 0, rfl⟩
  have h0' : 0 ≤ code := by omega
  by_cases h1 : 256 ≤ code
  · have HM : Hid (nm code = []) := by show nm code = []; unfold nm; rw [if_neg (by omega)]
    clear hg
    go_enter Tryz.func81, Tryz.ntmps81
    go_wp2
    go_ret
    exact ⟨ret_str (congrArg sb HM.out.symm), 0, rfl⟩
  obtain ⟨k, rfl⟩ : ∃ k : Nat, code = k := ⟨code.toNat, by omega⟩
  have hk : k < 256 := by omega
  have HM : Hid (nm (k : Int) = nms.getD k []) := nm_at k hk
  clear h0 h1 h0'
  by_cases h64 : k < 64
  · have hc := hg.ea k h64
    clear hg
    generalize nms.getD k [] = l at *
    go_enter Tryz.func81, Tryz.ntmps81
    go_wp2
    go_ret
    exact ⟨ret_str (congrArg sb HM.out.symm), 0, rfl⟩
  have h64' : 64 ≤ k := by omega
  clear h64
  by_cases h96 : k < 96
  · have e : nms.getD k [] = [] := by
      have := upto_at gap_all (k - 64) (by omega)
      rw [show 64 + (k - 64) = k by omega] at this
      simpa using this
    rw [e] at HM
    clear hg e
    go_enter Tryz.func81, Tryz.ntmps81
    go_wp2
    go_ret
    exact ⟨ret_str (congrArg sb HM.out.symm), 0, rfl⟩
  have h96' : 96 ≤ k := by omega
  clear h96 h64'
  by_cases h224 : 224 ≤ k
  · obtain ⟨j, rfl⟩ : ∃ j, k = 224 + j := ⟨k - 224, by omega⟩
    have hc := hg.la j (by omega)
    clear hg
    generalize nms.getD (224 + j) [] = l at *
    have hj : j < 32 := by omega
    have e1 : ((224 + j : Nat) : Int) - 224 = (j : Int) := by omega
    generalize hcd : ((224 + j : Nat) : Int) = code at *
    have c1 : 224 ≤ code := by omega
    have c2 : code < 256 := by omega
    clear hcd h96' h224 hk
    go_enter Tryz.func81, Tryz.ntmps81
    go_wp2
    go_ret
    exact ⟨ret_str (congrArg sb HM.out.symm), 0, rfl⟩
  have h224' : k < 224 := by omega
  clear h224 hk
  obtain ⟨r, a, hr, ha, hka⟩ : ∃ r a, r < 4 ∧ a < 32 ∧ k = 96 + 32 * r + a := ⟨(k - 96) / 32, (k - 96) % 32, by omega, by omega, by omega⟩
  have HP := Lib.hid (fun W => place_any (k : Int) r a (by omega) hr ha W)
  by_cases h24 : 24 ≤ a
  · obtain ⟨j, rfl⟩ : ∃ j, a = 24 + j := ⟨a - 24, by omega⟩
    have hc := hg.od r j hr (by omega)
    rw [show 120 + 32 * r + j = k by omega] at hc
    clear hg hka
    generalize nms.getD k [] = l at *
    have hj : j < 8 := by omega
    have e1 : ((24 + j : Nat) : Int) - 24 = (j : Int) := by omega
    have c0 : (24 : Int) ≤ ((24 + j : Nat) : Int) := by omega
    generalize ((24 + j : Nat) : Int) = aa at *
    clear ha
    go_enter Tryz.func81, Tryz.ntmps81
    go_wp2_with (go_at_call 139; refine (HP.out _).mono ?_; rintro e w' ⟨rfl, rfl⟩)
    go_ret
    exact ⟨ret_str (congrArg sb HM.out.symm), 0, rfl⟩
  have HF : Hid (a < 24) := by show a < 24; omega
  have ha24 : a < 24 := HF.out
  clear ha h24
  have hr0 : r = 0 ∨ r = 1 ∨ r = 2 ∨ r = 3 := by omega
  rcases hr0 with rfl | rfl | rfl | rfl
  · have e : nms.getD k [] = [] := by
      have := upto_at gap_all (k - 64) (by omega)
      rw [show 64 + (k - 64) = k by omega] at this
      simpa using this
    rw [e] at HM
    clear hg e hka hr
    go_enter Tryz.func81, Tryz.ntmps81
    go_wp2_with (go_at_call 139; refine (HP.out _).mono ?_; rintro e w' ⟨rfl, rfl⟩)
    go_ret
    exact ⟨ret_str (congrArg sb HM.out.symm), 0, rfl⟩
  · have hlt := upto_at lt_all a HF.out
    have hfl := upto_at fam_len a HF.out
    simp only [Bool.and_eq_true, decide_eq_true_eq] at hlt
    rw [Nat.ble_eq] at hfl
    have hc := hg.fa a HF.out
    have e : lt (fam.getD a []) [66] = nms.getD k [] := by rw [show k = 128 + a by omega]; exact hlt.1
    rw [← e] at HM
    clear hlt e hg hka hr
    generalize fam.getD a [] = l at *
    have HLT := Lib.hid (fun W => lettered_any l [66] (by omega) (by decide) W)
    have hx : (ByteArray.mk #[66, 87, 76]).extract 0 (0 + 1) = sb [66] := by kernel_rfl
    go_enter Tryz.func81, Tryz.ntmps81
    go_wp2_with (go_at_call 139; refine (HP.out _).mono ?_; rintro e w' ⟨rfl, rfl⟩)
    go_quiet ((go_at_call 140; exact Calls.quiet_of (HLT.out _)))
    go_wp2
    go_ret
    exact ⟨ret_str (congrArg sb HM.out.symm), _, rfl⟩
  · have hlt := upto_at lt_all a HF.out
    have hfl := upto_at fam_len a HF.out
    simp only [Bool.and_eq_true, decide_eq_true_eq] at hlt
    rw [Nat.ble_eq] at hfl
    have hc := hg.fa a HF.out
    have e : lt (fam.getD a []) [87] = nms.getD k [] := by rw [show k = 160 + a by omega]; exact hlt.2.1
    rw [← e] at HM
    clear hlt e hg hka hr
    generalize fam.getD a [] = l at *
    have HLT := Lib.hid (fun W => lettered_any l [87] (by omega) (by decide) W)
    have hx : (ByteArray.mk #[66, 87, 76]).extract 1 (1 + 1) = sb [87] := by kernel_rfl
    go_enter Tryz.func81, Tryz.ntmps81
    go_wp2_with (go_at_call 139; refine (HP.out _).mono ?_; rintro e w' ⟨rfl, rfl⟩)
    go_quiet ((go_at_call 140; exact Calls.quiet_of (HLT.out _)))
    go_wp2
    go_ret
    exact ⟨ret_str (congrArg sb HM.out.symm), _, rfl⟩
  · have hlt := upto_at lt_all a HF.out
    have hfl := upto_at fam_len a HF.out
    simp only [Bool.and_eq_true, decide_eq_true_eq] at hlt
    rw [Nat.ble_eq] at hfl
    have hc := hg.fa a HF.out
    have e : lt (fam.getD a []) [76] = nms.getD k [] := by rw [show k = 192 + a by omega]; exact hlt.2.2
    rw [← e] at HM
    clear hlt e hg hka hr
    generalize fam.getD a [] = l at *
    have HLT := Lib.hid (fun W => lettered_any l [76] (by omega) (by decide) W)
    have hx : (ByteArray.mk #[66, 87, 76]).extract 2 (2 + 1) = sb [76] := by kernel_rfl
    go_enter Tryz.func81, Tryz.ntmps81
    go_wp2_with (go_at_call 139; refine (HP.out _).mono ?_; rintro e w' ⟨rfl, rfl⟩)
    go_quiet ((go_at_call 140; exact Calls.quiet_of (HLT.out _)))
    go_wp2
    go_ret
    exact ⟨ret_str (congrArg sb HM.out.symm), _, rfl⟩

set_option maxHeartbeats 800000 in
set_option maxRecDepth 100000 in
theorem size_any (c : UInt8) (w : World) : Calls Tryz.prog 146 #[.int .u8 (c.toNat : Int)] w fun e w' => e = .returned (.int .i64 (szp c)) ∧ w = w' := by
  have HC : Hid (∀ n : Nat, c.toNat = n → n < 256 → c = UInt8.ofNat n) := fun n h _ => by rw [← h]; simp
  have hb : c.toNat < 256 := UInt8.toNat_lt c
  by_cases h1 : c = 98
  · subst h1
    go_enter Tryz.func146, Tryz.ntmps146
    go_wp2
    go_ret
    exact ⟨rfl, rfl⟩
  by_cases h2 : c = 119
  · subst h2
    go_enter Tryz.func146, Tryz.ntmps146
    go_wp2
    go_ret
    exact ⟨rfl, rfl⟩
  have HS : Hid (szp c = 4) := by show szp c = 4; unfold szp; rw [if_neg h1, if_neg h2]
  have b1 : ((c.toNat : Int) == 98) = false := by
    have : c.toNat ≠ 98 := fun h => h1 (by rw [← UInt8.toNat_inj]; exact h)
    simp; omega
  have b2 : ((c.toNat : Int) == 119) = false := by
    have : c.toNat ≠ 119 := fun h => h2 (by rw [← UInt8.toNat_inj]; exact h)
    simp; omega
  clear h1 h2 HC hb
  generalize (c.toNat : Int) = x at *
  go_enter Tryz.func146, Tryz.ntmps146
  go_wp2
  go_ret
  exact ⟨ret_int HS.out.symm, rfl⟩

/-- Whether a class goes on in steps. -/
def stg (c : Int) : Bool := decide (40 ≤ c) && decide (c ≤ 45)
set_option maxHeartbeats 800000 in
set_option maxRecDepth 100000 in
theorem string_any (c : Int) (w : World) : Calls Tryz.prog 84 #[.int .i64 c] w fun e w' => e = .returned (.bool (stg c)) ∧ w = w' := by
  by_cases h : 40 ≤ c ∧ c ≤ 45
  · have h6 : c = 40 ∨ c = 41 ∨ c = 42 ∨ c = 43 ∨ c = 44 ∨ c = 45 := by omega
    rcases h6 with rfl | rfl | rfl | rfl | rfl | rfl
    all_goals
      clear h
      go_enter Tryz.func84, Tryz.ntmps84
      go_wp2
      go_ret
      exact ⟨rfl, rfl⟩
  · have HS : Hid (stg c = false) := by
      show stg c = false
      unfold stg
      simp
      omega
    have b0 : (c == 40) = false := by simp; omega
    have b1 : (c == 41) = false := by simp; omega
    have b2 : (c == 42) = false := by simp; omega
    have b3 : (c == 43) = false := by simp; omega
    have b4 : (c == 44) = false := by simp; omega
    have b5 : (c == 45) = false := by simp; omega
    clear h
    go_enter Tryz.func84, Tryz.ntmps84
    go_wp2
    go_ret
    exact ⟨by rw [HS.out]; rfl, rfl⟩

end Go.Proofs.YteohkobdmkbcpaaGreatDoor.Tl.Ia
