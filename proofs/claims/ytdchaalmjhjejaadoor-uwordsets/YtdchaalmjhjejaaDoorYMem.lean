/- Words as they lie in the model's world; the package's table of fields; places of a word's parts. No program is walked here. -/
import Derived.Test.YtdchaalmjhjejaaDoorYNum
import Derived.Deep.MidRow
import Derived.Deep.RegionHeld3
import Derived.Laws.StructEq
import Derived.WalkKit
namespace Go.Proofs.YtdchaalmjhjejaaDoor.Cs
open Go.RowKit Tl Tl.Ia

/-- a block of cells of one type -/
def Bk (W : World) (b t : Nat) (l : List Value) : Prop := W.heap[b]? = some (.cells l.toArray t (0, 0))
section
variable {W W' : World} {b b' t : Nat} {l : List Value}
theorem Bk.lt (h : Bk W b t l) : b < W.heap.size := lt_of_heap h
theorem Bk.cell (h : Bk W b t l) (i : Nat) (v : Value) (hv : l[i]? = some v) : W.cell? ⟨b, i, none⟩ = some v := by
  unfold Bk at h; simp [World.cell?, h, hv]
theorem Bk.free (h : Bk W b t l) (i : Nat) : W.frozen? ⟨b, i, none⟩ = false := by
  unfold Bk at h; simp [World.frozen?, h]
theorem Bk.set (h : Bk W b t l) (i : Nat) (v : Value) : Bk (W.setCell ⟨b, i, none⟩ v) b t (l.set i v) := by
  unfold Bk at h ⊢
  simp [World.setCell, Array.getElem?_modify, h]
theorem Bk.other (h : Bk W b t l) (hb : b ≠ b') (i : Nat) (v : Value) : Bk (W.setCell ⟨b', i, none⟩ v) b t l := by
  unfold Bk at h ⊢
  rw [Below.heap_setCell _ _ _ _ hb]; exact h
theorem Bk.alloc (h : Bk W b t l) (o : Obj) : Bk (W.alloc o) b t l := by
  have := h.lt
  unfold Bk at h ⊢
  show (W.heap.push o)[b]? = _
  rw [Array.getElem?_push, if_neg (by omega)]; exact h
theorem Bk.new (W : World) (t : Nat) (l : List Value) : Bk (W.alloc (.cells l.toArray t)) W.heap.size t l := by
  unfold Bk
  show (W.heap.push _)[W.heap.size]? = _
  simp
theorem Bk.below (h : Bk W b t l) (m : Below W.heap.size W W') : Bk W' b t l := (m.block b h.lt).trans h
theorem Bk.range (h : Bk W b t l) (o : Nat) (cs : List Value) (hc : (l.drop o).take cs.length = cs) : W.rangeAt b o cs := fun j v hv => by
  refine h.cell _ _ ?_
  have hj := (List.getElem?_eq_some_iff.1 hv).1
  have e : cs[j]? = l[o + j]? := by
    rw [← hc, List.getElem?_take, if_pos hj, List.getElem?_drop]
  rw [← e]; exact hv
theorem Bk.there (h : Bk W b t l) (o n : Nat) (hn : o + n ≤ l.length) : W.there b o n := fun j hj => by
  refine ⟨?_, h.free _⟩
  rw [h.cell (o + j) _ (List.getElem?_eq_getElem (by omega))]; rfl
theorem Bk.setCells : ∀ (cs : List Value) (o : Nat) {W : World} {l : List Value}, Bk W b t l → Bk (W.setCells b o cs) b t (l.take o ++ cs ++ l.drop (o + cs.length)) ∨ l.length < o + cs.length
  | [], o, W, l, h => by left; simpa [World.setCells] using h
  | v :: r, o, W, l, h => by
    rw [World.setCells]
    rcases Bk.setCells r (o + 1) (h.set o v) with k | k
    · by_cases ho : o < l.length
      · left
        have e : (l.set o v).take (o + 1) ++ r ++ (l.set o v).drop (o + 1 + r.length) = l.take o ++ v :: r ++ l.drop (o + (v :: r).length) := by
          rw [List.drop_set_of_lt (by omega), show o + (v :: r).length = o + 1 + r.length by simp; omega]
          have : (l.set o v).take (o + 1) = l.take o ++ [v] := by
            apply List.ext_getElem?
            intro i
            simp only [List.getElem?_take, List.getElem?_set, List.getElem?_append, List.length_take]
            by_cases h1 : i < o
            · rw [if_pos (by omega), if_neg (by omega), if_pos (by omega)]; simp [h1]
            · by_cases h2 : i = o
              · subst h2; simp [ho, Nat.min_eq_left (Nat.le_of_lt ho)]
              · rw [if_neg (by omega), if_neg (by omega)]
                symm; rw [List.getElem?_eq_none]; simp; omega
          rw [this]; simp
        rw [← e]; exact k
      · right; simp; omega
    · right; simp at k ⊢; omega
theorem Bk.whole (h : Bk W b t l) (cs : List Value) (hl : cs.length = l.length) : Bk (W.setCells b 0 cs) b t cs := by
  rcases Bk.setCells cs 0 h with k | k
  · rw [List.take_zero, List.nil_append, Nat.zero_add, hl, List.drop_eq_nil_of_le (Nat.le_refl _), List.append_nil] at k; exact k
  · omega
theorem below_cells {w : World} : ∀ (cs : List Value) (o : Nat) {W : World} {B : Nat}, Below B w W → B ≤ b → Below B w (W.setCells b o cs)
  | [], _, _, _, h, _ => h
  | v :: r, o, W, _, h, hb => by
    rw [World.setCells]
    exact below_cells r (o + 1) (h.setCell (p := ⟨b, o, none⟩) hb v) hb
end
theorem al1 (w : World) (o : Obj) : Below w.heap.size w (w.alloc o) := (Below.refl _ _).alloc (Nat.le_refl _) _

/-- a word's cells -/
def cw (p : Nat → Int) : List Value := [.int .i64 (p 0), .int .i64 (p 1), .int .i64 (p 2), .int .i64 (p 3), .int .i64 (p 4), .int .i64 (p 5), .int .i64 (p 6), .int .i64 (p 7), .int .i64 (p 8), .int .i64 (p 9), .int .i64 (p 10), .int .i64 (p 11)]
theorem k12 {P : Nat → Prop} (h0 : P 0) (h1 : P 1) (h2 : P 2) (h3 : P 3) (h4 : P 4) (h5 : P 5) (h6 : P 6) (h7 : P 7) (h8 : P 8) (h9 : P 9) (h10 : P 10) (h11 : P 11) (k : Nat) (hk : k < 12) : P k := by
  match k, hk with
  | 0, _ => exact h0
  | 1, _ => exact h1
  | 2, _ => exact h2
  | 3, _ => exact h3
  | 4, _ => exact h4
  | 5, _ => exact h5
  | 6, _ => exact h6
  | 7, _ => exact h7
  | 8, _ => exact h8
  | 9, _ => exact h9
  | 10, _ => exact h10
  | 11, _ => exact h11
theorem cw_get (p : Nat → Int) (k : Nat) (hk : k < 12) : (cw p)[k]? = some (.int .i64 (p k)) :=
  k12 (P := fun k => (cw p)[k]? = some (.int .i64 (p k))) rfl rfl rfl rfl rfl rfl rfl rfl rfl rfl rfl rfl k hk
theorem cw_set (p : Nat → Int) (x : Int) (k : Nat) (hk : k < 12) : (cw p).set k (.int .i64 x) = cw (st p k x) :=
  k12 (P := fun k => (cw p).set k (.int .i64 x) = cw (st p k x)) rfl rfl rfl rfl rfl rfl rfl rfl rfl rfl rfl rfl k hk
theorem cw_congr {p q : Nat → Int} (h : ∀ k, k < 12 → p k = q k) : cw p = cw q := by
  unfold cw
  rw [h 0 (by omega), h 1 (by omega), h 2 (by omega), h 3 (by omega), h 4 (by omega), h 5 (by omega), h 6 (by omega), h 7 (by omega), h 8 (by omega), h 9 (by omega), h 10 (by omega), h 11 (by omega)]
theorem cw_one (p : Nat → Int) : ∀ v ∈ cw p, v.oneCell' = true := by
  intro v hv
  simp only [cw, List.mem_cons, List.mem_nil_iff, or_false] at hv
  rcases hv with rfl | rfl | rfl | rfl | rfl | rfl | rfl | rfl | rfl | rfl | rfl | rfl <;> rfl
theorem cw_len (p : Nat → Int) : (cw p).length = 12 := rfl
theorem wd_size : (Tryd.prog.info? 23).map (·.size) = some 12 := by kernel_rfl
theorem wd_row : ∃ d, Tryd.prog.underlying 23 = some d ∧ d.isRow = true := ⟨_, Tryd.underlying23, rfl⟩

/-- a word's block, read whole -/
theorem word_load {W : World} {b : Nat} {p : Nat → Int} (h : Bk W b 23 (cw p)) : (loadVar 23 ⟨b, 0, none⟩).run Tryd.prog W = .ok (.agg (cw p).toArray) W :=
  run_loadVar_mid (P := Tryd.prog) W b 0 23 (cw p) _ (h.range 0 _ (by simp)) Tryd.underlying23 rfl wd_size

/-- the table's cells -/
def fc : List Value := [.string (sb [97, 108, 117]), .int .i64 5, .string (sb [97]), .int .i64 6, .string (sb [98]), .int .i64 6, .string (sb [100]), .int .i64 6, .string (sb [108, 105, 116]), .int .i64 8, .string (sb [115, 105, 122, 101]), .int .i64 2, .string (sb [99, 99]), .int .i64 2, .string (sb [109, 101, 109]), .int .i64 4, .string (sb [115, 101, 113]), .int .i64 3, .string (sb [99, 111, 110, 100]), .int .i64 5, .string (sb [116, 111]), .int .i64 11, .string (sb [109, 105, 115, 99]), .int .i64 6]
theorem fc_get0 (k : Nat) (hk : k < 12) : fc[k * 2]? = some (.string (sb (nmk k))) :=
  k12 (P := fun k => fc[k * 2]? = some (.string (sb (nmk k)))) rfl rfl rfl rfl rfl rfl rfl rfl rfl rfl rfl rfl k hk
theorem fc_get1 (k : Nat) (hk : k < 12) : fc[k * 2 + 1]? = some (.int .i64 (wd k)) :=
  k12 (P := fun k => fc[k * 2 + 1]? = some (.int .i64 (wd k))) rfl rfl rfl rfl rfl rfl rfl rfl rfl rfl rfl rfl k hk
structure Gl (w : World) : Prop where
  fl : w.rangeAt 0 0 fc
theorem lt_of_cell {w : World} {b o : Nat} {v : Value} (e : w.cell? ⟨b, o, none⟩ = some v) : b < w.heap.size := by
  by_cases hb : b < w.heap.size
  · exact hb
  · exfalso; simp [World.cell?, Array.getElem?_eq_none (Nat.le_of_not_lt hb)] at e
theorem Gl.below {w w' : World} (h : Gl w) (b : Below w.heap.size w w') : Gl w' :=
  ⟨fun j v hv => (b.cell (p := ⟨_, _, none⟩) (lt_of_cell (h.fl j v hv))).trans (h.fl j v hv)⟩
theorem Gl.bit {w : World} (h : Gl w) {k : Nat} (hk : k < 12) : w.cell? ⟨0, k * 2 + 1, none⟩ = some (.int .i64 (wd k)) := by
  have := h.fl (k * 2 + 1) _ (fc_get1 k hk)
  simpa using this

theorem fa_under : Tryd.prog.underlying 51 = some (.array 12 28) := by kernel_rfl
theorem fa_size : (Tryd.prog.info? 51).map (·.size) = some 24 := by kernel_rfl
theorem fa_sz : (Tryd.prog.info? 51).map (·.size) = some fc.length := by kernel_rfl
theorem fc_one : ∀ v ∈ fc, v.oneCell' = true := by
  intro v hv
  simp only [fc, List.mem_cons, List.mem_nil_iff, or_false] at hv
  rcases hv with rfl | rfl | rfl | rfl | rfl | rfl | rfl | rfl | rfl | rfl | rfl | rfl | rfl | rfl | rfl | rfl | rfl | rfl | rfl | rfl | rfl | rfl | rfl | rfl <;> rfl
theorem fidx (w : World) (k : Nat) (hk : k < 12) : (Instr.index 51 (.agg fc.toArray) (.int .i64 k)).run Tryd.prog w = .ok (.agg #[.string (sb (nmk k)), .int .i64 (wd k)]) w :=
  k12 (P := fun k => (Instr.index 51 (.agg fc.toArray) (.int .i64 k)).run Tryd.prog w = .ok (.agg #[.string (sb (nmk k)), .int .i64 (wd k)]) w)
    (by kernel_rfl) (by kernel_rfl) (by kernel_rfl) (by kernel_rfl) (by kernel_rfl) (by kernel_rfl) (by kernel_rfl) (by kernel_rfl) (by kernel_rfl) (by kernel_rfl) (by kernel_rfl) (by kernel_rfl) k hk

/-- places of a word's parts -/
def pa (b : Nat) : List Value := [.pointer (some ⟨b, 0, none⟩), .pointer (some ⟨b, 1, none⟩), .pointer (some ⟨b, 2, none⟩), .pointer (some ⟨b, 3, none⟩), .pointer (some ⟨b, 4, none⟩), .pointer (some ⟨b, 5, none⟩), .pointer (some ⟨b, 6, none⟩), .pointer (some ⟨b, 7, none⟩), .pointer (some ⟨b, 8, none⟩), .pointer (some ⟨b, 9, none⟩), .pointer (some ⟨b, 10, none⟩), .pointer (some ⟨b, 11, none⟩)]
theorem pidx (w : World) (b k : Nat) (hk : k < 12) : (Instr.index 54 (.agg (pa b).toArray) (.int .i64 k)).run Tryd.prog w = .ok (.pointer (some ⟨b, k, none⟩)) w :=
  k12 (P := fun k => (Instr.index 54 (.agg (pa b).toArray) (.int .i64 k)).run Tryd.prog w = .ok (.pointer (some ⟨b, k, none⟩)) w)
    (by kernel_rfl) (by kernel_rfl) (by kernel_rfl) (by kernel_rfl) (by kernel_rfl) (by kernel_rfl) (by kernel_rfl) (by kernel_rfl) (by kernel_rfl) (by kernel_rfl) (by kernel_rfl) (by kernel_rfl) k hk

section
variable {P : Program} {ops : Array Oper} {rest : List Oper} {op : Oper} {a : Act} {w : World} {Q : Exit → Act → World → Prop}
theorem run_box (w : World) (t : TypeId) (cs : List Value) : (Instr.box t (.agg cs.toArray)).run P w = .ok (.pointer (some ⟨w.heap.size, 0, none⟩)) (w.alloc (.cells cs.toArray t)) := by
  simp [Instr.box, newVar, newRow, Value.cells, go_sem]
theorem wl_box (hgd : op.guard = none) (t : TypeId) (x : Operand) (ho : op.op = .box t x) (cs : List Value) (hx : a.eval x = .agg cs.toArray)
    (h : wpList P ops Q rest (a.put op.dst (.pointer (some ⟨w.heap.size, 0, none⟩))) (w.alloc (.cells cs.toArray t))) : wpList P ops Q (op :: rest) a w :=
  wpList_plain hgd fun _ hK => by
    unfold Oper.wp execOp
    simp only [ho, hx, Sem.run_bind, run_box, Result.andThen_ok, Sem.run_pure]
    exact hK _ _ h
theorem wl_index (hgd : op.guard = none) (t : TypeId) (x ix : Operand) (ho : op.op = .index t x ix) (v u r : Value) (hx : a.eval x = v) (hi : a.eval ix = u)
    (hr : (Instr.index t v u).run P w = .ok r w) (h : wpList P ops Q rest (a.put op.dst r) w) : wpList P ops Q (op :: rest) a w :=
  wpList_plain hgd fun _ hK => by
    unfold Oper.wp execOp
    simp only [ho, hx, hi, Sem.run_bind, hr, Result.andThen_ok, Sem.run_pure]
    exact hK _ _ h
theorem wl_build (hgd : op.guard = none) (t : TypeId) (parts : Array (Nat × Operand)) (ho : op.op = .build t parts) (vs : Array (Nat × Value)) (hp : (parts.map fun q => (q.1, a.eval q.2)) = vs) (v : Value)
    (hr : (Instr.build t vs).run P w = .ok v w) (h : wpList P ops Q rest (a.put op.dst v) w) : wpList P ops Q (op :: rest) a w :=
  wpList_plain hgd fun _ hK => by
    unfold Oper.wp execOp
    simp only [ho]
    rw [show (parts.map fun x => match x with | (i, x) => (i, a.eval x)) = vs from hp]
    simp only [Sem.run_bind, hr, Result.andThen_ok, Sem.run_pure]
    exact hK _ _ h
theorem wl_bin (hgd : op.guard = none) (o : BinOp) (t t' : TypeId) (q r : Operand) (ho : op.op = .binOp o t q r t') (u v z : Value) (hq : a.eval q = u) (hr : a.eval r = v)
    (hg : (eqGuard o t q r u v).run P w = .ok () w) (hb : (binOp o t u v).run P w = .ok z w) (h : wpList P ops Q rest (a.put op.dst z) w) : wpList P ops Q (op :: rest) a w :=
  wpList_plain hgd fun _ hK => by
    unfold Oper.wp execOp
    simp only [ho, hq, hr, Sem.run_bind, Sem.run_pure, hg, hb, Result.andThen_ok]
    exact hK _ _ h
end

/-- whether two words are the same -/
def eqw (p q : Nat → Int) : Bool := p 0 == q 0 && (p 1 == q 1 && (p 2 == q 2 && (p 3 == q 3 && (p 4 == q 4 && (p 5 == q 5 && (p 6 == q 6 && (p 7 == q 7 && (p 8 == q 8 && (p 9 == q 9 && (p 10 == q 10 && p 11 == q 11))))))))))
theorem eqw_iff (p q : Nat → Int) : eqw p q = true ↔ ∀ k, k < 12 → p k = q k := by
  unfold eqw
  simp only [Bool.and_eq_true, beq_iff_eq]
  constructor
  · rintro ⟨h0, h1, h2, h3, h4, h5, h6, h7, h8, h9, h10, h11⟩
    exact k12 (P := fun k => p k = q k) h0 h1 h2 h3 h4 h5 h6 h7 h8 h9 h10 h11
  · intro h
    exact ⟨h 0 (by omega), h 1 (by omega), h 2 (by omega), h 3 (by omega), h 4 (by omega), h 5 (by omega), h 6 (by omega), h 7 (by omega), h 8 (by omega), h 9 (by omega), h 10 (by omega), h 11 (by omega)⟩
theorem ite_and (a b : Int) (c : Bool) (w : World) : (if a = b then Result.ok (Value.bool c) w else Result.ok (Value.bool false) w) = Result.ok (Value.bool (a == b && c)) w := by
  by_cases h : a = b
  · rw [if_pos h, show (a == b) = true by simpa using h, Bool.true_and]
  · rw [if_neg h, show (a == b) = false by simpa using h, Bool.false_and]
theorem eql_word (p q : Nat → Int) (w : World) : (binOp .eql 23 (.agg (cw p).toArray) (.agg (cw q).toArray)).run Tryd.prog w = .ok (.bool (eqw p q)) w := by
  rw [run_eql_struct, show (10000 : Nat) = 9998 + 1 + 1 from rfl, run_equalIn_struct w (9998 + 1) _ _ _ (by kernel_rfl) (by kernel_rfl)]
  simp only [Program.fieldsOf, Tryd.underlying23]
  simp [Op.eqFields, part, cw, go_sem]
  simp only [ite_and, Bool.and_true]
  rfl
theorem eqg_word (p q : Nat → Int) (a b : Operand) (w : World) : (eqGuard .eql 23 a b (.agg (cw p).toArray) (.agg (cw q).toArray)).run Tryd.prog w = .ok () w :=
  run_eqGuard_agg w _ _ _ _ _ _ (by kernel_rfl)
end Go.Proofs.YtdchaalmjhjejaaDoor.Cs
