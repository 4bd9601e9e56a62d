/- Whole arrays and structs, by value: what the operations on them come to, without opening their cells. -/
import Derived.Test.YtgljkadelkglbaaHMem
import Derived.Deep.RegionHeld3
import Derived.Laws.StructEq
namespace Go.Proofs.Ytgljkadelkglbaa.Cs
open Go.RowKit Ps Tl

section
variable {P : Program} {ops : Array Oper} {rest : List Oper} {op : Oper} {a : Act} {w : World} {Q : Exit → Act → World → Prop}
theorem run_box (w : World) (t : TypeId) (cs : List Value) : (Instr.box t (.agg cs.toArray)).run P w = .ok (.pointer (some ⟨w.heap.size, 0, none⟩)) (w.alloc (.cells cs.toArray t)) := by
  simp [Instr.box, newVar, newRow, Value.cells, go_sem]
theorem wl_box (hgd : op.guard = none) (t : TypeId) (x : Operand) (ho : op.op = .box t x) (cs : List Value) (hx : a.eval x = .agg cs.toArray)
    (h : wpList P ops Q rest (a.put op.dst (.pointer (some ⟨w.heap.size, 0, none⟩))) (w.alloc (.cells cs.toArray t))) : wpList P ops Q (op :: rest) a w :=
  wpList_plain hgd fun _ hK => by
    unfold Oper.wp execOp
    simp only [ho, hx, Sem.run_bind, run_box, Result.andThen_ok, Sem.run_pure]
    exact hK _ _ h
theorem wl_build (hgd : op.guard = none) (t : TypeId) (parts : Array (Nat × Operand)) (ho : op.op = .build t parts) (vs : Array (Nat × Value)) (hp : (parts.map fun q => (q.1, a.eval q.2)) = vs) (v : Value)
    (hr : (Instr.build t vs).run P w = .ok v w) (h : wpList P ops Q rest (a.put op.dst v) w) : wpList P ops Q (op :: rest) a w :=
  wpList_plain hgd fun _ hK => by
    unfold Oper.wp execOp
    simp only [ho]
    rw [show (parts.map fun x => match x with | (i, x) => (i, a.eval x)) = vs from hp]
    simp only [Sem.run_bind, hr, Result.andThen_ok, Sem.run_pure]
    exact hK _ _ h
end

theorem arr_under : Try.prog.underlying 24 = some (.array 16 23) := by kernel_rfl
theorem arr_size : (Try.prog.info? 24).map (·.size) = some 16 := by kernel_rfl
theorem st_size : (Try.prog.info? 28).map (·.size) = some 26 := by kernel_rfl
theorem fi_size : (Try.prog.info? 58).map (·.size) = some 36 := by kernel_rfl
theorem rf_size : (Try.prog.info? 36).map (·.size) = some 28 := by kernel_rfl
theorem st_row : ∃ d, Try.prog.underlying 28 = some d ∧ d.isRow = true := ⟨_, Try.underlying28, rfl⟩

def zs : List Int := List.replicate 16 0
theorem zs_len : zs.length = 16 := rfl
theorem zs_num (i : Nat) : U (zs.getD i 0) := by
  have : zs.getD i 0 = 0 := by unfold zs; simp only [List.getD, List.getElem?_replicate]; split <;> rfl
  rw [this]; exact ⟨by omega, by omega⟩

theorem build_file16 (a0 a1 a2 a3 a4 a5 a6 a7 a8 a9 a10 a11 a12 a13 a14 a15 p k u : Int) (w : World) :
    (Instr.build 58 #[(0, .agg (c1 [a0, a1, a2, a3, a4, a5, a6, a7, a8, a9, a10, a11, a12, a13, a14, a15]).toArray), (1, .int .u32 p), (2, .int .u32 k), (3, .int .u32 u)]).run Try.prog w = .ok (.agg (Re.cells ⟨[a0, a1, a2, a3, a4, a5, a6, a7, a8, a9, a10, a11, a12, a13, a14, a15], p, k, u⟩ (c1 zs ++ [.int .i64 0])).toArray) w := by kernel_rfl
theorem build_file (rs : List Int) (p k u : Int) (h : rs.length = 16) (w : World) :
    (Instr.build 58 #[(0, .agg (c1 rs).toArray), (1, .int .u32 p), (2, .int .u32 k), (3, .int .u32 u)]).run Try.prog w = .ok (.agg (Re.cells ⟨rs, p, k, u⟩ (c1 zs ++ [.int .i64 0])).toArray) w := by
  match rs, h with
  | [a0, a1, a2, a3, a4, a5, a6, a7, a8, a9, a10, a11, a12, a13, a14, a15], _ => exact build_file16 a0 a1 a2 a3 a4 a5 a6 a7 a8 a9 a10 a11 a12 a13 a14 a15 p k u w
theorem build_state16 (a0 a1 a2 a3 a4 a5 a6 a7 a8 a9 a10 a11 a12 a13 a14 a15 p k u : Int) (w : World) :
    (Instr.build 28 #[(0, .agg (c1 [a0, a1, a2, a3, a4, a5, a6, a7, a8, a9, a10, a11, a12, a13, a14, a15]).toArray), (1, .int .u32 p), (2, .int .u32 k), (3, .int .u32 u)]).run Try.prog w = .ok (.agg (Re.cells ⟨[a0, a1, a2, a3, a4, a5, a6, a7, a8, a9, a10, a11, a12, a13, a14, a15], p, k, u⟩ (Xs.l ⟨0, 0, 0, 0, 0, 0, 0⟩)).toArray) w := by kernel_rfl
theorem build_state (rs : List Int) (p k u : Int) (h : rs.length = 16) (w : World) :
    (Instr.build 28 #[(0, .agg (c1 rs).toArray), (1, .int .u32 p), (2, .int .u32 k), (3, .int .u32 u)]).run Try.prog w = .ok (.agg (Re.cells ⟨rs, p, k, u⟩ (Xs.l ⟨0, 0, 0, 0, 0, 0, 0⟩)).toArray) w := by
  match rs, h with
  | [a0, a1, a2, a3, a4, a5, a6, a7, a8, a9, a10, a11, a12, a13, a14, a15], _ => exact build_state16 a0 a1 a2 a3 a4 a5 a6 a7 a8 a9 a10 a11 a12 a13 a14 a15 p k u w
theorem build_ref16 (a0 a1 a2 a3 a4 a5 a6 a7 a8 a9 a10 a11 a12 a13 a14 a15 p k u : Int) (w : World) :
    (Instr.build 36 #[(0, .agg (Re.cells ⟨[a0, a1, a2, a3, a4, a5, a6, a7, a8, a9, a10, a11, a12, a13, a14, a15], p, k, u⟩ (Xs.l ⟨0, 0, 0, 0, 0, 0, 0⟩)).toArray)]).run Try.prog w = .ok (.agg (Re.cells ⟨[a0, a1, a2, a3, a4, a5, a6, a7, a8, a9, a10, a11, a12, a13, a14, a15], p, k, u⟩ (Xs.l ⟨0, 0, 0, 0, 0, 0, 0⟩ ++ [.slice none 0 0, .slice none 0 0])).toArray) w := by kernel_rfl
theorem build_ref (rs : List Int) (p k u : Int) (h : rs.length = 16) (w : World) :
    (Instr.build 36 #[(0, .agg (Re.cells ⟨rs, p, k, u⟩ (Xs.l ⟨0, 0, 0, 0, 0, 0, 0⟩)).toArray)]).run Try.prog w = .ok (.agg (Re.cells ⟨rs, p, k, u⟩ (Xs.l ⟨0, 0, 0, 0, 0, 0, 0⟩ ++ [.slice none 0 0, .slice none 0 0])).toArray) w := by
  match rs, h with
  | [a0, a1, a2, a3, a4, a5, a6, a7, a8, a9, a10, a11, a12, a13, a14, a15], _ => exact build_ref16 a0 a1 a2 a3 a4 a5 a6 a7 a8 a9 a10 a11 a12 a13 a14 a15 p k u w
theorem build_zero (w : World) : (Instr.build 24 #[]).run Try.prog w = .ok (.agg (c1 zs).toArray) w := by kernel_rfl

theorem eq_int (w : World) (d : Nat) (t : TypeId) (k k' : IntKind) (a : Int) (h : Try.prog.underlying t = some (.int k')) : (Op.equalIn (d + 1) t (.int k a) (.int k a)).run Try.prog w = .ok true w := by
  rw [run_equalIn_int w d t k k' a a h]; simp
theorem u32_eq (w : World) (d : Nat) (a : Int) : (Op.equalIn (d + 1) 23 (.int .u32 a) (.int .u32 a)).run Try.prog w = .ok true w := eq_int w d _ _ _ a Try.underlying23
theorem int_eq (w : World) (d : Nat) (a : Int) : (Op.equalIn (d + 1) 3 (.int .i64 a) (.int .i64 a)).run Try.prog w = .ok true w := eq_int w d _ _ _ a Try.underlying3
theorem eq_arr16 (a0 a1 a2 a3 a4 a5 a6 a7 a8 a9 a10 a11 a12 a13 a14 a15 : Int) (w : World) (d : Nat) : (Op.equalIn (d + 1 + 1) 24 (.agg (c1 [a0, a1, a2, a3, a4, a5, a6, a7, a8, a9, a10, a11, a12, a13, a14, a15]).toArray) (.agg (c1 [a0, a1, a2, a3, a4, a5, a6, a7, a8, a9, a10, a11, a12, a13, a14, a15]).toArray)).run Try.prog w = .ok true w := by
  have hs : (sizeOf 23).run Try.prog w = .ok 1 w := by kernel_rfl
  unfold Op.equalIn
  simp only [Sem.run_bind, run_underlying arr_under, Result.andThen_ok, hs]
  simp [List.range', c1]
  simp [u32_eq, part]
theorem eq_arr (rs : List Int) (h : rs.length = 16) (w : World) (d : Nat) : (Op.equalIn (d + 1 + 1) 24 (.agg (c1 rs).toArray) (.agg (c1 rs).toArray)).run Try.prog w = .ok true w := by
  match rs, h with
  | [a0, a1, a2, a3, a4, a5, a6, a7, a8, a9, a10, a11, a12, a13, a14, a15], _ => exact eq_arr16 a0 a1 a2 a3 a4 a5 a6 a7 a8 a9 a10 a11 a12 a13 a14 a15 w d
theorem eql_arr (rs : List Int) (h : rs.length = 16) (w : World) : (binOp .eql 24 (.agg (c1 rs).toArray) (.agg (c1 rs).toArray)).run Try.prog w = .ok (.bool true) w := by
  rw [run_eql_struct, eq_arr rs h w 9998]; rfl

theorem part_arr16 (a0 a1 a2 a3 a4 a5 a6 a7 a8 a9 a10 a11 a12 a13 a14 a15 p k u : Int) (x : Xs) (w : World) : (part 24 (Re.cells ⟨[a0, a1, a2, a3, a4, a5, a6, a7, a8, a9, a10, a11, a12, a13, a14, a15], p, k, u⟩ x.l).toArray 0).run Try.prog w = .ok (.agg (c1 [a0, a1, a2, a3, a4, a5, a6, a7, a8, a9, a10, a11, a12, a13, a14, a15]).toArray) w := by kernel_rfl
theorem part_tab16 (a0 a1 a2 a3 a4 a5 a6 a7 a8 a9 a10 a11 a12 a13 a14 a15 p k u : Int) (x : Xs) (w : World) : (part 26 (Re.cells ⟨[a0, a1, a2, a3, a4, a5, a6, a7, a8, a9, a10, a11, a12, a13, a14, a15], p, k, u⟩ x.l).toArray 19).run Try.prog w = .ok (.agg #[.int .u32 x.a0, .int .u32 x.a1, .int .u32 x.a2, .int .u32 x.a3, .int .u32 x.a4]) w := by kernel_rfl
theorem eq_tab (x : Xs) (w : World) (d : Nat) : (Op.equalIn (d + 1 + 1) 26 (.agg #[.int .u32 x.a0, .int .u32 x.a1, .int .u32 x.a2, .int .u32 x.a3, .int .u32 x.a4]) (.agg #[.int .u32 x.a0, .int .u32 x.a1, .int .u32 x.a2, .int .u32 x.a3, .int .u32 x.a4])).run Try.prog w = .ok true w := by
  rw [run_equalIn_struct w (d + 1) _ _ _ (by kernel_rfl) (by kernel_rfl)]
  simp only [Program.fieldsOf, Try.underlying26]
  simp [Op.eqFields, u32_eq, part]
theorem eq_state16 (a0 a1 a2 a3 a4 a5 a6 a7 a8 a9 a10 a11 a12 a13 a14 a15 p k u : Int) (x : Xs) (w : World) (d : Nat) : (Op.equalIn (d + 1 + 1 + 1) 28 (sv ⟨[a0, a1, a2, a3, a4, a5, a6, a7, a8, a9, a10, a11, a12, a13, a14, a15], p, k, u⟩ x) (sv ⟨[a0, a1, a2, a3, a4, a5, a6, a7, a8, a9, a10, a11, a12, a13, a14, a15], p, k, u⟩ x)).run Try.prog w = .ok true w := by
  unfold sv
  rw [run_equalIn_struct w (d + 1 + 1) _ _ _ (by kernel_rfl) (by kernel_rfl)]
  simp only [Program.fieldsOf, Try.underlying28]
  have h1 := eq_arr16 a0 a1 a2 a3 a4 a5 a6 a7 a8 a9 a10 a11 a12 a13 a14 a15
  have h2 := part_arr16 a0 a1 a2 a3 a4 a5 a6 a7 a8 a9 a10 a11 a12 a13 a14 a15 p k u x
  have h3 := part_tab16 a0 a1 a2 a3 a4 a5 a6 a7 a8 a9 a10 a11 a12 a13 a14 a15 p k u x
  have g1 : ∀ w, (part 23 (Re.cells ⟨[a0, a1, a2, a3, a4, a5, a6, a7, a8, a9, a10, a11, a12, a13, a14, a15], p, k, u⟩ x.l).toArray 16).run Try.prog w = .ok (.int .u32 p) w := fun _ => by kernel_rfl
  have g2 : ∀ w, (part 23 (Re.cells ⟨[a0, a1, a2, a3, a4, a5, a6, a7, a8, a9, a10, a11, a12, a13, a14, a15], p, k, u⟩ x.l).toArray 17).run Try.prog w = .ok (.int .u32 k) w := fun _ => by kernel_rfl
  have g3 : ∀ w, (part 23 (Re.cells ⟨[a0, a1, a2, a3, a4, a5, a6, a7, a8, a9, a10, a11, a12, a13, a14, a15], p, k, u⟩ x.l).toArray 18).run Try.prog w = .ok (.int .u32 u) w := fun _ => by kernel_rfl
  have g4 : ∀ w, (part 23 (Re.cells ⟨[a0, a1, a2, a3, a4, a5, a6, a7, a8, a9, a10, a11, a12, a13, a14, a15], p, k, u⟩ x.l).toArray 24).run Try.prog w = .ok (.int .u32 x.a5) w := fun _ => by kernel_rfl
  have g5 : ∀ w, (part 3 (Re.cells ⟨[a0, a1, a2, a3, a4, a5, a6, a7, a8, a9, a10, a11, a12, a13, a14, a15], p, k, u⟩ x.l).toArray 25).run Try.prog w = .ok (.int .i64 x.a6) w := fun _ => by kernel_rfl
  generalize (Re.cells ⟨[a0, a1, a2, a3, a4, a5, a6, a7, a8, a9, a10, a11, a12, a13, a14, a15], p, k, u⟩ x.l).toArray = V at *
  generalize (c1 [a0, a1, a2, a3, a4, a5, a6, a7, a8, a9, a10, a11, a12, a13, a14, a15]).toArray = R at *
  simp [Op.eqFields, u32_eq, int_eq, eq_tab, h1, h2, h3, g1, g2, g3, g4, g5]
theorem eql_state (e : Re) (x : Xs) (h : e.Ok) (w : World) : (binOp .eql 28 (sv e x) (sv e x)).run Try.prog w = .ok (.bool true) w := by
  obtain ⟨rs, p, k, u⟩ := e
  have hl : rs.length = 16 := h.len
  clear h
  match rs, hl with
  | [a0, a1, a2, a3, a4, a5, a6, a7, a8, a9, a10, a11, a12, a13, a14, a15], _ =>
    have := eq_state16 a0 a1 a2 a3 a4 a5 a6 a7 a8 a9 a10 a11 a12 a13 a14 a15 p k u x w 9997
    unfold sv at this ⊢
    rw [run_eql_struct, this]; rfl
theorem eq_guards (e : Re) (x : Xs) (a b : Operand) (w : World) : (eqGuard .eql 28 a b (sv e x) (sv e x)).run Try.prog w = .ok () w := by
  unfold sv
  exact run_eqGuard_agg w _ _ _ _ _ _ (by kernel_rfl)
theorem eq_guarda (rs : List Int) (a b : Operand) (w : World) : (eqGuard .eql 24 a b (.agg (c1 rs).toArray) (.agg (c1 rs).toArray)).run Try.prog w = .ok () w :=
  run_eqGuard_agg w _ _ _ _ _ _ (by kernel_rfl)
end Go.Proofs.Ytgljkadelkglbaa.Cs
