/- Slices of bytes that a call made: a row with room behind it; append onto nothing; string(b). -/
import Derived.Test.YtfpdemlcmfaieaaWJoins
import Derived.Maps.AppendAt
import Derived.Laws.BytesString
namespace Go.Proofs.Ytfpdemlcmfaieaa.Rm
open Go.RowKit

/-- Block b is a row of bytes, of which the first are ys. -/
def Row (w : World) (b : Nat) (ys : List Int) : Prop :=
  ∃ cur : Array Value, w.heap[b]? = some (.cells cur 5 (0, 0)) ∧ cur.toList.take ys.length = cel ys
section
variable {w w' : World} {b : Nat} {ys : List Int}
theorem Row.lt (h : Row w b ys) : b < w.heap.size := by obtain ⟨_, h, _⟩ := h; exact lt_of_heap h
theorem Row.keep (h : Row w b ys) (e : w'.heap[b]? = w.heap[b]?) : Row w' b ys := by obtain ⟨c, h, t⟩ := h; exact ⟨c, e.trans h, t⟩
theorem Row.of (h : w.heap[b]? = some (.cells (cel ys).toArray 5 (0, 0))) : Row w b ys := ⟨_, h, by simp [← cel_length ys]⟩
theorem Row.cell' (h : Row w b ys) {j : Nat} {v : Value} (hv : (cel ys)[j]? = some v) : w.cell? ⟨b, j, none⟩ = some v := by
  obtain ⟨c, hc, t⟩ := h
  rw [cell_of_row w b j _ _ _ hc]
  rw [← t, List.getElem?_take] at hv
  split at hv
  · simpa using hv
  · cases hv
theorem Row.cell (h : Row w b ys) {j : Nat} (hj : j < ys.length) : w.cell? ⟨b, j, none⟩ = some (.int .u8 (ys.getD j 0)) := h.cell' (cel_get ys j hj)
theorem Row.free (h : Row w b ys) (j : Nat) : w.frozen? ⟨b, j, none⟩ = false := by
  obtain ⟨c, hc, _⟩ := h; simp [World.frozen?, hc]
theorem Row.set (h : Row w b ys) (j : Nat) (v : Int) : Row (w.setCell ⟨b, j, none⟩ (.int .u8 v)) b (ys.set j v) := by
  obtain ⟨c, hc, t⟩ := h
  refine ⟨c.setIfInBounds j (.int .u8 v), by simp [World.setCell, Array.getElem?_modify, hc], ?_⟩
  rw [Array.toList_setIfInBounds, List.length_set, List.take_set, t]
  simp [cel, List.map_set]
theorem Row.src (h : Row w b ys) : Src w (some ⟨b, 0, none⟩) ys := fun _ =>
  ⟨_, rfl, h.lt, fun j v hv => by
    have hadd : (⟨b, 0, none⟩ : Addr).add j = ⟨b, j, none⟩ := by unfold Addr.add; split <;> simp_all
    rw [hadd]; exact h.cell' hv⟩
end

theorem wpList_append_run {P : Program} (w : World) {ops : Array Oper} {rest : List Oper} {o : Oper} {a : Act} {Q : Exit → Act → World → Prop} (hgd : o.guard = none) (d s : Operand) (t t' : TypeId)
    (ho : o.op = .call { callee := .builtin .append, args := #[d, s], argTypes := #[t, t'] }) (v u : Value) (hd : a.eval d = v) (hs : a.eval s = u) {v' : Value} {w' : World}
    (hr : (Builtin.append_ #[t, t'] o.type #[v, u]).run P w = .ok v' w') (h : wpList P ops Q rest (a.put o.dst v') w') : wpList P ops Q (o :: rest) a w :=
  wpList_plain hgd fun _ hK => by
    unfold Oper.wp execOp
    simp only [ho, resolve, invoke, builtin, Sem.run_bind, Sem.run_pure, Result.andThen_ok, List.map_toArray, List.map_cons, List.map_nil, hd, hs, hr]
    exact hK _ _ h

/-- append onto an empty row that was made just now. -/
theorem run_append_b (w : World) (A : Option Addr) (m c : Nat) (ys : List Int) (hs : Src w A ys) (hm : ys.length = m) (hn : m ≤ 1099511627776) :
    ∃ b cap w', (Builtin.append_ #[22, 22] 22 #[.slice (some ⟨w.heap.size, 0, none⟩) 0 0, .slice A m c]).run Try.prog (w.alloc (.cells #[] 5)) = .ok (.slice (some ⟨b, 0, none⟩) m cap) w' ∧
      Hid (w.heap.size ≤ b ∧ Row w' b ys ∧ Below w.heap.size w w') := by
  obtain ⟨i, hi, hz, hsz, hb⟩ := info_parts u8_info
  have hbel : Below w.heap.size w (w.alloc (.cells #[] 5)) := (Below.refl _ _).alloc (Nat.le_refl _) _
  by_cases h0 : m = 0
  · subst h0
    obtain rfl : ys = [] := List.eq_nil_of_length_eq_zero hm
    refine ⟨w.heap.size, 0, w.alloc (.cells #[] 5), ?_, Nat.le_refl _, ⟨#[], heap_new _ _, by simp [cel]⟩, hbel⟩
    cases A <;> simp [Builtin.append_, run_underlying under_slice, sizeOf, typeInfo, hi, Builtin.lenOf, Builtin.firstCells, loadCells, loadCellsFrom, storeCells]
  · obtain ⟨ad, rfl, hlt, hc⟩ := hs (by omega)
    have hown : (w.alloc (.cells #[] 5)).ownsRow w.heap.size 5 1 (.slice (some ⟨w.heap.size, 0, none⟩) 0 0) 0 [] :=
      World.ownsRow_made w #[] 0 (Nat.le_refl _) (Nat.zero_le _) (by simp)
    obtain ⟨v', w', hrun, ho, hg, _, hat⟩ := run_append_own_at (P := Try.prog) (w.alloc (.cells #[] 5)) w.heap.size 22 22 5 i (.int .u8 0) 1 1 under_slice hi hz hsz hb rfl (by omega) _ 0 [] hown ad m c (cel ys)
      (by rw [cel_length, hm]; omega) (fun j u hu => by rw [World.cell?_alloc_lt w _ _ (by rw [block_add]; exact hlt)]; exact hc j u hu) (cel_one ys) (by simp only [maxLen]; omega) (by omega) (by simp)
    rcases ho.2 with ⟨_, h⟩ | ⟨g, cap, cur, rfl, hbase, hh, _, _, _, htake⟩
    · omega
    · rw [Nat.zero_add] at hrun
      refine ⟨g, cap, w', hrun, hbase, ⟨cur, hh, ?_⟩, ?_⟩
      · simpa [hm] using htake
      · exact hbel.grown hg (by simp) (fun k e => by simp [Value.ownBlock] at e; omega)

/-- The string of bytes. -/
def str (ys : List Int) : ByteArray := ys.foldl (fun r n => r.push (UInt8.ofNat n.toNat)) ByteArray.empty
theorem under_u8 : Try.prog.underlying 5 = some (.int .u8) := by kernel_rfl
theorem under_string : Try.prog.underlying 9 = some .string := by kernel_rfl
theorem run_string (w : World) (A : Option Addr) (n c : Nat) (ys : List Int) (hs : Src w A ys) (hn : ys.length = n) :
    (convert 22 9 (.slice A n c)).run Try.prog w = .ok (.string (str ys)) w := by
  rw [run_convert_bytes_string w _ _ _ A n c under_slice under_u8 under_string]
  by_cases h0 : n = 0
  · subst h0
    obtain rfl : ys = [] := List.eq_nil_of_length_eq_zero hn
    cases A with
    | none => simp [Conv.bytesToString, str]
    | some ad => exact run_bytesToString w ad 0 c [] (by simp [loadCells, loadCellsFrom])
  · obtain ⟨ad, rfl, _, hc⟩ := hs (by omega)
    have hl := run_loadCells_list (P := Try.prog) w ad (cel ys) hc
    rw [cel_length, hn] at hl
    exact run_bytesToString w ad n c ys hl

end Go.Proofs.Ytfpdemlcmfaieaa.Rm
