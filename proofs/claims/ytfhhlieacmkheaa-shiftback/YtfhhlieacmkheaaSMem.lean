/- Rows of 64 bits as they lie in the model's world: a block of cells as one list. -/
import Derived.Test.YtfhhlieacmkheaaSRef
import Derived.Deep.MidRow
import Derived.Laws.StructEq
namespace Go.Proofs.Ytfhhlieacmkheaa.Cs
open Go.RowKit

/-- a block of cells of one type -/
def Bk (W : World) (b t : Nat) (l : List Value) : Prop := W.heap[b]? = some (.cells l.toArray t (0, 0))
section
variable {w W W' : World} {b b' t n : Nat} {l : List Value}
theorem Bk.lt (h : Bk W b t l) : b < W.heap.size := by
  unfold Bk at h
  by_cases hb : b < W.heap.size
  · exact hb
  · rw [Array.getElem?_eq_none (Nat.le_of_not_lt hb)] at h; cases h
theorem Bk.cell (h : Bk W b t l) (i : Nat) (v : Value) (hv : l[i]? = some v) : W.cell? ⟨b, i, none⟩ = some v := by
  unfold Bk at h; simp [World.cell?, h, hv]
theorem Bk.free (h : Bk W b t l) (i : Nat) : W.frozen? ⟨b, i, none⟩ = false := by
  unfold Bk at h; simp [World.frozen?, h]
theorem Bk.set (h : Bk W b t l) (i : Nat) (v : Value) : Bk (W.setCell ⟨b, i, none⟩ v) b t (l.set i v) := by
  unfold Bk at h ⊢
  simp [World.setCell, Array.getElem?_modify, h]
theorem Bk.other (h : Bk W b t l) (hb : b ≠ b') (i : Nat) (v : Value) : Bk (W.setCell ⟨b', i, none⟩ v) b t l := by
  unfold Bk at h ⊢
  rw [Below.heap_setCell _ _ _ _ hb]; exact h
theorem Bk.alloc (h : Bk W b t l) (o : Obj) : Bk (W.alloc o) b t l := by
  have := h.lt
  unfold Bk at h ⊢
  show (W.heap.push o)[b]? = _
  rw [Array.getElem?_push, if_neg (by omega)]; exact h
theorem Bk.new (W : World) (t : Nat) (l : List Value) : Bk (W.alloc (.cells l.toArray t)) W.heap.size t l := by
  unfold Bk
  show (W.heap.push _)[W.heap.size]? = _
  simp
theorem Bk.below (h : Bk W b t l) (m : Below W.heap.size W W') : Bk W' b t l := (m.block b h.lt).trans h
theorem Bk.range (h : Bk W b t l) : W.rangeAt b 0 l := fun j v hv => by
  refine h.cell _ _ ?_
  rw [Nat.zero_add]; exact hv
theorem Bk.there (h : Bk W b t l) (n : Nat) (hn : n ≤ l.length) : W.there b 0 n := fun j hj => by
  refine ⟨?_, h.free _⟩
  rw [h.cell (0 + j) _ (List.getElem?_eq_getElem (by omega))]; rfl
theorem Bk.setAll : ∀ (cs : List Value) (o : Nat) {W : World} {l : List Value}, Bk W b t l → l.length = o + cs.length → Bk (W.setCells b o cs) b t (l.take o ++ cs)
  | [], o, W, l, h, e => by
    have : l.take o = l := List.take_of_length_le (by simp at e; omega)
    simpa [World.setCells, this] using h
  | v :: r, o, W, l, h, e => by
    rw [World.setCells]
    simp only [List.length_cons] at e
    have k := Bk.setAll r (o + 1) (h.set o v) (by rw [List.length_set]; omega)
    have e2 : (l.set o v).take (o + 1) ++ r = l.take o ++ v :: r := by
      rw [List.take_add_one]
      have : (l.set o v)[o]? = some v := by rw [List.getElem?_set]; simp; omega
      rw [this, List.take_set_of_le (Nat.le_refl o)]
      simp
    rw [e2] at k; exact k
theorem Bk.others : ∀ (cs : List Value) (o : Nat) {W : World}, Bk W b t l → b ≠ b' → Bk (W.setCells b' o cs) b t l
  | [], _, _, h, _ => h
  | v :: r, o, W, h, hb => by rw [World.setCells]; exact Bk.others r (o + 1) (h.other hb o v) hb
theorem below_setCells : ∀ (cs : List Value) (o : Nat) {W : World}, Below n w W → n ≤ b → Below n w (W.setCells b o cs)
  | [], _, _, h, _ => h
  | v :: r, o, W, h, hb => by rw [World.setCells]; exact below_setCells r (o + 1) (h.setCell (p := ⟨b, o, none⟩) hb v) hb
end

/-- the cells of a row of bits -/
def cl (f : Nat → Bool) : List Value := (List.range 64).map fun i => .bool (f i)
section
variable {f g : Nat → Bool}
theorem cl_len (f : Nat → Bool) : (cl f).length = 64 := by simp [cl]
theorem cl_get (f : Nat → Bool) {i : Nat} (h : i < 64) : (cl f)[i]? = some (.bool (f i)) := by simp [cl, h]
theorem cl_congr (h : ∀ i, i < 64 → f i = g i) : cl f = cl g := by
  unfold cl
  refine List.map_congr_left fun i hi => ?_
  rw [h i (List.mem_range.1 hi)]
theorem cl_set (f : Nat → Bool) (k : Nat) (b : Bool) : (cl f).set k (.bool b) = cl (fun j => if j = k then b else f j) := by
  apply List.ext_getElem?
  intro i
  rw [List.getElem?_set]
  by_cases hi : i < 64
  · rw [cl_get _ hi, cl_get _ hi, cl_len]
    by_cases hk : k = i
    · subst hk; simp [hi]
    · have : ¬ i = k := fun h => hk h.symm
      simp [hk, this]
  · have h1 : ∀ f, (cl f)[i]? = none := fun f => List.getElem?_eq_none (by rw [cl_len]; omega)
    rw [h1, h1, cl_len]
    by_cases hk : k = i
    · subst hk; simp [hi]
    · simp [hk]
theorem cl_one (f : Nat → Bool) : (cl f).toArray.all (·.oneCell') = true := all_oneCell_toArray fun v hv => by
  simp only [cl, List.mem_map] at hv
  obtain ⟨i, _, rfl⟩ := hv
  rfl
end
theorem ar_under : Try.prog.underlying 35 = some (.array 64 4) := by kernel_rfl
theorem ar_size : (Try.prog.info? 35).map (·.size) = some 64 := by kernel_rfl
theorem ar_of (f : Nat → Bool) : (Try.prog.info? 35).map (·.size) = some (cl f).length := by rw [cl_len]; exact ar_size
theorem ar_ofA (f : Nat → Bool) : (Try.prog.info? 35).map (·.size) = some (cl f).toArray.size := by rw [List.size_toArray]; exact ar_of f

/-- block b holds a row of bits -/
def Rb (W : World) (b : Nat) (f : Nat → Bool) : Prop := Bk W b 35 (cl f)
section
variable {w W W' : World} {b b' n : Nat} {f g : Nat → Bool}
theorem Rb.lt (h : Rb W b f) : b < W.heap.size := Bk.lt h
theorem Rb.cell (h : Rb W b f) {i : Nat} (hi : i < 64) : W.cell? ⟨b, i, none⟩ = some (.bool (f i)) := Bk.cell h i _ (cl_get f hi)
theorem Rb.free (h : Rb W b f) (i : Nat) : W.frozen? ⟨b, i, none⟩ = false := Bk.free h i
theorem Rb.set (h : Rb W b f) (i : Nat) (v : Bool) : Rb (W.setCell ⟨b, i, none⟩ (.bool v)) b (fun j => if j = i then v else f j) := by
  have := Bk.set h i (.bool v)
  rw [cl_set] at this; exact this
theorem Rb.other (h : Rb W b f) (hb : b ≠ b') (i : Nat) (v : Value) : Rb (W.setCell ⟨b', i, none⟩ v) b f := Bk.other h hb i v
theorem Rb.alloc (h : Rb W b f) (o : Obj) : Rb (W.alloc o) b f := Bk.alloc h o
theorem Rb.below (h : Rb W b f) (m : Below W.heap.size W W') : Rb W' b f := Bk.below h m
theorem Rb.new (W : World) (f : Nat → Bool) : Rb (W.alloc (.cells (cl f).toArray 35)) W.heap.size f := Bk.new W _ _
theorem Rb.range (h : Rb W b f) : W.rangeAt b 0 (cl f) := Bk.range h
theorem Rb.there (h : Rb W b f) (g : Nat → Bool) : W.there b 0 (cl g).toArray.size := Bk.there h _ (by rw [List.size_toArray, cl_len, cl_len]; exact Nat.le_refl _)
theorem Rb.all (h : Rb W b f) (g : Nat → Bool) : Rb (W.setCells b 0 (cl g)) b g := by
  have := Bk.setAll (cl g) 0 h (by rw [cl_len, cl_len])
  rw [List.take_zero, List.nil_append] at this; exact this
theorem Rb.others (h : Rb W b f) (g : Nat → Bool) (hb : b ≠ b') : Rb (W.setCells b' 0 (cl g)) b f := Bk.others _ 0 h hb
theorem Rb.congr (h : Rb W b f) (k : ∀ i, i < 64 → f i = g i) : Rb W b g := by
  unfold Rb at h ⊢
  rw [← cl_congr k]; exact h
end

/-! laws at an operation: a whole value into a block of its own -/
section
variable {P : Program} {ops : Array Oper} {rest : List Oper} {op : Oper} {a : Act} {w : World} {Q : Exit → Act → World → Prop}
theorem run_box (w : World) (t : TypeId) (cs : List Value) : (Instr.box t (.agg cs.toArray)).run P w = .ok (.pointer (some ⟨w.heap.size, 0, none⟩)) (w.alloc (.cells cs.toArray t)) := by
  simp [Instr.box, newVar, newRow, Value.cells, go_sem]
theorem wl_box (hgd : op.guard = none) (t : TypeId) (x : Operand) (ho : op.op = .box t x) (cs : List Value) (hx : a.eval x = .agg cs.toArray)
    (h : wpList P ops Q rest (a.put op.dst (.pointer (some ⟨w.heap.size, 0, none⟩))) (w.alloc (.cells cs.toArray t))) : wpList P ops Q (op :: rest) a w :=
  wpList_plain hgd fun _ hK => by
    unfold Oper.wp execOp
    simp only [ho, hx, Sem.run_bind, run_box, Result.andThen_ok, Sem.run_pure]
    exact hK _ _ h
end

/-! the document's Bit -/
set_option maxHeartbeats 400000 in
theorem rbit_any (x n : Int) (hx : U x) (hn : n ≤ 31) (w : World) :
    Calls Try.prog 30 #[.int .u32 x, .int .i64 n] w fun e w' => e = .returned (.bool (bi x n.toNat)) ∧ w = w' := by
  have H0 := Lib.hid (show x = x / 2 ^ 0 by simp)
  go_enter Try.func30, Try.ntmps30
  go_wp2
  go_loop [0, 5] (fun y i => ∃ k : Nat, k ≤ n.toNat ∧ i = .int .i64 k ∧ y = .int .u32 (x / 2 ^ k)) (fun _ i => n.toNat - (intOf i).toNat)
  case atStart => exact ⟨0, Nat.zero_le _, rfl, by rw [← H0.out]⟩
  case round =>
    obtain ⟨k, hk, rfl, rfl⟩ := hrel
    have hb : U (x / 2 ^ k) := by
      have h0 := hx.1
      have h1 := hx.2
      exact ⟨Int.ediv_nonneg h0 (Int.le_of_lt (pw k)), Int.lt_of_le_of_lt (Int.ediv_le_self _ h0) h1⟩
    have h0 := hb.1
    have h1 := hb.2
    by_cases hlt : (k : Int) < n
    · go_wp2
      go_round
      case rel =>
        refine ⟨k + 1, by omega, by go_num, ?_⟩
        rw [dn_step]
      case measure => simp [intOf]; omega
    · have : k = n.toNat := by omega
      subst this
      go_wp2
      go_ret
      exact ⟨rfl, rfl⟩
theorem rbit_as (x n : Int) (p : Bool) (hx : U x) (hn : n ≤ 31) (hp : bi x n.toNat = p) (w : World) :
    Calls Try.prog 30 #[.int .u32 x, .int .i64 n] w fun e w' => e = .returned (.bool p) ∧ w = w' := hp ▸ rbit_any x n hx hn w

end Go.Proofs.Ytfhhlieacmkheaa.Cs
