/- Slices of bytes, as they come in and as calls make them; append; parts of a slice; a specifier and an operand in a variable. No program is walked here. -/
import Derived.Test.YtppkpfkoggnbmaaGreatDoorGMem
import Derived.Test.YtppkpfkoggnbmaaGreatDoorENum
import Derived.WalkKit
import Derived.Deep.Slices
import Derived.ChangeSame
namespace Go.Proofs.YtppkpfkoggnbmaaGreatDoor.Cs.Es
open Go.RowKit Go.ChangeShapes Go.WideShapes

/-- Bytes as cells. -/
def cel (xs : List Int) : List Value := xs.map fun x => .int .u8 x
theorem cel_length (xs : List Int) : (cel xs).length = xs.length := by simp [cel]
theorem cel_get (xs : List Int) (i : Nat) (h : i < xs.length) : (cel xs)[i]? = some (.int .u8 (xs.getD i 0)) := by
  simp [cel, List.getD, h]
theorem cel_one (xs : List Int) : ∀ v ∈ cel xs, v.oneCell' = true := by
  intro v hv
  simp only [cel, List.mem_map] at hv
  obtain ⟨x, _, rfl⟩ := hv
  rfl
theorem block_add (a : Addr) (n : Nat) : (a.add n).block = a.block := by unfold Addr.add; split <;> rfl
theorem Addr.add_lit' (b j : Nat) : (⟨b, 0, none⟩ : Addr).add j = ⟨b, j, none⟩ := by unfold Addr.add; split <;> simp_all

/-- A slice of bytes that is read. -/
structure By (w : World) (A : Option Addr) (n c : Nat) (ys : List Int) : Prop where
  len : ys.length = n
  byt : Byt ys
  src : 0 < ys.length → ∃ ad : Addr, A = some ad ∧ ad.block < w.heap.size ∧ ∀ j v, (cel ys)[j]? = some v → w.cell? (ad.add j) = some v
  cap : n ≤ c
  max : c ≤ 9223372036854775807
section
variable {w W : World} {A : Option Addr} {n c : Nat} {ys : List Int}
theorem By.below {B : Nat} (h : By w A n c ys) (hb : Below B w W) (hB : w.heap.size ≤ B) : By W A n c ys :=
  ⟨h.len, h.byt, fun h0 => by
    obtain ⟨ad, e, hlt, hc⟩ := h.src h0
    exact ⟨ad, e, Nat.lt_of_lt_of_le hlt hb.size, fun j v hv => (hb.cell (by rw [block_add]; omega)).trans (hc j v hv)⟩, h.cap, h.max⟩
theorem By.drew (h : By w A n c ys) : By w.drew A n c ys := h.below ((Below.refl _ _).drew) (Nat.le_refl _)
theorem By.at_ (h : By w A n c ys) {j : Nat} (hj : j < n) : ∃ ad : Addr, A = some ad ∧ w.cell? (ad.add j) = some (.int .u8 (ys.getD j 0)) := by
  obtain ⟨ad, e, _, hc⟩ := h.src (by rw [h.len]; omega)
  exact ⟨ad, e, hc j _ (cel_get _ _ (by rw [h.len]; omega))⟩
theorem By.some_ (h : By w A n c ys) (hn : 0 < n) : ∃ ad : Addr, A = some ad := by
  obtain ⟨ad, e, _⟩ := h.src (by rw [h.len]; omega)
  exact ⟨ad, e⟩
theorem By.take {k : Nat} (h : By w A n c ys) (hk : k ≤ n) : By w A k c (ys.take k) := by
  refine ⟨by rw [List.length_take, h.len]; omega, h.byt.take _, fun h0 => ?_, by have := h.cap; omega, h.max⟩
  obtain ⟨ad, e, hl, hc⟩ := h.src (by rw [List.length_take] at h0; omega)
  refine ⟨ad, e, hl, fun j v hv => hc j v ?_⟩
  rw [cel, List.map_take, List.getElem?_take] at hv
  split at hv
  · exact hv
  · cases hv
theorem By.drop {ad : Addr} {k : Nat} (h : By w (some ad) n c ys) (hk : k ≤ n) : By w (some (if c = k then ad else ad.add k)) (n - k) (c - k) (ys.drop k) := by
  have hl := h.len
  have h1 := h.cap
  have h2 := h.max
  split
  · rename_i e
    have e2 : ys.drop k = [] := List.drop_eq_nil_of_le (by omega)
    rw [e2]
    exact ⟨by simp; omega, Byt.nil, fun h0 => by simp at h0, by omega, by omega⟩
  · refine ⟨by rw [List.length_drop]; omega, h.byt.drop _, fun h0 => ?_, by omega, by omega⟩
    obtain ⟨ad', e, hl, hc⟩ := h.src (by rw [List.length_drop] at h0; omega)
    injection e with e
    subst e
    refine ⟨_, rfl, by rw [block_add]; exact hl, fun j v hv => ?_⟩
    rw [Deep.add_add]
    refine hc (k + j) v ?_
    rw [cel, List.map_drop, List.getElem?_drop] at hv
    exact hv
end

theorem under_slice : Tryz.prog.underlying 22 = some (.slice 5) := by kernel_rfl
theorem u8_info : (Tryz.prog.info? 5).map (fun i => (i.zero, i.size, i.bytes)) = some (some (.int .u8 0), 1, 1) := by kernel_rfl

/-- Parts of a slice. -/
theorem run_hi (ad : Addr) (n c k : Nat) (h : k ≤ c) (w : World) : (Instr.slice 22 (.slice (some ad) n c) none (some (.int .i64 k)) none).run Tryz.prog w = .ok (.slice (some ad) k c) w := by
  simp [Instr.slice, Instr.sliceBounds, Instr.sliceBound, asIntOf, run_underlying under_slice, go_sem]
  intro h'
  omega
theorem run_lo (ad : Addr) (n c k : Nat) (h : k ≤ n) (w : World) : (Instr.slice 22 (.slice (some ad) n c) (some (.int .i64 k)) none none).run Tryz.prog w = .ok (.slice (some (if c = k then ad else ad.add k)) (n - k) (c - k)) w := by
  simp [Instr.slice, Instr.sliceBounds, Instr.sliceBound, asIntOf, run_underlying under_slice, go_sem, h]
  split <;> rfl
theorem run_mid (ad : Addr) (n c k m : Nat) (h : k ≤ m) (h2 : m ≤ c) (w : World) : (Instr.slice 22 (.slice (some ad) n c) (some (.int .i64 k)) (some (.int .i64 m)) none).run Tryz.prog w = .ok (.slice (some (if c = k then ad else ad.add k)) (m - k) (c - k)) w := by
  simp [Instr.slice, Instr.sliceBounds, Instr.sliceBound, asIntOf, run_underlying under_slice, go_sem]
  by_cases h5 : c = k
  · subst h5
    simp [h, h2]
  · simp [h5, h2]
    intro h6
    omega

/-- A row of bytes of one's own. -/
def R8 (w : World) (v : Value) (ys : List Int) : Prop := w.ownsRow 0 5 1 v ys.length (cel ys)
theorem R8.nil (w : World) : R8 w (.slice none 0 0) [] := ⟨by simp [cel], .inl ⟨rfl, rfl⟩⟩
theorem R8.lit (w : World) (ys : List Int) (n : Nat) (hn : ys.length = n) (hm : n ≤ 1000) : R8 (w.alloc (.cells (cel ys).toArray 5)) (.slice (some ⟨w.heap.size, 0, none⟩) n n) ys := by
  subst hn
  have := World.ownsRow_lit (e := 5) (size := 1) (base := 0) w (cel ys).toArray ys.length (Nat.zero_le _) (by simp only [maxLen]; omega) (by simp [cel])
  exact this
theorem R8.shape {w : World} {v : Value} {l : List Int} (h : R8 w v l) : ∃ A c, v = .slice A l.length c := by
  rcases own_shape h with ⟨rfl, h0⟩ | ⟨r, cap, rfl, _⟩
  · exact ⟨none, 0, by rw [h0]⟩
  · exact ⟨_, cap, rfl⟩
theorem R8.by {w : World} {A : Option Addr} {n c : Nat} {ys : List Int} (h : R8 w (.slice A n c) ys) (hn : ys.length = n) (hb : Byt ys) : By w A n c ys := by
  rcases own_shape h with ⟨h1, h0⟩ | ⟨r, cap, e, hc, hm, hrl, hcs, _⟩
  · injection h1 with h1 h2 h3
    subst h1 h3
    exact ⟨hn, hb, fun hh => by omega, by omega, by omega⟩
  · injection e with e1 e2 e3
    subst e1 e3
    refine ⟨hn, hb, fun _ => ⟨_, rfl, hrl, fun j v hv => ?_⟩, by omega, hm⟩
    rw [Addr.add_lit']
    exact hcs j v hv

/-- append of bytes to a row of one's own. -/
theorem run_app8 (w : World) (v : Value) (ys zs : List Int) (A : Option Addr) (m c : Nat) (h : R8 w v ys) (hs : By w A m c zs) (hl : ys.length + m ≤ 1000000000) :
    ∃ A' c' w', (Builtin.append_ #[22, 22] 22 #[v, .slice A m c]).run Tryz.prog w = .ok (.slice A' (ys.length + m) c') w' ∧
      Hid (R8 w' (.slice A' (ys.length + m) c') (ys ++ zs) ∧ Step (Bl v) (Bl (.slice A' (ys.length + m) c')) w w') := by
  obtain ⟨i, hi, hz, hsz, hb⟩ := info_parts u8_info
  by_cases h0 : m = 0
  · subst h0
    obtain rfl : zs = [] := List.eq_nil_of_length_eq_zero hs.len
    have h' := h
    rcases own_shape h' with ⟨rfl, h1⟩ | ⟨r, cap, rfl, h2, h3, _⟩
    all_goals
      refine ⟨_, _, w, ?_, by rw [List.append_nil]; first | exact h | (rw [h1] at *; exact h), Step.of_below (Below.refl _ _)⟩
      cases A <;> simp [*, Builtin.append_, run_underlying under_slice, sizeOf, typeInfo, Builtin.lenOf, Builtin.firstCells, loadCells, loadCellsFrom, storeCells]
  · obtain ⟨ad, rfl, hlt, hc⟩ := hs.src (by rw [hs.len]; omega)
    obtain ⟨v', w', hrun, ho, hg, _, hat⟩ := run_append_own_at (P := Tryz.prog) w 0 22 22 5 i (.int .u8 0) 1 1 under_slice hi hz hsz hb rfl (by omega) v ys.length (cel ys) h ad m c (cel zs)
      (by rw [cel_length, hs.len]; omega) (fun j u hj => hc j u hj) (cel_one _) (by simp only [maxLen]; omega) (by omega) (by simp)
    have hR : R8 w' v' (ys ++ zs) := by
      show w'.ownsRow _ _ _ _ _ _
      have e : cel (ys ++ zs) = cel ys ++ cel zs := by simp [cel]
      rw [List.length_append, e, hs.len]; exact ho
    obtain ⟨A', c', rfl⟩ := hR.shape
    have e : (ys ++ zs).length = ys.length + m := by rw [List.length_append, hs.len]
    rw [e] at hrun hR hat
    refine ⟨A', c', w', hrun, hR, ?_, ?_⟩
    · exact Mods.of_grown hg (fun k e => e)
    · intro k hk
      rcases hat with e | e
      · exact .inl (by rw [Bl, ← e]; exact hk)
      · right
        rw [Bl, e] at hk
        injection hk with hk
        omega

/-- Block g is a variable of type T with these cells. -/
def Bk (w : World) (g T : Nat) (cs : List Value) : Prop := w.heap[g]? = some (.cells cs.toArray T (0, 0))
section
variable {w W : World} {g T : Nat} {cs : List Value}
theorem Bk.lt (h : Bk w g T cs) : g < w.heap.size := lt_of_heap h
theorem Bk.new (w : World) (T : Nat) (cs : List Value) : Bk (w.alloc (.cells cs.toArray T)) w.heap.size T cs := heap_alloc_new _ _
theorem Bk.below {B : Nat} (h : Bk w g T cs) (b : Below B w W) (hB : w.heap.size ≤ B) : Bk W g T cs := (b.block _ (by have := h.lt; omega)).trans h
theorem Bk.cell (h : Bk w g T cs) (i : Nat) (v : Value) (hv : cs[i]? = some v) : w.cell? ⟨g, i, none⟩ = some v := by
  rw [cell_of_row w g i _ _ _ h]; simpa using hv
theorem Bk.free (h : Bk w g T cs) (i : Nat) : w.frozen? ⟨g, i, none⟩ = false := frozen_of_row w g i _ _ h
theorem Bk.set (h : Bk w g T cs) (i : Nat) (v : Value) : Bk (w.setCell ⟨g, i, none⟩ v) g T (cs.set i v) := by
  show _ = _
  rw [heap_setCell_same w g i _ _ v h]
  simp
theorem Bk.far (h : Bk w g T cs) {p : Nat} (hp : g ≠ p) (i : Nat) (v : Value) : Bk (w.setCell ⟨p, i, none⟩ v) g T cs := by
  show _ = _
  rw [Below.heap_setCell _ _ _ _ hp]; exact h
end
theorem bcell {W w1 : World} (hb : Below W.heap.size W w1) : (∀ b o, b < W.heap.size → w1.cell? ⟨b, o, none⟩ = W.cell? ⟨b, o, none⟩) ∧ (∀ b o, b < W.heap.size → w1.frozen? ⟨b, o, none⟩ = W.frozen? ⟨b, o, none⟩) :=
  ⟨fun b o h => hb.cell (p := ⟨b, o, none⟩) h, fun b o h => hb.frozen (p := ⟨b, o, none⟩) h⟩
theorem al1 (w : World) (o : Obj) : Below w.heap.size w (w.alloc o) := (Below.refl _ _).alloc (Nat.le_refl _) _

end Go.Proofs.YtppkpfkoggnbmaaGreatDoor.Cs.Es
