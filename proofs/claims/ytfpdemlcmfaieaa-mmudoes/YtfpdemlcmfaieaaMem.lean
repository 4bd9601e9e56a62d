/- A memory of layer 2, as it lies in the model's world: the struct's block, and the block of its bytes. No program is walked here. -/
import Derived.Below
import Derived.Laws.CopyOwn
import Derived.Laws.Rows
import Derived.Laws.OwnMore
import Derived.OwnWalk
import Derived.Deep.Draws
import Derived.Lib.Hide
import Derived.Test.YtfpdemlcmfaieaaChecked
import Derived.KernelRfl
namespace Go.Proofs.Ytfpdemlcmfaieaa.Rm
open Go.RowKit

/-- Bytes as cells. -/
def cel (xs : List Int) : List Value := xs.map fun x => .int .u8 x
theorem cel_length (xs : List Int) : (cel xs).length = xs.length := by simp [cel]
theorem cel_get (xs : List Int) (i : Nat) (h : i < xs.length) : (cel xs)[i]? = some (.int .u8 (xs.getD i 0)) := by
  simp [cel, List.getD, h]
theorem cel_one (xs : List Int) : ∀ v ∈ cel xs, v.oneCell' = true := by
  intro v hv
  simp only [cel, List.mem_map] at hv
  obtain ⟨x, _, rfl⟩ := hv
  rfl
theorem cel_splice (xs ys : List Int) (a : Nat) : splice (cel xs) a (cel ys) = cel (splice xs a ys) := by
  simp [splice, cel, List.map_take, List.map_drop]
theorem cel_zeros (n : Nat) : (madeCells (Value.int .u8 0).cells n).toList = cel (List.replicate n 0) := by
  have : (Value.int .u8 0).cells = #[.int .u8 0] := rfl
  rw [this, toList_madeCells_one]; simp [cel]
theorem cel_made (n : Nat) : madeCells (Value.int .u8 0).cells n = (cel (List.replicate n 0)).toArray := by
  apply Array.toList_inj.1
  rw [cel_zeros]

/-- Every number is a byte. -/
def Byt (xs : List Int) : Prop := ∀ x ∈ xs, 0 ≤ x ∧ x < 256
theorem Byt.zeros (n : Nat) : Byt (List.replicate n 0) := by
  intro x hx
  have := List.eq_of_mem_replicate hx
  subst this; omega
theorem Byt.drop {xs : List Int} (h : Byt xs) (n : Nat) : Byt (xs.drop n) := fun x hx => h x (List.mem_of_mem_drop hx)
theorem Byt.take {xs : List Int} (h : Byt xs) (n : Nat) : Byt (xs.take n) := fun x hx => h x (List.mem_of_mem_take hx)
theorem Byt.app {xs ys : List Int} (h : Byt xs) (k : Byt ys) : Byt (xs ++ ys) := fun x hx => by
  rcases List.mem_append.1 hx with hx | hx
  · exact h x hx
  · exact k x hx
theorem Byt.splice {xs ys : List Int} (h : Byt xs) (k : Byt ys) (a : Nat) : Byt (splice xs a ys) :=
  (h.take _).app (k.app (h.drop _))
theorem Byt.at_ {xs : List Int} (h : Byt xs) (i : Nat) : 0 ≤ xs.getD i 0 ∧ xs.getD i 0 < 256 := by
  by_cases hi : i < xs.length
  · simp only [List.getD, List.getElem?_eq_getElem hi, Option.getD_some]
    exact h _ (List.getElem_mem hi)
  · simp [List.getD, List.getElem?_eq_none (by omega : xs.length ≤ i)]

/-- Block g is a Ram whose bytes are block r: xs. -/
structure Mem (w : World) (g r : Nat) (xs : List Int) : Prop where
  box : w.heap[g]? = some (.cells #[.slice (some ⟨r, 0, none⟩) xs.length xs.length] 81 (0, 0))
  row : w.heap[r]? = some (.cells (cel xs).toArray 5 (0, 0))
  byt : Byt xs
  len : xs.length ≤ 16777216

theorem lt_of_heap {w : World} {k : Nat} {o : Obj} (h : w.heap[k]? = some o) : k < w.heap.size := by
  rcases Nat.lt_or_ge k w.heap.size with hlt | hge
  · exact hlt
  · rw [Array.getElem?_eq_none hge] at h; cases h

section
variable {w w' : World} {g r : Nat} {xs : List Int}
theorem Mem.glt (h : Mem w g r xs) : g < w.heap.size := lt_of_heap h.box
theorem Mem.rlt (h : Mem w g r xs) : r < w.heap.size := lt_of_heap h.row
theorem Mem.ne (h : Mem w g r xs) : g ≠ r := by
  rintro rfl
  have := h.box.symm.trans h.row
  injection this with this
  injection this with _ ht
  exact absurd ht (by decide)
theorem Mem.cell (h : Mem w g r xs) : w.cell? ⟨g, 0, none⟩ = some (.slice (some ⟨r, 0, none⟩) xs.length xs.length) := by
  simpa using cell_of_row w g 0 _ _ _ h.box
theorem Mem.byte (h : Mem w g r xs) {i : Nat} (hi : i < xs.length) : w.cell? ⟨r, i, none⟩ = some (.int .u8 (xs.getD i 0)) := by
  have := cell_of_row w r i _ _ _ h.row
  rw [this]
  simpa using cel_get xs i hi
theorem Mem.keep (h : Mem w g r xs) (hg : w'.heap[g]? = w.heap[g]?) (hr : w'.heap[r]? = w.heap[r]?) : Mem w' g r xs :=
  ⟨hg.trans h.box, hr.trans h.row, h.byt, h.len⟩
theorem Mem.below {B : Nat} (h : Mem w g r xs) (hb : Below B w w') (hg : g < B) (hr : r < B) : Mem w' g r xs :=
  h.keep (hb.block g hg) (hb.block r hr)
theorem Mem.below_ (h : Mem w g r xs) (hb : Below w.heap.size w w') : Mem w' g r xs := h.below hb h.glt h.rlt
theorem Mem.grown {b : Nat} (h : Mem w g r xs) (hb : w.grownBy w' (some b)) (hg : g ≠ b) (hr : r ≠ b) : Mem w' g r xs :=
  h.keep (hb.block g h.glt (by simpa using hg)) (hb.block r h.rlt (by simpa using hr))
end

theorem below_of_grown {B b : Nat} {w0 w w' : World} (h : Below B w0 w) (hg : w.grownBy w' (some b)) (hB : B ≤ w.heap.size) (hb : B ≤ b) : Below B w0 w' :=
  h.grown hg hB (fun k e => by cases e; exact hb)
theorem grown_trans {a b c : World} {row : Option Nat} (h : a.grownBy b row) (k : b.grownBy c row) : a.grownBy c row :=
  ⟨k.os.trans h.os, k.tape.trans h.tape, k.output.trans h.output, Nat.le_trans h.size k.size, fun i hi hne => (k.block i (Nat.lt_of_lt_of_le hi h.size) hne).trans (h.block i hi hne)⟩
theorem grown_of_below {a b : World} (h : Below a.heap.size a b) (row : Option Nat) : a.grownBy b row :=
  ⟨h.os, h.tape, h.output, h.size, fun i hi _ => h.block i hi⟩

/-- What a slice has, read as bytes; nil let in. -/
def Src (w : World) (A : Option Addr) (ys : List Int) : Prop :=
  0 < ys.length → ∃ ad : Addr, A = some ad ∧ ad.block < w.heap.size ∧ ∀ j v, (cel ys)[j]? = some v → w.cell? (ad.add j) = some v
theorem block_add (a : Addr) (n : Nat) : (a.add n).block = a.block := by unfold Addr.add; split <;> rfl
theorem Src.below {w w' : World} {A : Option Addr} {ys : List Int} (h : Src w A ys) (hb : Below w.heap.size w w') : Src w' A ys := fun h0 => by
  obtain ⟨ad, e, hlt, hc⟩ := h h0
  exact ⟨ad, e, Nat.lt_of_lt_of_le hlt hb.size, fun j v hv => (hb.cell (by rw [block_add]; exact hlt)).trans (hc j v hv)⟩
theorem Src.of_row {w : World} {b : Nat} {ys : List Int} (h : w.heap[b]? = some (.cells (cel ys).toArray 5 (0, 0))) : Src w (some ⟨b, 0, none⟩) ys := fun _ =>
  ⟨_, rfl, lt_of_heap h, fun j v hv => by
    have hadd : (⟨b, 0, none⟩ : Addr).add j = ⟨b, j, none⟩ := by unfold Addr.add; split <;> simp_all
    rw [hadd, cell_of_row w b j _ _ _ h]
    simpa using hv⟩

theorem under_slice : Try.prog.underlying 22 = some (.slice 5) := by kernel_rfl
theorem u8_info : (Try.prog.info? 5).map (fun i => (i.zero, i.size, i.bytes)) = some (some (.int .u8 0), 1, 1) := by kernel_rfl
theorem u8_size : (Try.prog.info? 5).map (·.size) = some 1 := by kernel_rfl
theorem run_make_bytes (n : Nat) (hn : n ≤ 1099511627776) (w : World) :
    (Instr.makeSlice 22 (.int .i64 (n : Int)) (.int .i64 (n : Int))).run Try.prog w = .ok (.slice (some ⟨w.heap.size, 0, none⟩) n n) (w.alloc (.cells (cel (List.replicate n 0)).toArray 5)) := by
  obtain ⟨i, hi, hz, hs, hb⟩ := info_parts u8_info
  have hr := run_make (P := Try.prog) w _ _ i _ under_slice hi hz .i64 .i64 n n (by omega) (by omega) (by rw [hb]; omega) (by omega)
  rw [hs, Nat.mul_one] at hr
  simp only [Int.toNat_natCast] at hr
  rw [hr, cel_made]

end Go.Proofs.Ytfpdemlcmfaieaa.Rm
