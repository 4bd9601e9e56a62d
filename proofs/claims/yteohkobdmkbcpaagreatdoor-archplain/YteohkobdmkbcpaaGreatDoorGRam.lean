import Derived.Below
import Derived.Laws.CopyOwn
import Derived.Laws.Rows
import Derived.Laws.OwnMore
import Derived.OwnWalk
import Derived.Deep.Draws
import Derived.Lib.Hide
import Derived.Test.YteohkobdmkbcpaaGreatDoorChecked
import Derived.KernelRfl
import Derived.WalkKit
import Derived.WalkLawsBesides
import Derived.Outline
import Derived.OpenShut
import Derived.Deep.RegionLaw
import Derived.Maps.AppendAt
import Derived.Laws.BytesString

/- A memory of layer 2, as it lies in the model's world: the struct's block, and the block of its bytes. No program is walked here. -/
namespace Go.Proofs.YteohkobdmkbcpaaGreatDoor.Rm
open Go.RowKit

/-- Bytes as cells. -/
def cel (xs : List Int) : List Value := xs.map fun x => .int .u8 x
theorem cel_length (xs : List Int) : (cel xs).length = xs.length := by simp [cel]
theorem cel_get (xs : List Int) (i : Nat) (h : i < xs.length) : (cel xs)[i]? = some (.int .u8 (xs.getD i 0)) := by
  simp [cel, List.getD, h]
theorem cel_one (xs : List Int) : ∀ v ∈ cel xs, v.oneCell' = true := by
  intro v hv
  simp only [cel, List.mem_map] at hv
  obtain ⟨x, _, rfl⟩ := hv
  rfl
theorem cel_splice (xs ys : List Int) (a : Nat) : splice (cel xs) a (cel ys) = cel (splice xs a ys) := by
  simp [splice, cel, List.map_take, List.map_drop]
theorem cel_zeros (n : Nat) : (madeCells (Value.int .u8 0).cells n).toList = cel (List.replicate n 0) := by
  have : (Value.int .u8 0).cells = #[.int .u8 0] := rfl
  rw [this, toList_madeCells_one]; simp [cel]
theorem cel_made (n : Nat) : madeCells (Value.int .u8 0).cells n = (cel (List.replicate n 0)).toArray := by
  apply Array.toList_inj.1
  rw [cel_zeros]

/-- Every number is a byte. -/
def Byt (xs : List Int) : Prop := ∀ x ∈ xs, 0 ≤ x ∧ x < 256
theorem Byt.zeros (n : Nat) : Byt (List.replicate n 0) := by
  intro x hx
  have := List.eq_of_mem_replicate hx
  subst this; omega
theorem Byt.drop {xs : List Int} (h : Byt xs) (n : Nat) : Byt (xs.drop n) := fun x hx => h x (List.mem_of_mem_drop hx)
theorem Byt.take {xs : List Int} (h : Byt xs) (n : Nat) : Byt (xs.take n) := fun x hx => h x (List.mem_of_mem_take hx)
theorem Byt.app {xs ys : List Int} (h : Byt xs) (k : Byt ys) : Byt (xs ++ ys) := fun x hx => by
  rcases List.mem_append.1 hx with hx | hx
  · exact h x hx
  · exact k x hx
theorem Byt.splice {xs ys : List Int} (h : Byt xs) (k : Byt ys) (a : Nat) : Byt (splice xs a ys) :=
  (h.take _).app (k.app (h.drop _))
theorem Byt.at_ {xs : List Int} (h : Byt xs) (i : Nat) : 0 ≤ xs.getD i 0 ∧ xs.getD i 0 < 256 := by
  by_cases hi : i < xs.length
  · simp only [List.getD, List.getElem?_eq_getElem hi, Option.getD_some]
    exact h _ (List.getElem_mem hi)
  · simp [List.getD, List.getElem?_eq_none (by omega : xs.length ≤ i)]

/-- Block g is a Ram whose bytes are block r: xs. -/
structure Mem (w : World) (g r : Nat) (xs : List Int) : Prop where
  box : w.heap[g]? = some (.cells #[.slice (some ⟨r, 0, none⟩) xs.length xs.length] 85 (0, 0))
  row : w.heap[r]? = some (.cells (cel xs).toArray 5 (0, 0))
  byt : Byt xs
  len : xs.length ≤ 16777216

theorem lt_of_heap {w : World} {k : Nat} {o : Obj} (h : w.heap[k]? = some o) : k < w.heap.size := by
  rcases Nat.lt_or_ge k w.heap.size with hlt | hge
  · exact hlt
  · rw [Array.getElem?_eq_none hge] at h; cases h

section
variable {w w' : World} {g r : Nat} {xs : List Int}
theorem Mem.glt (h : Mem w g r xs) : g < w.heap.size := lt_of_heap h.box
theorem Mem.rlt (h : Mem w g r xs) : r < w.heap.size := lt_of_heap h.row
theorem Mem.ne (h : Mem w g r xs) : g ≠ r := by
  rintro rfl
  have := h.box.symm.trans h.row
  injection this with this
  injection this with _ ht
  exact absurd ht (by decide)
theorem Mem.cell (h : Mem w g r xs) : w.cell? ⟨g, 0, none⟩ = some (.slice (some ⟨r, 0, none⟩) xs.length xs.length) := by
  simpa using cell_of_row w g 0 _ _ _ h.box
theorem Mem.byte (h : Mem w g r xs) {i : Nat} (hi : i < xs.length) : w.cell? ⟨r, i, none⟩ = some (.int .u8 (xs.getD i 0)) := by
  have := cell_of_row w r i _ _ _ h.row
  rw [this]
  simpa using cel_get xs i hi
theorem Mem.keep (h : Mem w g r xs) (hg : w'.heap[g]? = w.heap[g]?) (hr : w'.heap[r]? = w.heap[r]?) : Mem w' g r xs :=
  ⟨hg.trans h.box, hr.trans h.row, h.byt, h.len⟩
theorem Mem.below {B : Nat} (h : Mem w g r xs) (hb : Below B w w') (hg : g < B) (hr : r < B) : Mem w' g r xs :=
  h.keep (hb.block g hg) (hb.block r hr)
theorem Mem.below_ (h : Mem w g r xs) (hb : Below w.heap.size w w') : Mem w' g r xs := h.below hb h.glt h.rlt
theorem Mem.grown {b : Nat} (h : Mem w g r xs) (hb : w.grownBy w' (some b)) (hg : g ≠ b) (hr : r ≠ b) : Mem w' g r xs :=
  h.keep (hb.block g h.glt (by simpa using hg)) (hb.block r h.rlt (by simpa using hr))
end

theorem below_of_grown {B b : Nat} {w0 w w' : World} (h : Below B w0 w) (hg : w.grownBy w' (some b)) (hB : B ≤ w.heap.size) (hb : B ≤ b) : Below B w0 w' :=
  h.grown hg hB (fun k e => by cases e; exact hb)
theorem grown_trans {a b c : World} {row : Option Nat} (h : a.grownBy b row) (k : b.grownBy c row) : a.grownBy c row :=
  ⟨k.os.trans h.os, k.tape.trans h.tape, k.output.trans h.output, Nat.le_trans h.size k.size, fun i hi hne => (k.block i (Nat.lt_of_lt_of_le hi h.size) hne).trans (h.block i hi hne)⟩
theorem grown_of_below {a b : World} (h : Below a.heap.size a b) (row : Option Nat) : a.grownBy b row :=
  ⟨h.os, h.tape, h.output, h.size, fun i hi _ => h.block i hi⟩

/-- What a slice has, read as bytes; nil let in. -/
def Src (w : World) (A : Option Addr) (ys : List Int) : Prop :=
  0 < ys.length → ∃ ad : Addr, A = some ad ∧ ad.block < w.heap.size ∧ ∀ j v, (cel ys)[j]? = some v → w.cell? (ad.add j) = some v
theorem block_add (a : Addr) (n : Nat) : (a.add n).block = a.block := by unfold Addr.add; split <;> rfl
theorem Src.below {w w' : World} {A : Option Addr} {ys : List Int} (h : Src w A ys) (hb : Below w.heap.size w w') : Src w' A ys := fun h0 => by
  obtain ⟨ad, e, hlt, hc⟩ := h h0
  exact ⟨ad, e, Nat.lt_of_lt_of_le hlt hb.size, fun j v hv => (hb.cell (by rw [block_add]; exact hlt)).trans (hc j v hv)⟩
theorem Src.of_row {w : World} {b : Nat} {ys : List Int} (h : w.heap[b]? = some (.cells (cel ys).toArray 5 (0, 0))) : Src w (some ⟨b, 0, none⟩) ys := fun _ =>
  ⟨_, rfl, lt_of_heap h, fun j v hv => by
    have hadd : (⟨b, 0, none⟩ : Addr).add j = ⟨b, j, none⟩ := by unfold Addr.add; split <;> simp_all
    rw [hadd, cell_of_row w b j _ _ _ h]
    simpa using hv⟩

theorem under_slice : Tryz.prog.underlying 22 = some (.slice 5) := by kernel_rfl
theorem u8_info : (Tryz.prog.info? 5).map (fun i => (i.zero, i.size, i.bytes)) = some (some (.int .u8 0), 1, 1) := by kernel_rfl
theorem u8_size : (Tryz.prog.info? 5).map (·.size) = some 1 := by kernel_rfl
theorem run_make_bytes (n : Nat) (hn : n ≤ 1099511627776) (w : World) :
    (Instr.makeSlice 22 (.int .i64 (n : Int)) (.int .i64 (n : Int))).run Tryz.prog w = .ok (.slice (some ⟨w.heap.size, 0, none⟩) n n) (w.alloc (.cells (cel (List.replicate n 0)).toArray 5)) := by
  obtain ⟨i, hi, hz, hs, hb⟩ := info_parts u8_info
  have hr := run_make (P := Tryz.prog) w _ _ i _ under_slice hi hz .i64 .i64 n n (by omega) (by omega) (by rw [hb]; omega) (by omega)
  rw [hs, Nat.mul_one] at hr
  simp only [Int.toNat_natCast] at hr
  rw [hr, cel_made]

end Go.Proofs.YteohkobdmkbcpaaGreatDoor.Rm

/- Contracts of package ram: New, Size, has, holds. -/
namespace Go.Proofs.YteohkobdmkbcpaaGreatDoor.Rm
open Go.RowKit

/-- How many bytes a memory of a size has. -/
def sized (n : Int) : Nat := (max 0 (min n 16777216)).toNat
theorem sized_nat (n : Nat) (h : n ≤ 16777216) : sized n = n := by unfold sized; omega
theorem sized_le (n : Int) : sized n ≤ 16777216 := by unfold sized; omega

/-- A new memory, all noughts. -/
def NewMem (w : World) (n : Nat) (e : Ending) (w' : World) : Prop :=
  ∃ g r, e = .returned (.pointer (some ⟨g, 0, none⟩)) ∧ w.heap.size ≤ g ∧ w.heap.size ≤ r ∧ Mem w' g r (List.replicate n 0) ∧ Below w.heap.size w w'

theorem heap_new (w : World) (o : Obj) : (w.alloc o).heap[w.heap.size]? = some o := by
  show (w.heap.push o)[w.heap.size]? = _
  simp

theorem run_make_at (n : Int) (k : Nat) (h : n = k) (hk : k ≤ 1099511627776) (w : World) :
    (Instr.makeSlice 22 (.int .i64 n) (.int .i64 n)).run Tryz.prog w = .ok (.slice (some ⟨w.heap.size, 0, none⟩) k k) (w.alloc (.cells (cel (List.replicate k 0)).toArray 5)) := by
  subst h; exact run_make_bytes k hk w

theorem new_mem (w : World) (n : Nat) (hn : n ≤ 16777216) :
    NewMem w n (.returned (.pointer (some ⟨w.heap.size + 1, 0, none⟩)))
      ((w.alloc (.cells (cel (List.replicate n 0)).toArray 5)).alloc (.cells #[.slice (some ⟨w.heap.size, 0, none⟩) n n] 85)) := by
  refine ⟨_, w.heap.size, rfl, by omega, Nat.le_refl _, ⟨?_, ?_, Byt.zeros _, by simpa using hn⟩, ((Below.refl _ _).alloc (Nat.le_refl _) _).alloc (by simp) _⟩
  · have := heap_new (w.alloc (.cells (cel (List.replicate n 0)).toArray 5)) (.cells #[.slice (some ⟨w.heap.size, 0, none⟩) n n] 85)
    simpa using this
  · rw [Below.heap_alloc _ _ _ (by simp)]
    exact heap_new _ _

set_option maxHeartbeats 400000 in
set_option maxRecDepth 100000 in
theorem new_any (n : Int) (w : World) :
    Calls Tryz.prog 25 #[.int .i64 n] w (NewMem w (sized n)) := by
  obtain ⟨k, hk⟩ : ∃ k, sized n = k := ⟨_, rfl⟩
  have hle : k ≤ 16777216 := hk ▸ sized_le n
  rw [hk]
  have H := new_mem w k hle
  by_cases h1 : n ≤ 0
  · have h2 : n ≤ 16777216 := by omega
    have hmk := fun W => run_make_at 0 k (by unfold sized at hk; omega) (by omega) W
    clear hk
    go_enter Tryz.func25, Tryz.ntmps25
    go_wp2
    go_ret
    exact H
  · have h1' : 0 < n := by omega
    by_cases h2 : n ≤ 16777216
    · have hmk := fun W => run_make_at n k (by unfold sized at hk; omega) (by omega) W
      clear hk
      go_enter Tryz.func25, Tryz.ntmps25
      go_wp2
      go_ret
      exact H
    · have h2' : 16777216 < n := by omega
      have hmk := fun W => run_make_at 16777216 k (by unfold sized at hk; omega) (by omega) W
      clear hk
      go_enter Tryz.func25, Tryz.ntmps25
      go_wp2
      go_ret
      exact H

set_option maxHeartbeats 400000 in
set_option maxRecDepth 100000 in
theorem size_any (g r : Nat) (xs : List Int) (w : World) (h : Mem w g r xs) :
    Calls Tryz.prog 198 #[.pointer (some ⟨g, 0, none⟩)] w fun e w' => e = .returned (.int .i64 xs.length) ∧ w = w' := by
  have hc := h.cell
  have hl := h.len
  clear h
  go_enter Tryz.func198, Tryz.ntmps198
  go_wp2
  go_ret
  exact ⟨rfl, rfl⟩

set_option maxHeartbeats 400000 in
set_option maxRecDepth 100000 in
theorem has_ok (g r : Nat) (xs : List Int) (a n : Int) (w : World) (h : Mem w g r xs) (ha : 0 ≤ a) (hn : 0 ≤ n) (hf : a + n ≤ xs.length) :
    Calls Tryz.prog 39 #[.pointer (some ⟨g, 0, none⟩), .int .u32 a, .int .i64 n] w fun e w' => e = .returned (.int .i64 0) ∧ w = w' := by
  have hc := h.cell
  have hl := h.len
  have hn' : ¬ n < 0 := by omega
  have hf' : ¬ (xs.length : Int) - a < n := by omega
  clear h
  go_enter Tryz.func39, Tryz.ntmps39
  go_wp2
  go_ret
  exact ⟨rfl, rfl⟩

set_option maxHeartbeats 400000 in
set_option maxRecDepth 100000 in
theorem has_not (g r : Nat) (xs : List Int) (a n : Int) (w : World) (h : Mem w g r xs) (ha : 0 ≤ a) (ha' : a < 4294967296) (hf : ¬ (0 ≤ n ∧ a + n ≤ xs.length)) :
    Calls Tryz.prog 39 #[.pointer (some ⟨g, 0, none⟩), .int .u32 a, .int .i64 n] w fun e w' => e = .returned (.int .i64 6) ∧ w = w' := by
  have hc := h.cell
  have hl := h.len
  clear h
  by_cases hn : n < 0
  · clear hf
    go_enter Tryz.func39, Tryz.ntmps39
    go_wp2
    go_ret
    exact ⟨rfl, rfl⟩
  · have hf' : (xs.length : Int) - a < n := by omega
    have hn' : 0 ≤ n := by omega
    clear hf
    go_enter Tryz.func39, Tryz.ntmps39
    go_wp2
    go_ret
    exact ⟨rfl, rfl⟩

set_option maxHeartbeats 400000 in
set_option maxRecDepth 100000 in
theorem has_nil (a n : Int) (w : World) :
    Calls Tryz.prog 39 #[.pointer none, .int .u32 a, .int .i64 n] w fun e w' => e = .returned (.int .i64 2) ∧ w = w' := by
  go_enter Tryz.func39, Tryz.ntmps39
  go_wp2
  go_ret
  exact ⟨rfl, rfl⟩

set_option maxHeartbeats 400000 in
set_option maxRecDepth 100000 in
theorem holds_ok (g r : Nat) (xs : List Int) (a n : Int) (w : World) (h : Mem w g r xs) (ha : 0 ≤ a) (hn : 0 ≤ n) (hn4 : n ≤ 4) (hf : a + n ≤ xs.length) :
    Calls Tryz.prog 36 #[.pointer (some ⟨g, 0, none⟩), .int .u32 a, .int .i64 n] w fun e w' => e = .returned (.int .i64 0) ∧ w = w' := by
  have hn' : ¬ 4 < n := by omega
  have C := Lib.hid (has_ok g r xs a n w h ha hn hf)
  clear h
  go_enter Tryz.func36, Tryz.ntmps36
  go_wp2_with fail
  refine C.out.mono ?_
  rintro e w' ⟨rfl, rfl⟩
  go_wp2
  go_ret
  exact ⟨rfl, rfl⟩

set_option maxHeartbeats 400000 in
set_option maxRecDepth 100000 in
theorem holds_not (g r : Nat) (xs : List Int) (a n : Int) (w : World) (h : Mem w g r xs) (ha : 0 ≤ a) (ha' : a < 4294967296) (hf : ¬ (0 ≤ n ∧ n ≤ 4 ∧ a + n ≤ xs.length)) :
    Calls Tryz.prog 36 #[.pointer (some ⟨g, 0, none⟩), .int .u32 a, .int .i64 n] w fun e w' => e = .returned (.int .i64 6) ∧ w = w' := by
  by_cases h1 : 0 ≤ n ∧ a + n ≤ xs.length
  · have h4 : 4 < n := by omega
    have C := Lib.hid (has_ok g r xs a n w h ha h1.1 h1.2)
    clear h h1 hf
    go_enter Tryz.func36, Tryz.ntmps36
    go_wp2_with fail
    refine C.out.mono ?_
    rintro e w' ⟨rfl, rfl⟩
    go_wp2
    go_ret
    exact ⟨rfl, rfl⟩
  · have C := Lib.hid (has_not g r xs a n w h ha ha' h1)
    clear h h1 hf
    go_enter Tryz.func36, Tryz.ntmps36
    go_wp2_with fail
    refine C.out.mono ?_
    rintro e w' ⟨rfl, rfl⟩
    go_wp2
    go_ret
    exact ⟨rfl, rfl⟩

end Go.Proofs.YteohkobdmkbcpaaGreatDoor.Rm

/- Contract of package ram: Get. -/
namespace Go.Proofs.YteohkobdmkbcpaaGreatDoor.Rm
open Go.RowKit

/-- The number in bytes, the lowest first. -/
def num : List Int → Int
  | [] => 0
  | x :: l => x + 256 * num l
/-- The number in k bytes from place a on. -/
def val (xs : List Int) (a k : Nat) : Int := num ((xs.drop a).take k)

theorem num_snoc (l : List Int) (x : Int) : num (l ++ [x]) = num l + 256 ^ l.length * x := by
  induction l with
  | nil => simp [num]
  | cons y l ih => simp only [List.cons_append, num, ih, List.length_cons, Int.pow_succ]; rw [Int.mul_add]; rw [← Int.mul_assoc, Int.mul_comm 256 (256 ^ l.length)]; omega
theorem val_succ (xs : List Int) (a k : Nat) (h : a + k < xs.length) : val xs a (k + 1) = val xs a k + 256 ^ k * xs.getD (a + k) 0 := by
  have hl : k < (xs.drop a).length := by simp; omega
  unfold val
  rw [List.take_succ_eq_append_getElem hl, num_snoc, List.length_take, Nat.min_eq_left (by omega)]
  simp [List.getD, h]
theorem val_bound (xs : List Int) (a : Nat) (hb : Byt xs) : ∀ k, a + k ≤ xs.length → 0 ≤ val xs a k ∧ val xs a k < 256 ^ k := by
  intro k
  induction k with
  | zero => intro _; simp [val, num]
  | succ k ih =>
    intro h
    have hk := ih (by omega)
    have hx := hb.at_ (a + k)
    rw [val_succ xs a k (by omega), Int.pow_succ]
    have hp : (0 : Int) < 256 ^ k := Int.pow_pos (by omega)
    generalize (256 : Int) ^ k = p at *
    generalize xs.getD (a + k) 0 = x at *
    have h1 : 0 ≤ p * x := Int.mul_nonneg (by omega) hx.1
    have h2 : p * x ≤ p * 255 := Int.mul_le_mul_of_nonneg_left (by omega) (by omega)
    omega

theorem or_byte (v x : Int) (k : Nat) (hk : k < 4) (hv : 0 ≤ v ∧ v < 256 ^ k) (hx : 0 ≤ x ∧ x < 256) :
    bits .or .u32 v (x % 4294967296 * 2 ^ (8 * k) % 4294967296) = v + 256 ^ k * x := by
  obtain ⟨v, rfl⟩ := Int.eq_ofNat_of_zero_le hv.1
  obtain ⟨x, rfl⟩ := Int.eq_ofNat_of_zero_le hx.1
  have h4 : k = 0 ∨ k = 1 ∨ k = 2 ∨ k = 3 := by omega
  have key : ∀ p : Nat, v < 2 ^ p → p ≤ 24 → x < 256 → bits .or .u32 (v : Int) (((2 ^ p * x : Nat) : Int)) = ((v + 2 ^ p * x : Nat) : Int) := by
    intro p hp hp24 hx
    have h1 : 2 ^ p * x ||| v = 2 ^ p * x + v := (Nat.two_pow_add_eq_or_of_lt hp x).symm
    have hp2 : 2 ^ p ≤ 2 ^ 24 := Nat.pow_le_pow_right (by omega) hp24
    have hb : 2 ^ p * x ≤ 2 ^ 24 * 255 := Nat.mul_le_mul hp2 (by omega)
    have hb2 : 2 ^ p * x + v < 2 ^ p * 256 := by
      have : 2 ^ p * x ≤ 2 ^ p * 255 := Nat.mul_le_mul_left _ (by omega)
      omega
    have hb3 : 2 ^ p * 256 ≤ 2 ^ 24 * 256 := Nat.mul_le_mul_right _ hp2
    show IntKind.u32.wrap ((BitVec.ofInt 32 (v : Int) ||| BitVec.ofInt 32 ((2 ^ p * x : Nat) : Int)).toNat : Int) = _
    rw [BitVec.toNat_or, BitVec.ofInt_natCast, BitVec.ofInt_natCast, BitVec.toNat_ofNat, BitVec.toNat_ofNat, Nat.mod_eq_of_lt (by omega), Nat.mod_eq_of_lt (by omega), Nat.or_comm, h1]
    rw [IntKind.wrap_u32]
    omega
  rcases h4 with rfl | rfl | rfl | rfl
  · have hk' := hv.2
    rw [show (256 : Int) ^ 0 = 1 from rfl] at hk' ⊢
    have := key 0 (by rw [show (2 : Nat) ^ 0 = 1 from rfl]; omega) (by omega) (by omega)
    rw [show (2 : Nat) ^ 0 = 1 from rfl] at this
    rw [show (2 : Int) ^ (8 * 0) = 1 from rfl, show ((x : Int) % 4294967296 * 1 % 4294967296) = ((1 * x : Nat) : Int) by omega, this]
    omega
  · have hk' := hv.2
    rw [show (256 : Int) ^ 1 = 256 from rfl] at hk' ⊢
    have := key 8 (by rw [show (2 : Nat) ^ 8 = 256 from rfl]; omega) (by omega) (by omega)
    rw [show (2 : Nat) ^ 8 = 256 from rfl] at this
    rw [show (2 : Int) ^ (8 * 1) = 256 from rfl, show ((x : Int) % 4294967296 * 256 % 4294967296) = ((256 * x : Nat) : Int) by omega, this]
    omega
  · have hk' := hv.2
    rw [show (256 : Int) ^ 2 = 65536 from rfl] at hk' ⊢
    have := key 16 (by rw [show (2 : Nat) ^ 16 = 65536 from rfl]; omega) (by omega) (by omega)
    rw [show (2 : Nat) ^ 16 = 65536 from rfl] at this
    rw [show (2 : Int) ^ (8 * 2) = 65536 from rfl, show ((x : Int) % 4294967296 * 65536 % 4294967296) = ((65536 * x : Nat) : Int) by omega, this]
    omega
  · have hk' := hv.2
    rw [show (256 : Int) ^ 3 = 16777216 from rfl] at hk' ⊢
    have := key 24 (by rw [show (2 : Nat) ^ 24 = 16777216 from rfl]; omega) (by omega) (by omega)
    rw [show (2 : Nat) ^ 24 = 16777216 from rfl] at this
    rw [show (2 : Int) ^ (8 * 3) = 16777216 from rfl, show ((x : Int) % 4294967296 * 16777216 % 4294967296) = ((16777216 * x : Nat) : Int) by omega, this]
    omega

set_option maxHeartbeats 400000 in
set_option maxRecDepth 100000 in
theorem get_ok (g r : Nat) (xs : List Int) (a n : Nat) (w : World) (h : Mem w g r xs) (hn : n ≤ 4) (hf : a + n ≤ xs.length) :
    Calls Tryz.prog 15 #[.pointer (some ⟨g, 0, none⟩), .int .u32 a, .int .i64 n] w fun e w' => e = .returned (.tuple #[.int .u32 (val xs a n), .int .i64 0]) ∧ w = w' := by
  have C := Lib.hid (holds_ok g r xs a n w h (by omega) (by omega) (by omega) (by omega))
  have hc := h.cell
  have hl := h.len
  have hby := Lib.hid h.byt
  have hcell := Lib.hid (fun (i : Nat) => h.byte (i := i))
  clear h
  go_enter Tryz.func15, Tryz.ntmps15
  go_wp2_with fail
  refine C.out.mono ?_
  rintro e w' ⟨rfl, rfl⟩
  go_wp2
  go_loop [9, 19] (fun x i => ∃ k : Nat, k ≤ n ∧ i = .int .i64 k ∧ x = .int .u32 (val xs a k)) (fun _ i => n - (intOf i).toNat)
  case atStart => exact ⟨0, Nat.zero_le _, rfl, rfl⟩
  case round =>
    obtain ⟨k, hk, rfl, rfl⟩ := hrel
    by_cases hlt : k < n
    · have hb := val_bound xs a hby.out k (by omega)
      have hcl := hcell.out (a + k) (by omega)
      have hx := hby.out.at_ (a + k)
      go_wp2
      go_round
      case rel =>
        have ho := or_byte _ _ k (by omega) hb hx
        rw [← val_succ xs a k (by omega)] at ho
        exact ⟨k + 1, by omega, by go_num, by rw [← ho]; rfl⟩
      case measure => simp [intOf]; omega
    · go_wp2
      go_ret2
      have : k = n := by omega
      subst this
      exact ⟨rfl, rfl⟩


set_option maxHeartbeats 400000 in
set_option maxRecDepth 100000 in
theorem get_not (g r : Nat) (xs : List Int) (a n : Int) (w : World) (h : Mem w g r xs) (ha : 0 ≤ a) (ha' : a < 4294967296) (hf : ¬ (0 ≤ n ∧ n ≤ 4 ∧ a + n ≤ xs.length)) :
    Calls Tryz.prog 15 #[.pointer (some ⟨g, 0, none⟩), .int .u32 a, .int .i64 n] w fun e w' => e = .returned (.tuple #[.int .u32 0, .int .i64 6]) ∧ w = w' := by
  have C := Lib.hid (holds_not g r xs a n w h ha ha' hf)
  clear h hf
  go_enter Tryz.func15, Tryz.ntmps15
  go_wp2_with fail
  refine C.out.mono ?_
  rintro e w' ⟨rfl, rfl⟩
  go_wp2
  go_ret2
  exact ⟨rfl, rfl⟩

end Go.Proofs.YteohkobdmkbcpaaGreatDoor.Rm

/- Contracts of package ram: Load, Bytes, Copy. -/
namespace Go.Proofs.YteohkobdmkbcpaaGreatDoor.Rm
open Go.RowKit

theorem grown_setRow (w : World) (g : Nat) (cs : Array Value) : w.grownBy (w.setRow g cs) (some g) :=
  ⟨rfl, rfl, rfl, by simp [World.setRow], fun k _ hne => setRow_other w g k cs (by simpa using hne)⟩

/-- copy onto a row of bytes that is known whole: what becomes of it, and nothing else turns. -/
theorem run_copy_b (w : World) (dp sp : Option Addr) (dl dc sl sc : Nat) (r off : Nat) (cur cs : List Int) (hr : w.heap[r]? = some (.cells (cel cur).toArray 5 (0, 0))) (hn : cs.length = Nat.min sl dl)
    (hpos : 0 < cs.length → dp = some ⟨r, off, none⟩ ∧ ∃ ad, sp = some ad ∧ ∀ j v, (cel cs)[j]? = some v → w.cell? (ad.add j) = some v) (hfit : off + cs.length ≤ cur.length) :
    ∃ w', (Builtin.copy_ #[22, 22] 3 #[.slice dp dl dc, .slice sp sl sc]).run Tryz.prog w = .ok (goInt cs.length) w' ∧
      Hid (w'.heap[r]? = some (.cells (cel (splice cur off cs)).toArray 5 (0, 0))) ∧ Hid (w.grownBy w' (some r)) := by
  by_cases h0 : cs.length = 0
  · obtain rfl : cs = [] := List.eq_nil_of_length_eq_zero h0
    refine ⟨w, run_copy_none (P := Tryz.prog) w _ _ _ _ dp sp dl dc sl sc under_slice u8_size (by simpa using hn.symm), ?_, World.grownBy.refl w _⟩
    show _ = _
    simpa [splice] using hr
  · obtain ⟨rfl, ad, rfl, hsrc⟩ := hpos (by omega)
    have hrun := run_copy_row (P := Tryz.prog) w 22 22 3 _ r off dl dc ad sl sc _ _ (cel cs) under_slice u8_size hr (by rw [cel_length]; exact hn) hsrc (by simpa [cel_length] using hfit) (cel_one cs)
    rw [cel_length] at hrun
    refine ⟨_, hrun, ?_, grown_setRow w r _⟩
    show _ = _
    have := setRow_heap w r _ ((cel cur).take off ++ cel cs ++ (cel cur).drop (off + cs.length)).toArray _ _ hr
    rw [← cel_splice]
    simpa [splice, cel_length] using this

theorem mem_after {w w' : World} {g r : Nat} {xs ys : List Int} {a : Nat} (h : Mem w g r xs) (hby : Byt ys) (hf : a + ys.length ≤ xs.length)
    (hrow : w'.heap[r]? = some (.cells (cel (splice xs a ys)).toArray 5 (0, 0))) (hg : w.grownBy w' (some r)) : Mem w' g r (splice xs a ys) := by
  have hl := length_splice xs a ys hf
  refine ⟨?_, hrow, h.byt.splice hby a, by rw [hl]; exact h.len⟩
  rw [hl, hg.block g h.glt (by simpa using h.ne)]
  exact h.box

set_option maxHeartbeats 400000 in
set_option maxRecDepth 100000 in
theorem load_ok (g r : Nat) (xs ys : List Int) (a m c : Nat) (A : Option Addr) (w : World) (h : Mem w g r xs) (hs : Src w A ys) (hm : ys.length = m) (hby : Byt ys) (hf : a + m ≤ xs.length) :
    Calls Tryz.prog 26 #[.pointer (some ⟨g, 0, none⟩), .int .u32 a, .slice A m c] w fun e w' => e = .returned (.int .i64 0) ∧ Mem w' g r (splice xs a ys) ∧ w.grownBy w' (some r) := by
  have C := Lib.hid (has_ok g r xs a m w h (by omega) (by omega) (by omega))
  have hc := h.cell
  have hl := h.len
  have H := Lib.hid h
  by_cases he : xs.length = a
  · obtain ⟨w1, hrun, h1, h2⟩ := run_copy_b w (some ⟨r, 0, none⟩) A 0 0 m c r a xs ys h.row (by rw [hm]; simp; omega) (fun h0 => by omega) (by omega)
    have HE := Lib.hid (mem_after h hby (by omega) h1.out h2.out)
    subst he
    clear hm hs h
    go_enter Tryz.func26, Tryz.ntmps26
    go_wp2_with fail
    refine C.out.mono ?_
    rintro e w' ⟨rfl, rfl⟩
    go_wp2
    go_ret
    exact ⟨rfl, HE.out, h2.out⟩
  · obtain ⟨w1, hrun, h1, h2⟩ := run_copy_b w (some ⟨r, a, none⟩) A (xs.length - a) (xs.length - a) m c r a xs ys h.row (by rw [hm]; simp [Nat.min_def]; omega)
      (fun h0 => by obtain ⟨ad, e, _, hc⟩ := hs h0; exact ⟨rfl, ad, e, hc⟩) (by omega)
    have HE := Lib.hid (mem_after h hby (by omega) h1.out h2.out)
    clear hm hs h
    go_enter Tryz.func26, Tryz.ntmps26
    go_wp2_with fail
    refine C.out.mono ?_
    rintro e w' ⟨rfl, rfl⟩
    go_wp2
    go_ret
    exact ⟨rfl, HE.out, h2.out⟩

set_option maxHeartbeats 400000 in
set_option maxRecDepth 100000 in
theorem load_not (g r : Nat) (xs : List Int) (a : Int) (m c : Nat) (A : Option Addr) (w : World) (h : Mem w g r xs) (ha : 0 ≤ a) (ha' : a < 4294967296) (hf : ¬ (a + m ≤ xs.length)) :
    Calls Tryz.prog 26 #[.pointer (some ⟨g, 0, none⟩), .int .u32 a, .slice A m c] w fun e w' => e = .returned (.int .i64 6) ∧ w = w' := by
  have C := Lib.hid (has_not g r xs a m w h ha ha' (by omega))
  clear h hf
  go_enter Tryz.func26, Tryz.ntmps26
  go_wp2_with fail
  refine C.out.mono ?_
  rintro e w' ⟨rfl, rfl⟩
  go_wp2
  go_ret
  exact ⟨rfl, rfl⟩

/-- Bytes in new memory. -/
def NewBytes (w : World) (ys : List Int) (e : Ending) (w' : World) : Prop :=
  ∃ b, e = .returned (.tuple #[.slice (some ⟨b, 0, none⟩) ys.length ys.length, .int .i64 0]) ∧ w.heap.size ≤ b ∧ w'.heap[b]? = some (.cells (cel ys).toArray 5 (0, 0)) ∧ Below w.heap.size w w'

theorem splice_all (n : Nat) (ys : List Int) (h : ys.length = n) : splice (List.replicate n 0) 0 ys = ys := by
  subst h; simp [splice]

set_option maxHeartbeats 400000 in
set_option maxRecDepth 100000 in
theorem bytes_ok (g r : Nat) (xs : List Int) (a n : Nat) (w : World) (h : Mem w g r xs) (hf : a + n ≤ xs.length) :
    Calls Tryz.prog 17 #[.pointer (some ⟨g, 0, none⟩), .int .u32 a, .int .i64 n] w (NewBytes w ((xs.drop a).take n)) := by
  have C := Lib.hid (has_ok g r xs a n w h (by omega) (by omega) (by omega))
  have hc := h.cell
  have hl := h.len
  have hmk := fun W => run_make_bytes n (by omega) W
  obtain ⟨ys, hys⟩ : ∃ ys, (xs.drop a).take n = ys := ⟨_, rfl⟩
  have hyl : ys.length = n := by rw [← hys]; simp; omega
  have hgl := h.glt
  have hrl := h.rlt
  rw [hys]
  have hnew := heap_new w (.cells (cel (List.replicate n 0)).toArray 5)
  by_cases he : xs.length = a
  · obtain ⟨w1, hrun, h1, h2⟩ := run_copy_b (w.alloc (.cells (cel (List.replicate n 0)).toArray 5)) (some ⟨w.heap.size, 0, none⟩) (some ⟨r, 0, none⟩) n n 0 0 w.heap.size 0 _ ys hnew (by rw [hyl]; simp; omega) (fun h0 => by omega) (by simp [hyl])
    have HE : Hid (NewBytes w ys (.returned (.tuple #[.slice (some ⟨w.heap.size, 0, none⟩) n n, .int .i64 0])) w1) := by
      have h1' := h1.out
      rw [splice_all n ys hyl] at h1'
      refine ⟨_, by rw [hyl], Nat.le_refl _, h1', ?_⟩
      exact below_of_grown ((Below.refl _ _).alloc (Nat.le_refl _) _) h2.out (by simp) (Nat.le_refl _)
    subst he
    clear hyl hys h hnew
    go_enter Tryz.func17, Tryz.ntmps17
    go_wp2_with fail
    refine C.out.mono ?_
    rintro e w' ⟨rfl, rfl⟩
    go_wp2
    go_ret2
    exact HE.out
  · obtain ⟨w1, hrun, h1, h2⟩ := run_copy_b (w.alloc (.cells (cel (List.replicate n 0)).toArray 5)) (some ⟨w.heap.size, 0, none⟩) (some ⟨r, a, none⟩) n n (xs.length - a) (xs.length - a) w.heap.size 0 _ ys hnew (by rw [hyl]; simp [Nat.min_def]; omega)
      (fun h0 => ⟨rfl, _, rfl, fun j v hv => by
        have hadd : (⟨r, a, none⟩ : Addr).add j = ⟨r, a + j, none⟩ := by unfold Addr.add; split <;> simp_all
        have hj : j < n := by
          have := (List.getElem?_eq_some_iff.1 hv).1
          rw [cel_length] at this; omega
        rw [hadd, World.cell?_alloc_lt w _ _ hrl, h.byte (by omega), ← hv, cel_get ys j (by omega), ← hys]
        simp [List.getD, hj]⟩) (by simp [hyl])
    have HE : Hid (NewBytes w ys (.returned (.tuple #[.slice (some ⟨w.heap.size, 0, none⟩) n n, .int .i64 0])) w1) := by
      have h1' := h1.out
      rw [splice_all n ys hyl] at h1'
      refine ⟨_, by rw [hyl], Nat.le_refl _, h1', ?_⟩
      exact below_of_grown ((Below.refl _ _).alloc (Nat.le_refl _) _) h2.out (by simp) (Nat.le_refl _)
    clear hyl hys h hnew
    go_enter Tryz.func17, Tryz.ntmps17
    go_wp2_with fail
    refine C.out.mono ?_
    rintro e w' ⟨rfl, rfl⟩
    go_wp2
    go_ret2
    exact HE.out

set_option maxHeartbeats 400000 in
set_option maxRecDepth 100000 in
theorem bytes_not (g r : Nat) (xs : List Int) (a n : Int) (w : World) (h : Mem w g r xs) (ha : 0 ≤ a) (ha' : a < 4294967296) (hf : ¬ (0 ≤ n ∧ a + n ≤ xs.length)) :
    Calls Tryz.prog 17 #[.pointer (some ⟨g, 0, none⟩), .int .u32 a, .int .i64 n] w fun e w' => e = .returned (.tuple #[.slice none 0 0, .int .i64 6]) ∧ w = w' := by
  have C := Lib.hid (has_not g r xs a n w h ha ha' hf)
  clear h hf
  go_enter Tryz.func17, Tryz.ntmps17
  go_wp2_with fail
  refine C.out.mono ?_
  rintro e w' ⟨rfl, rfl⟩
  go_wp2
  go_ret2
  exact ⟨rfl, rfl⟩

end Go.Proofs.YteohkobdmkbcpaaGreatDoor.Rm

/- Contracts of package ram: Copy, Put. -/
namespace Go.Proofs.YteohkobdmkbcpaaGreatDoor.Rm
open Go.RowKit



/-- The lowest k bytes of a number. -/
def low (x : Int) (k : Nat) : List Int := (List.range k).map fun i => x / 256 ^ i % 256
theorem low_length (x : Int) (k : Nat) : (low x k).length = k := by simp [low]
theorem low_byt (x : Int) (k : Nat) : Byt (low x k) := by
  intro y hy
  simp only [low, List.mem_map] at hy
  obtain ⟨i, _, rfl⟩ := hy
  omega
/-- Four bytes, of which k are laid. -/
def laid (x : Int) (k : Nat) : List Int := low x k ++ List.replicate (4 - k) 0

def Four (w : World) (b : Nat) (l : List Int) : Prop := w.heap[b]? = some (.cells (cel l).toArray 232 (0, 0))
theorem Four.cell {w : World} {b : Nat} {l : List Int} (h : Four w b l) {i : Nat} (hi : i < l.length) : w.cell? ⟨b, i, none⟩ = some (.int .u8 (l.getD i 0)) := by
  have := cell_of_row w b i _ _ _ h
  rw [this]
  simpa using cel_get l i hi
theorem Four.free {w : World} {b : Nat} {l : List Int} (h : Four w b l) (i : Nat) : w.frozen? ⟨b, i, none⟩ = false := by
  unfold Four at h; simp [World.frozen?, h]
theorem Four.set {w : World} {b : Nat} {l : List Int} (h : Four w b l) (i : Nat) (v : Int) : Four (w.setCell ⟨b, i, none⟩ (.int .u8 v)) b (l.set i v) := by
  unfold Four at h ⊢
  simp [World.setCell, Array.getElem?_modify, h, cel, List.map_set]
theorem laid_length (x : Int) (k : Nat) (h : k ≤ 4) : (laid x k).length = 4 := by simp [laid, low_length]; omega
theorem laid_set (x : Int) (k : Nat) (h : k < 4) : (laid x k).set k (x / 256 ^ k % 256) = laid x (k + 1) := by
  have e : 4 - k = (4 - (k + 1)) + 1 := by omega
  unfold laid
  rw [e, List.replicate_succ, List.set_append_right _ _ (by simp [low_length]), low_length]
  simp [low, List.range_succ]

theorem pow_256 (k : Nat) : (2 : Int) ^ (8 * k) = 256 ^ k := by rw [Int.pow_mul]; rfl
theorem laid_low (x : Int) (k j : Nat) (h : j < k) : (laid x k).getD j 0 = (low x k).getD j 0 := by
  unfold laid
  simp [List.getD, List.getElem?_append_left (by rw [low_length]; exact h : j < (low x k).length)]

/-- The end of Put: the bytes go over. -/
theorem put_copies {g r : Nat} {xs : List Int} {a n : Nat} {x : Int} {w wr : World} (h : Mem w g r xs) (hn : n ≤ 4) (hf : a + n ≤ xs.length)
    (h4 : Four wr w.heap.size (laid x n)) (hb : Below w.heap.size w wr) (dp : Option Addr) (d : Nat) (hd : n ≤ d) (hpos : 0 < n → dp = some ⟨r, a, none⟩) :
    ∃ w', (Builtin.copy_ #[22, 22] 3 #[.slice dp d d, .slice (some ⟨w.heap.size, 0, none⟩) n 4]).run Tryz.prog wr.drew = .ok (goInt n) w' ∧
      Hid (Mem w' g r (splice xs a (low x n)) ∧ w.grownBy w' (some r)) := by
  have hm := h.below_ hb
  obtain ⟨w1, hrun, h1, h2⟩ := run_copy_b wr.drew dp (some ⟨w.heap.size, 0, none⟩) d d n 4 r a xs (low x n) hm.row (by rw [low_length]; simp [Nat.min_def]; omega)
    (fun h0 => ⟨hpos (by rwa [low_length] at h0), _, rfl, fun j v hv => by
      have hadd : (⟨w.heap.size, 0, none⟩ : Addr).add j = ⟨w.heap.size, j, none⟩ := by unfold Addr.add; split <;> simp_all
      have hj : j < n := by
        have := (List.getElem?_eq_some_iff.1 hv).1
        rw [cel_length, low_length] at this; omega
      rw [hadd, ← hv, cel_get _ j (by rw [low_length]; exact hj), ← laid_low x n j hj]
      exact h4.cell (by rw [laid_length x n hn]; omega)⟩) (by rw [low_length]; omega)
  rw [low_length] at hrun
  refine ⟨w1, hrun, mem_after (w := wr.drew) (hm.keep rfl rfl) (low_byt _ _) (by rw [low_length]; omega) h1.out h2.out, ?_⟩
  exact grown_trans (grown_of_below hb.drew _) h2.out

set_option maxHeartbeats 400000 in
set_option maxRecDepth 100000 in
theorem put_ok (g r : Nat) (xs : List Int) (a n : Nat) (x : Int) (w : World) (h : Mem w g r xs) (hn : n ≤ 4) (hf : a + n ≤ xs.length) :
    Calls Tryz.prog 135 #[.pointer (some ⟨g, 0, none⟩), .int .u32 a, .int .u32 x, .int .i64 n] w fun e w' => e = .returned (.int .i64 0) ∧ Mem w' g r (splice xs a (low x n)) ∧ w.grownBy w' (some r) := by
  have C := Lib.hid (holds_ok g r xs a n w h (by omega) (by omega) (by omega) (by omega))
  have hc := h.cell
  have hl := h.len
  have hgl := h.glt
  have hrl := h.rlt
  have H := Lib.hid h
  clear h
  go_enter Tryz.func135, Tryz.ntmps135
  go_wp2_with fail
  refine C.out.mono ?_
  rintro e w' ⟨rfl, rfl⟩
  go_wp2
  go_loopw [20] (fun i wr => ∃ k : Nat, k ≤ n ∧ i = .int .i64 k ∧ Four wr w.heap.size (laid x k) ∧ Below w.heap.size w wr) (fun i _ => n - (intOf i).toNat)
  case atStart => exact ⟨0, Nat.zero_le _, rfl, heap_new _ _, (Below.refl _ _).alloc (Nat.le_refl _) _⟩
  case round =>
    obtain ⟨k, hk, rfl, h4, hb⟩ := hrel
    by_cases hlt : k < n
    · have hcl := h4.cell (i := k) (by rw [laid_length x k (by omega)]; omega)
      have hfr := h4.free k
      have H4 := Lib.hid h4
      clear h4
      go_wp2
      go_roundw
      case rel =>
        have hs := H4.out.set k (x / 256 ^ k % 256)
        rw [laid_set x k (by omega), ← pow_256 k] at hs
        exact ⟨k + 1, by omega, by go_num, hs, hb.setCell (Nat.le_refl _) _⟩
      case measure => simp [intOf]; omega
    · obtain rfl : k = n := by omega
      have hm := H.out.below_ hb
      have hc := hm.cell
      have hgr := hb.size
      by_cases he : xs.length = a
      · obtain ⟨w1, hrun, HE⟩ := put_copies H.out hn hf h4 hb (some ⟨r, 0, none⟩) 0 (by omega) (fun _ => by omega)
        have hk0 : k = 0 := by omega
        subst hk0
        subst he
        clear hm h4
        go_wp2
        go_region
        go_wp2
        go_ret
        exact ⟨rfl, HE.out.1, HE.out.2⟩
      · obtain ⟨w1, hrun, HE⟩ := put_copies H.out hn hf h4 hb (some ⟨r, a, none⟩) (xs.length - a) (by omega) (fun _ => rfl)
        have ha1 : a ≤ xs.length := by omega
        have hk1 : (k : Int) ≤ 4 := by omega
        have hk2 : k < 5 := by omega
        have hk3 : ¬ 4 < k := by omega
        clear hm h4
        go_wp2
        go_region
        go_wp2
        go_ret
        exact ⟨rfl, HE.out.1, HE.out.2⟩

set_option maxHeartbeats 400000 in
set_option maxRecDepth 100000 in
theorem put_not (g r : Nat) (xs : List Int) (a n x : Int) (w : World) (h : Mem w g r xs) (ha : 0 ≤ a) (ha' : a < 4294967296) (hf : ¬ (0 ≤ n ∧ n ≤ 4 ∧ a + n ≤ xs.length)) :
    Calls Tryz.prog 135 #[.pointer (some ⟨g, 0, none⟩), .int .u32 a, .int .u32 x, .int .i64 n] w fun e w' => e = .returned (.int .i64 6) ∧ w = w' := by
  have C := Lib.hid (holds_not g r xs a n w h ha ha' hf)
  clear h hf
  go_enter Tryz.func135, Tryz.ntmps135
  go_wp2_with fail
  refine C.out.mono ?_
  rintro e w' ⟨rfl, rfl⟩
  go_wp2
  go_ret
  exact ⟨rfl, rfl⟩

end Go.Proofs.YteohkobdmkbcpaaGreatDoor.Rm

/- What every law of layer 2 asks first. -/
namespace Go.Proofs.YteohkobdmkbcpaaGreatDoor.Rm
open Go.RowKit

theorem bel_trans {w w1 w2 : World} (h : Below w.heap.size w w1) (k : Below w1.heap.size w1 w2) : Below w.heap.size w w2 := h.trans (k.mono h.size)

theorem a_get (g r : Nat) (w : World) (h : Mem w g r [0, 0, 0, 0]) :
    Calls Tryz.prog 15 #[.pointer (some ⟨g, 0, none⟩), .int .u32 0, .int .i64 2] w fun e w' => e = .returned (.tuple #[.int .u32 0, .int .i64 0]) ∧ w = w' :=
  get_ok g r [0, 0, 0, 0] 0 2 w h (by omega) (by simp)
theorem a_put (g r : Nat) (w : World) (h : Mem w g r [0, 0, 0, 0]) :
    Calls Tryz.prog 135 #[.pointer (some ⟨g, 0, none⟩), .int .u32 0, .int .u32 258, .int .i64 2] w fun e w' => e = .returned (.int .i64 0) ∧ Mem w' g r [2, 1, 0, 0] ∧ w.grownBy w' (some r) :=
  put_ok g r [0, 0, 0, 0] 0 2 258 w h (by omega) (by simp)
theorem a_bytes (g r : Nat) (w : World) (h : Mem w g r [2, 1, 0, 0]) :
    Calls Tryz.prog 17 #[.pointer (some ⟨g, 0, none⟩), .int .u32 0, .int .i64 2] w (NewBytes w [2, 1]) :=
  bytes_ok g r [2, 1, 0, 0] 0 2 w h (by simp)



end Go.Proofs.YteohkobdmkbcpaaGreatDoor.Rm

/- The walk of RamJoins. -/
namespace Go.Proofs.YteohkobdmkbcpaaGreatDoor.Rm
open Go.RowKit

/-- A slice of bytes that came in, read as a list. -/
theorem src_of_row {w : World} {A : Option Addr} {len cap : Nat} {zs : List Int}
    (h : (A = none ∧ len = 0 ∧ cap = 0 ∧ zs = []) ∨ ∃ x : Addr, A = some x ∧ len ≤ cap ∧ cap ≤ maxLen ∧ zs.length = cap ∧ (∀ i, i < zs.length → w.cell? (x.add i) = some (.int .u8 (zs.getD i 0))) ∧ ∀ n ∈ zs, (Lit.int .u8 n).wf = true) :
    ∃ ys : List Int, ys.length = len ∧ Byt ys ∧ Src w A ys := by
  rcases h with ⟨rfl, rfl, rfl, rfl⟩ | ⟨x, rfl, hl, hm, hz, hc, hw⟩
  · exact ⟨[], rfl, fun x hx => by simp at hx, fun h0 => by simp at h0⟩
  · have hlen : (zs.take len).length = len := by simp; omega
    refine ⟨zs.take len, hlen, fun y hy => ?_, fun h0 => ⟨x, rfl, ?_, fun j v hv => ?_⟩⟩
    · have := bounds_u8 (hw y (List.mem_of_mem_take hy))
      omega
    · have h1 := hc 0 (by omega)
      have h2 : (x.add 0).block < w.heap.size := by
        rcases Nat.lt_or_ge (x.add 0).block w.heap.size with hlt | hge
        · exact hlt
        · unfold World.cell? at h1
          rw [Array.getElem?_eq_none hge] at h1
          simp at h1
      rwa [block_add] at h2
    · have hj := (List.getElem?_eq_some_iff.1 hv).1
      rw [cel_length, hlen] at hj
      rw [cel_get _ j (by omega)] at hv
      rw [← hv, hc j (by omega)]
      simp [List.getD, hj]

theorem val4 (ys : List Int) (a : Nat) (h : a + 4 ≤ ys.length) : val ys a 4 = ys.getD a 0 + 256 * ys.getD (a + 1) 0 + 65536 * ys.getD (a + 2) 0 + 16777216 * ys.getD (a + 3) 0 := by
  rw [val_succ ys a 3 (by omega), val_succ ys a 2 (by omega), val_succ ys a 1 (by omega), val_succ ys a 0 (by omega)]
  simp [val, num]
theorem val2 (ys : List Int) (a : Nat) (h : a + 2 ≤ ys.length) : val ys a 2 = ys.getD a 0 + 256 * ys.getD (a + 1) 0 := by
  rw [val_succ ys a 1 (by omega), val_succ ys a 0 (by omega)]
  simp [val, num]
theorem val1 (ys : List Int) (a : Nat) (h : a + 1 ≤ ys.length) : val ys a 1 = ys.getD a 0 := by
  rw [val_succ ys a 0 (by omega)]
  simp [val, num]

theorem joins_halves (ys : List Int) (a : Nat) (h : a + 4 ≤ ys.length) : val ys a 2 + 65536 * val ys (a + 2) 2 = val ys a 4 := by
  rw [val4 ys a h, val2 ys a (by omega), val2 ys (a + 2) (by omega), show a + 2 + 1 = a + 3 from rfl]
  omega
theorem joins_bytes (ys : List Int) (a k : Nat) (hb : Byt ys) (h : a + 4 ≤ ys.length) (hk : k < 4) : val ys a 4 / 2 ^ (8 * k) % 256 = val ys (a + k) 1 := by
  have h0 := hb.at_ a
  have h1 := hb.at_ (a + 1)
  have h2 := hb.at_ (a + 2)
  have h3 := hb.at_ (a + 3)
  rw [val4 ys a h, val1 ys (a + k) (by omega)]
  have h4 : k = 0 ∨ k = 1 ∨ k = 2 ∨ k = 3 := by omega
  rcases h4 with rfl | rfl | rfl | rfl
  · rw [show (2 : Int) ^ (8 * 0) = 1 from rfl, show a + 0 = a from rfl]; omega
  · rw [show (2 : Int) ^ (8 * 1) = 256 from rfl]; omega
  · rw [show (2 : Int) ^ (8 * 2) = 65536 from rfl]; omega
  · rw [show (2 : Int) ^ (8 * 3) = 16777216 from rfl]; omega

theorem joins_tmod (ys : List Int) (a k : Nat) (hb : Byt ys) (h : a + 4 ≤ ys.length) (hk : k < 4) : (val ys a 4 / 2 ^ (8 * k)).tmod 256 = val ys (a + k) 1 := by
  rw [Int.tmod_eq_emod_of_nonneg (Int.ediv_nonneg (val_bound ys a hb 4 h).1 (Int.le_of_lt (Int.pow_pos (by omega)))), joins_bytes ys a k hb h hk]



/-- A memory made, and loaded whole. -/
theorem load_all (g r : Nat) (n c : Nat) (ys : List Int) (A : Option Addr) (w : World) (h : Mem w g r (List.replicate n 0)) (hs : Src w A ys) (hm : ys.length = n) (hby : Byt ys) :
    Calls Tryz.prog 26 #[.pointer (some ⟨g, 0, none⟩), .int .u32 0, .slice A n c] w fun e w' => e = .returned (.int .i64 0) ∧ Mem w' g r ys ∧ w.grownBy w' (some r) := by
  have := load_ok g r _ ys 0 n c A w h hs hm hby (by simp)
  rw [splice_all n ys hm] at this
  exact this

theorem get_at (g r : Nat) (xs : List Int) (a : Int) (b n : Nat) (ha : a = b) (w : World) (h : Mem w g r xs) (m : Int) (hm : m = n) (hn : n ≤ 4) (hf : b + n ≤ xs.length) :
    Calls Tryz.prog 15 #[.pointer (some ⟨g, 0, none⟩), .int .u32 a, .int .i64 m] w fun e w' => e = .returned (.tuple #[.int .u32 (val xs b n), .int .i64 0]) ∧ w = w' := by
  subst ha; subst hm; exact get_ok g r xs b n w h hn hf





end Go.Proofs.YteohkobdmkbcpaaGreatDoor.Rm

/- The walk of RamCopies. -/
namespace Go.Proofs.YteohkobdmkbcpaaGreatDoor.Rm
open Go.RowKit

theorem splice_take (xs ys : List Int) (a : Nat) (h : a + ys.length ≤ xs.length) : ((splice xs a ys).drop a).take ys.length = ys := by
  unfold splice
  have h1 : (xs.take a).length = a := by simp; omega
  rw [List.drop_append, List.drop_of_length_le (by omega), h1, Nat.sub_self, List.drop_zero, List.nil_append, List.take_left']
  rfl
theorem num_low (x : Int) (k : Nat) : num (low x k) = x % 256 ^ k := by
  induction k with
  | zero => simp [low, num]
  | succ k ih =>
    have e : low x (k + 1) = low x k ++ [x / 256 ^ k % 256] := by simp [low, List.range_succ]
    rw [e, num_snoc, ih, low_length]
    have hp : (0 : Int) < 256 ^ k := Int.pow_pos (by omega)
    have h1 := Int.emod_add_mul_ediv x (256 ^ k)
    have h2 := Int.emod_add_mul_ediv (x / 256 ^ k) 256
    have h3 : x / 256 ^ (k + 1) = x / 256 ^ k / 256 := by rw [Int.pow_succ, Int.ediv_ediv_of_nonneg (Int.le_of_lt hp)]
    have h4 := Int.emod_add_mul_ediv x (256 ^ (k + 1))
    have h6 : (256 : Int) ^ (k + 1) * (x / 256 ^ k / 256) = 256 ^ k * (256 * (x / 256 ^ k / 256)) := by rw [Int.pow_succ, Int.mul_assoc]
    rw [h3, h6] at h4
    clear h3 h6
    generalize x % 256 ^ (k + 1) = z at *
    generalize x / 256 ^ k / 256 = q at *
    generalize x / 256 ^ k = p at *
    generalize (256 : Int) ^ k = m at *
    have h5 : m * p = m * (p % 256) + m * (256 * q) := by rw [← Int.mul_add, h2]
    generalize m * (p % 256) = s at *
    generalize m * (256 * q) = t at *
    omega
theorem val_put (xs : List Int) (a n : Nat) (x : Int) (h : a + n ≤ xs.length) : val (splice xs a (low x n)) a n = x % 256 ^ n := by
  have := splice_take xs (low x n) a (by rw [low_length]; exact h)
  rw [low_length] at this
  unfold val
  rw [this, num_low]

theorem put_at (g r : Nat) (xs : List Int) (a m : Int) (b n : Nat) (ha : a = b) (hm : m = n) (x : Int) (w : World) (h : Mem w g r xs) (hn : n ≤ 4) (hf : b + n ≤ xs.length) :
    Calls Tryz.prog 135 #[.pointer (some ⟨g, 0, none⟩), .int .u32 a, .int .u32 x, .int .i64 m] w fun e w' => e = .returned (.int .i64 0) ∧ Mem w' g r (splice xs b (low x n)) ∧ w.grownBy w' (some r) := by
  subst ha; subst hm; exact put_ok g r xs b n x w h hn hf

/-- Behind Put of four bytes: the memory has as many bytes, and the number is there. -/
def PutFour (w : World) (g r b n : Nat) (x : Int) (e : Ending) (w' : World) : Prop :=
  e = .returned (.int .i64 0) ∧ w.grownBy w' (some r) ∧ ∃ zs, Mem w' g r zs ∧ zs.length = n ∧ val zs b 4 = x
theorem put_four (g r : Nat) (xs : List Int) (a : Int) (b n : Nat) (ha : a = b) (hn : xs.length = n) (x : Int) (hx : 0 ≤ x) (hx' : x < 4294967296) (w : World) (h : Mem w g r xs) (hf : b + 4 ≤ n) :
    Calls Tryz.prog 135 #[.pointer (some ⟨g, 0, none⟩), .int .u32 a, .int .u32 x, .int .i64 4] w (PutFour w g r b n x) :=
  (put_at g r xs a 4 b 4 ha rfl x w h (by omega) (by omega)).mono fun e w' ⟨he, hm, hb⟩ => ⟨he, hb, _, hm, by rw [length_splice _ _ _ (by rw [low_length]; omega), hn],
    by rw [val_put xs b 4 x (by omega), show (256 : Int) ^ 4 = 4294967296 from rfl, Int.emod_eq_of_lt hx hx']⟩
theorem get_four (g r : Nat) (xs : List Int) (a : Int) (b n : Nat) (ha : a = b) (hn : xs.length = n) (x : Int) (hv : val xs b 4 = x) (w : World) (h : Mem w g r xs) (hf : b + 4 ≤ n) :
    Calls Tryz.prog 15 #[.pointer (some ⟨g, 0, none⟩), .int .u32 a, .int .i64 4] w fun e w' => e = .returned (.tuple #[.int .u32 x, .int .i64 0]) ∧ w = w' := by
  subst hv; exact get_at g r xs a b 4 ha w h 4 rfl (by omega) (by omega)

theorem xor_fits (x : Int) (hx : 0 ≤ x) (hx' : x < 4294967296) : 0 ≤ bits .xor .u32 IntKind.u32.max x ∧ bits .xor .u32 IntKind.u32.max x < 4294967296 := by
  rw [show IntKind.u32.max = 4294967295 from rfl, u32_xor _ _ (by omega) (by omega) hx hx']
  have : (4294967295 : Int).toNat ^^^ x.toNat < 2 ^ 32 := Nat.xor_lt_two_pow (by decide) (by omega)
  omega

theorem size_of (g r n : Nat) (xs : List Int) (hn : xs.length = n) (w : World) (h : Mem w g r xs) :
    Calls Tryz.prog 198 #[.pointer (some ⟨g, 0, none⟩)] w fun e w' => e = .returned (.int .i64 n) ∧ w = w' := by
  subst hn; exact size_any g r xs w h







end Go.Proofs.YteohkobdmkbcpaaGreatDoor.Rm

/- Slices of bytes that a call made: a row with room behind it; append onto nothing; string(b). -/
namespace Go.Proofs.YteohkobdmkbcpaaGreatDoor.Rm
open Go.RowKit

/-- Block b is a row of bytes, of which the first are ys. -/
def Row (w : World) (b : Nat) (ys : List Int) : Prop :=
  ∃ cur : Array Value, w.heap[b]? = some (.cells cur 5 (0, 0)) ∧ cur.toList.take ys.length = cel ys
section
variable {w w' : World} {b : Nat} {ys : List Int}
theorem Row.lt (h : Row w b ys) : b < w.heap.size := by obtain ⟨_, h, _⟩ := h; exact lt_of_heap h
theorem Row.keep (h : Row w b ys) (e : w'.heap[b]? = w.heap[b]?) : Row w' b ys := by obtain ⟨c, h, t⟩ := h; exact ⟨c, e.trans h, t⟩
theorem Row.of (h : w.heap[b]? = some (.cells (cel ys).toArray 5 (0, 0))) : Row w b ys := ⟨_, h, by simp [← cel_length ys]⟩
theorem Row.cell' (h : Row w b ys) {j : Nat} {v : Value} (hv : (cel ys)[j]? = some v) : w.cell? ⟨b, j, none⟩ = some v := by
  obtain ⟨c, hc, t⟩ := h
  rw [cell_of_row w b j _ _ _ hc]
  rw [← t, List.getElem?_take] at hv
  split at hv
  · simpa using hv
  · cases hv
theorem Row.cell (h : Row w b ys) {j : Nat} (hj : j < ys.length) : w.cell? ⟨b, j, none⟩ = some (.int .u8 (ys.getD j 0)) := h.cell' (cel_get ys j hj)
theorem Row.free (h : Row w b ys) (j : Nat) : w.frozen? ⟨b, j, none⟩ = false := by
  obtain ⟨c, hc, _⟩ := h; simp [World.frozen?, hc]
theorem Row.set (h : Row w b ys) (j : Nat) (v : Int) : Row (w.setCell ⟨b, j, none⟩ (.int .u8 v)) b (ys.set j v) := by
  obtain ⟨c, hc, t⟩ := h
  refine ⟨c.setIfInBounds j (.int .u8 v), by simp [World.setCell, Array.getElem?_modify, hc], ?_⟩
  rw [Array.toList_setIfInBounds, List.length_set, List.take_set, t]
  simp [cel, List.map_set]
theorem Row.src (h : Row w b ys) : Src w (some ⟨b, 0, none⟩) ys := fun _ =>
  ⟨_, rfl, h.lt, fun j v hv => by
    have hadd : (⟨b, 0, none⟩ : Addr).add j = ⟨b, j, none⟩ := by unfold Addr.add; split <;> simp_all
    rw [hadd]; exact h.cell' hv⟩
end

theorem wpList_append_run {P : Program} (w : World) {ops : Array Oper} {rest : List Oper} {o : Oper} {a : Act} {Q : Exit → Act → World → Prop} (hgd : o.guard = none) (d s : Operand) (t t' : TypeId)
    (ho : o.op = .call { callee := .builtin .append, args := #[d, s], argTypes := #[t, t'] }) (v u : Value) (hd : a.eval d = v) (hs : a.eval s = u) {v' : Value} {w' : World}
    (hr : (Builtin.append_ #[t, t'] o.type #[v, u]).run P w = .ok v' w') (h : wpList P ops Q rest (a.put o.dst v') w') : wpList P ops Q (o :: rest) a w :=
  wpList_plain hgd fun _ hK => by
    unfold Oper.wp execOp
    simp only [ho, resolve, invoke, builtin, Sem.run_bind, Sem.run_pure, Result.andThen_ok, List.map_toArray, List.map_cons, List.map_nil, hd, hs, hr]
    exact hK _ _ h

/-- append onto an empty row that was made just now. -/
theorem run_append_b (w : World) (A : Option Addr) (m c : Nat) (ys : List Int) (hs : Src w A ys) (hm : ys.length = m) (hn : m ≤ 1099511627776) :
    ∃ b cap w', (Builtin.append_ #[22, 22] 22 #[.slice (some ⟨w.heap.size, 0, none⟩) 0 0, .slice A m c]).run Tryz.prog (w.alloc (.cells #[] 5)) = .ok (.slice (some ⟨b, 0, none⟩) m cap) w' ∧
      Hid (w.heap.size ≤ b ∧ Row w' b ys ∧ Below w.heap.size w w') := by
  obtain ⟨i, hi, hz, hsz, hb⟩ := info_parts u8_info
  have hbel : Below w.heap.size w (w.alloc (.cells #[] 5)) := (Below.refl _ _).alloc (Nat.le_refl _) _
  by_cases h0 : m = 0
  · subst h0
    obtain rfl : ys = [] := List.eq_nil_of_length_eq_zero hm
    refine ⟨w.heap.size, 0, w.alloc (.cells #[] 5), ?_, Nat.le_refl _, ⟨#[], heap_new _ _, by simp [cel]⟩, hbel⟩
    cases A <;> simp [Builtin.append_, run_underlying under_slice, sizeOf, typeInfo, hi, Builtin.lenOf, Builtin.firstCells, loadCells, loadCellsFrom, storeCells]
  · obtain ⟨ad, rfl, hlt, hc⟩ := hs (by omega)
    have hown : (w.alloc (.cells #[] 5)).ownsRow w.heap.size 5 1 (.slice (some ⟨w.heap.size, 0, none⟩) 0 0) 0 [] :=
      World.ownsRow_made w #[] 0 (Nat.le_refl _) (Nat.zero_le _) (by simp)
    obtain ⟨v', w', hrun, ho, hg, _, hat⟩ := run_append_own_at (P := Tryz.prog) (w.alloc (.cells #[] 5)) w.heap.size 22 22 5 i (.int .u8 0) 1 1 under_slice hi hz hsz hb rfl (by omega) _ 0 [] hown ad m c (cel ys)
      (by rw [cel_length, hm]; omega) (fun j u hu => by rw [World.cell?_alloc_lt w _ _ (by rw [block_add]; exact hlt)]; exact hc j u hu) (cel_one ys) (by simp only [maxLen]; omega) (by omega) (by simp)
    rcases ho.2 with ⟨_, h⟩ | ⟨g, cap, cur, rfl, hbase, hh, _, _, _, htake⟩
    · omega
    · rw [Nat.zero_add] at hrun
      refine ⟨g, cap, w', hrun, hbase, ⟨cur, hh, ?_⟩, ?_⟩
      · simpa [hm] using htake
      · exact hbel.grown hg (by simp) (fun k e => by simp [Value.ownBlock] at e; omega)

/-- The string of bytes. -/
def str (ys : List Int) : ByteArray := ys.foldl (fun r n => r.push (UInt8.ofNat n.toNat)) ByteArray.empty
theorem under_u8 : Tryz.prog.underlying 5 = some (.int .u8) := by kernel_rfl
theorem under_string : Tryz.prog.underlying 9 = some .string := by kernel_rfl
theorem run_string (w : World) (A : Option Addr) (n c : Nat) (ys : List Int) (hs : Src w A ys) (hn : ys.length = n) :
    (convert 22 9 (.slice A n c)).run Tryz.prog w = .ok (.string (str ys)) w := by
  rw [run_convert_bytes_string w _ _ _ A n c under_slice under_u8 under_string]
  by_cases h0 : n = 0
  · subst h0
    obtain rfl : ys = [] := List.eq_nil_of_length_eq_zero hn
    cases A with
    | none => simp [Conv.bytesToString, str]
    | some ad => exact run_bytesToString w ad 0 c [] (by simp [loadCells, loadCellsFrom])
  · obtain ⟨ad, rfl, _, hc⟩ := hs (by omega)
    have hl := run_loadCells_list (P := Tryz.prog) w ad (cel ys) hc
    rw [cel_length, hn] at hl
    exact run_bytesToString w ad n c ys hl

end Go.Proofs.YteohkobdmkbcpaaGreatDoor.Rm
