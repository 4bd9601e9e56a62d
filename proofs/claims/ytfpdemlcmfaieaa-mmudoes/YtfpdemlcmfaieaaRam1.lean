/- Contracts of package ram: New, Size, has, holds. -/
import Derived.Test.YtfpdemlcmfaieaaMem
import Derived.WalkKit
import Derived.WalkLawsBesides
import Derived.Outline
import Derived.OpenShut
namespace Go.Proofs.Ytfpdemlcmfaieaa.Rm
open Go.RowKit

/-- How many bytes a memory of a size has. -/
def sized (n : Int) : Nat := (max 0 (min n 16777216)).toNat
theorem sized_nat (n : Nat) (h : n ≤ 16777216) : sized n = n := by unfold sized; omega
theorem sized_le (n : Int) : sized n ≤ 16777216 := by unfold sized; omega

/-- A new memory, all noughts. -/
def NewMem (w : World) (n : Nat) (e : Ending) (w' : World) : Prop :=
  ∃ g r, e = .returned (.pointer (some ⟨g, 0, none⟩)) ∧ w.heap.size ≤ g ∧ w.heap.size ≤ r ∧ Mem w' g r (List.replicate n 0) ∧ Below w.heap.size w w'

theorem heap_new (w : World) (o : Obj) : (w.alloc o).heap[w.heap.size]? = some o := by
  show (w.heap.push o)[w.heap.size]? = _
  simp

theorem run_make_at (n : Int) (k : Nat) (h : n = k) (hk : k ≤ 1099511627776) (w : World) :
    (Instr.makeSlice 22 (.int .i64 n) (.int .i64 n)).run Try.prog w = .ok (.slice (some ⟨w.heap.size, 0, none⟩) k k) (w.alloc (.cells (cel (List.replicate k 0)).toArray 5)) := by
  subst h; exact run_make_bytes k hk w

theorem new_mem (w : World) (n : Nat) (hn : n ≤ 16777216) :
    NewMem w n (.returned (.pointer (some ⟨w.heap.size + 1, 0, none⟩)))
      ((w.alloc (.cells (cel (List.replicate n 0)).toArray 5)).alloc (.cells #[.slice (some ⟨w.heap.size, 0, none⟩) n n] 81)) := by
  refine ⟨_, w.heap.size, rfl, by omega, Nat.le_refl _, ⟨?_, ?_, Byt.zeros _, by simpa using hn⟩, ((Below.refl _ _).alloc (Nat.le_refl _) _).alloc (by simp) _⟩
  · have := heap_new (w.alloc (.cells (cel (List.replicate n 0)).toArray 5)) (.cells #[.slice (some ⟨w.heap.size, 0, none⟩) n n] 81)
    simpa using this
  · rw [Below.heap_alloc _ _ _ (by simp)]
    exact heap_new _ _

set_option maxHeartbeats 400000 in
theorem new_any (n : Int) (w : World) :
    Calls Try.prog 11 #[.int .i64 n] w (NewMem w (sized n)) := by
  obtain ⟨k, hk⟩ : ∃ k, sized n = k := ⟨_, rfl⟩
  have hle : k ≤ 16777216 := hk ▸ sized_le n
  rw [hk]
  have H := new_mem w k hle
  by_cases h1 : n ≤ 0
  · have h2 : n ≤ 16777216 := by omega
    have hmk := fun W => run_make_at 0 k (by unfold sized at hk; omega) (by omega) W
    clear hk
    go_enter Try.func11, Try.ntmps11
    go_wp2
    go_ret
    exact H
  · have h1' : 0 < n := by omega
    by_cases h2 : n ≤ 16777216
    · have hmk := fun W => run_make_at n k (by unfold sized at hk; omega) (by omega) W
      clear hk
      go_enter Try.func11, Try.ntmps11
      go_wp2
      go_ret
      exact H
    · have h2' : 16777216 < n := by omega
      have hmk := fun W => run_make_at 16777216 k (by unfold sized at hk; omega) (by omega) W
      clear hk
      go_enter Try.func11, Try.ntmps11
      go_wp2
      go_ret
      exact H

set_option maxHeartbeats 400000 in
theorem size_any (g r : Nat) (xs : List Int) (w : World) (h : Mem w g r xs) :
    Calls Try.prog 75 #[.pointer (some ⟨g, 0, none⟩)] w fun e w' => e = .returned (.int .i64 xs.length) ∧ w = w' := by
  have hc := h.cell
  have hl := h.len
  clear h
  go_enter Try.func75, Try.ntmps75
  go_wp2
  go_ret
  exact ⟨rfl, rfl⟩

set_option maxHeartbeats 400000 in
theorem has_ok (g r : Nat) (xs : List Int) (a n : Int) (w : World) (h : Mem w g r xs) (ha : 0 ≤ a) (hn : 0 ≤ n) (hf : a + n ≤ xs.length) :
    Calls Try.prog 36 #[.pointer (some ⟨g, 0, none⟩), .int .u32 a, .int .i64 n] w fun e w' => e = .returned (.int .i64 0) ∧ w = w' := by
  have hc := h.cell
  have hl := h.len
  have hn' : ¬ n < 0 := by omega
  have hf' : ¬ (xs.length : Int) - a < n := by omega
  clear h
  go_enter Try.func36, Try.ntmps36
  go_wp2
  go_ret
  exact ⟨rfl, rfl⟩

set_option maxHeartbeats 400000 in
theorem has_not (g r : Nat) (xs : List Int) (a n : Int) (w : World) (h : Mem w g r xs) (ha : 0 ≤ a) (ha' : a < 4294967296) (hf : ¬ (0 ≤ n ∧ a + n ≤ xs.length)) :
    Calls Try.prog 36 #[.pointer (some ⟨g, 0, none⟩), .int .u32 a, .int .i64 n] w fun e w' => e = .returned (.int .i64 6) ∧ w = w' := by
  have hc := h.cell
  have hl := h.len
  clear h
  by_cases hn : n < 0
  · clear hf
    go_enter Try.func36, Try.ntmps36
    go_wp2
    go_ret
    exact ⟨rfl, rfl⟩
  · have hf' : (xs.length : Int) - a < n := by omega
    have hn' : 0 ≤ n := by omega
    clear hf
    go_enter Try.func36, Try.ntmps36
    go_wp2
    go_ret
    exact ⟨rfl, rfl⟩

set_option maxHeartbeats 400000 in
theorem has_nil (a n : Int) (w : World) :
    Calls Try.prog 36 #[.pointer none, .int .u32 a, .int .i64 n] w fun e w' => e = .returned (.int .i64 2) ∧ w = w' := by
  go_enter Try.func36, Try.ntmps36
  go_wp2
  go_ret
  exact ⟨rfl, rfl⟩

set_option maxHeartbeats 400000 in
theorem holds_ok (g r : Nat) (xs : List Int) (a n : Int) (w : World) (h : Mem w g r xs) (ha : 0 ≤ a) (hn : 0 ≤ n) (hn4 : n ≤ 4) (hf : a + n ≤ xs.length) :
    Calls Try.prog 55 #[.pointer (some ⟨g, 0, none⟩), .int .u32 a, .int .i64 n] w fun e w' => e = .returned (.int .i64 0) ∧ w = w' := by
  have hn' : ¬ 4 < n := by omega
  have C := Lib.hid (has_ok g r xs a n w h ha hn hf)
  clear h
  go_enter Try.func55, Try.ntmps55
  go_wp2_with fail
  refine C.out.mono ?_
  rintro e w' ⟨rfl, rfl⟩
  go_wp2
  go_ret
  exact ⟨rfl, rfl⟩

set_option maxHeartbeats 400000 in
theorem holds_not (g r : Nat) (xs : List Int) (a n : Int) (w : World) (h : Mem w g r xs) (ha : 0 ≤ a) (ha' : a < 4294967296) (hf : ¬ (0 ≤ n ∧ n ≤ 4 ∧ a + n ≤ xs.length)) :
    Calls Try.prog 55 #[.pointer (some ⟨g, 0, none⟩), .int .u32 a, .int .i64 n] w fun e w' => e = .returned (.int .i64 6) ∧ w = w' := by
  by_cases h1 : 0 ≤ n ∧ a + n ≤ xs.length
  · have h4 : 4 < n := by omega
    have C := Lib.hid (has_ok g r xs a n w h ha h1.1 h1.2)
    clear h h1 hf
    go_enter Try.func55, Try.ntmps55
    go_wp2_with fail
    refine C.out.mono ?_
    rintro e w' ⟨rfl, rfl⟩
    go_wp2
    go_ret
    exact ⟨rfl, rfl⟩
  · have C := Lib.hid (has_not g r xs a n w h ha ha' h1)
    clear h h1 hf
    go_enter Try.func55, Try.ntmps55
    go_wp2_with fail
    refine C.out.mono ?_
    rintro e w' ⟨rfl, rfl⟩
    go_wp2
    go_ret
    exact ⟨rfl, rfl⟩

end Go.Proofs.Ytfpdemlcmfaieaa.Rm
