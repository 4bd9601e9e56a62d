/- Contracts of Branch, the program's and the document's. -/
import Derived.Test.YtlijffjfaggkoaaPsl2
namespace Go.Proofs.Ytlijffjfaggkoaa.Cs
open Go.RowKit

theorem br_none {k : Int} (h : ¬ k = 18 ∧ ¬ k = 19 ∧ ¬ k = 20 ∧ ¬ k = 21 ∧ ¬ k = 24 ∧ ¬ k = 25 ∧ ¬ k = 26 ∧ ¬ k = 27 ∧ ¬ k = 28 ∧ ¬ k = 29 ∧ ¬ k = 30 ∧ ¬ k = 31) (n z v c : Bool) : br k n z v c = false := by
  obtain ⟨h1, h2, h3, h4, h5, h6, h7, h8, h9, h10, h11, h12⟩ := h
  simp [br, *]
theorem k_cases (k : Int) : k = 18 ∨ k = 19 ∨ k = 20 ∨ k = 21 ∨ k = 24 ∨ k = 25 ∨ k = 26 ∨ k = 27 ∨ k = 28 ∨ k = 29 ∨ k = 30 ∨ k = 31 ∨ (¬ k = 18 ∧ ¬ k = 19 ∧ ¬ k = 20 ∧ ¬ k = 21 ∧ ¬ k = 24 ∧ ¬ k = 25 ∧ ¬ k = 26 ∧ ¬ k = 27 ∧ ¬ k = 28 ∧ ¬ k = 29 ∧ ¬ k = 30 ∧ ¬ k = 31) := by omega

set_option maxHeartbeats 4000000 in
theorem branch_any (k : Int) (n z v c : Bool) (w : World) :
    Calls Try.prog 26 #[.int .i64 k, .agg #[.bool n, .bool z, .bool v, .bool c]] w fun e w' => e = .returned (.bool (br k n z v c)) ∧ Below w.heap.size w w' := by
  rcases k_cases k with rfl | rfl | rfl | rfl | rfl | rfl | rfl | rfl | rfl | rfl | rfl | rfl | h
  rotate_right
  · have HB := Lib.hid (br_none h n z v c)
    obtain ⟨h1, h2, h3, h4, h5, h6, h7, h8, h9, h10, h11, h12⟩ := h
    go_enter Try.func26, Try.ntmps26
    go_wp2
    go_ret
    exact ⟨ret_bool HB.out.symm, (Below.refl _ _).alloc (Nat.le_refl _) _⟩
  all_goals
    first
    | (go_enter Try.func26, Try.ntmps26
       go_wp2
       go_ret
       exact ⟨rfl, (Below.refl _ _).alloc (Nat.le_refl _) _⟩)
    | (cases n <;> cases z <;> cases c <;>
       (go_enter Try.func26, Try.ntmps26
        go_wp2
        go_ret
        exact ⟨rfl, (Below.refl _ _).alloc (Nat.le_refl _) _⟩))

set_option maxHeartbeats 4000000 in
theorem rbranch_any (k : Int) (n z v c : Bool) (w : World) :
    Calls Try.prog 27 #[.int .i64 k, .agg #[.bool n, .bool z, .bool v, .bool c]] w fun e w' => e = .returned (.bool (br k n z v c)) ∧ Below w.heap.size w w' := by
  rcases k_cases k with rfl | rfl | rfl | rfl | rfl | rfl | rfl | rfl | rfl | rfl | rfl | rfl | h
  rotate_right
  · have HB := Lib.hid (br_none h n z v c)
    obtain ⟨h1, h2, h3, h4, h5, h6, h7, h8, h9, h10, h11, h12⟩ := h
    go_enter Try.func27, Try.ntmps27
    go_wp2
    go_ret
    exact ⟨ret_bool HB.out.symm, (Below.refl _ _).alloc (Nat.le_refl _) _⟩
  all_goals
    first
    | (go_enter Try.func27, Try.ntmps27
       go_wp2
       go_ret
       exact ⟨rfl, (Below.refl _ _).alloc (Nat.le_refl _) _⟩)
    | (cases n <;> cases z <;> cases c <;>
       (go_enter Try.func27, Try.ntmps27
        go_wp2
        go_ret
        exact ⟨rfl, (Below.refl _ _).alloc (Nat.le_refl _) _⟩))
end Go.Proofs.Ytlijffjfaggkoaa.Cs
