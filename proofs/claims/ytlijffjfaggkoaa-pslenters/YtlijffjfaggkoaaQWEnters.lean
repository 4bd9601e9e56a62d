/- The walk of PslEnters. -/
import Derived.Test.YtlijffjfaggkoaaQWParts
namespace Go.Proofs.Ytlijffjfaggkoaa.Cs
open Go.RowKit

theorem and_not_bit {x : Int} (hx : U x) (i : Nat) (hi : i < 32) (h : bi x i = false) : bits .and .u32 x (2 ^ i) = 0 := by
  have := and_bit hx i hi
  rw [h] at this
  simpa using this

set_option maxHeartbeats 2000000 in
theorem qenters_yes (x a b : Int) (hx : U x) (a0 : 0 ≤ a) (a1 : a ≤ 31) (b0 : 0 ≤ b) (b1 : b ≤ 31) (w : World) :
    Calls Try.prog 8 #[.int .u32 x, .int .i64 a, .int .i64 b] w fun e w' => e = .returned (.bool true) ∧ Below w.heap.size w w' := by
  have hyU := en_U x a
  have hzU := en_U (en x a) b
  obtain ⟨y1, y2, y3, y4, y5, y6, y7, y8⟩ := en_parts x a
  have hz := en_en x a b
  rw [show b % 32 = b by omega] at hz
  have K1 := Lib.hid (enter_any x a hx)
  have K2 := Lib.hid (enter_as _ b _ hyU hz)
  have K3 := Lib.hid (flags_as _ false false false false hyU ⟨y8, y7, y6, y5⟩)
  have K4 := Lib.hid (good_as _ _ hyU (en_good x a))
  have K5 := Lib.hid (user_any x hx)
  have K6 := Lib.hid (back_as _ _ _ hzU hyU (bk_two ⟨a0, a1⟩ ⟨b0, b1⟩))
  rw [hz] at K6
  have HF := and_not_bit hyU 27 (by omega) y2
  have HW := and_bit hyU 22 (by omega)
  rw [y3] at HW
  rw [show (2 : Int) ^ 27 = 134217728 from rfl] at HF
  rw [show (2 : Int) ^ 22 = 4194304 from rfl] at HW
  clear y1 y2 y3 y4 y5 y6 y7 y8 hz hyU hzU
  generalize en x a = Y at *
  generalize bi x 24 = u at *
  clear hx
  go_enter Try.func8, Try.ntmps8
  go_wp2_with (first | (go_at_call 9; refine (alive_any _).mono ?_; rintro e w' ⟨rfl, rfl⟩) | fail)
  refine (K1.out _).mono ?_
  rintro e w' ⟨rfl, rfl⟩
  go_wp2_with fail
  refine (K2.out _).mono ?_
  rintro e w' ⟨rfl, rfl⟩
  go_wp2_with fail
  refine (K3.out _).mono ?_
  rintro e w1 ⟨rfl, hb1⟩
  go_wp2_with fail
  refine (K4.out _).mono ?_
  rintro e w' ⟨rfl, rfl⟩
  go_wp2_with fail
  refine (K5.out _).mono ?_
  rintro e w' ⟨rfl, rfl⟩
  go_wp2_with fail
  refine (K6.out _).mono ?_
  rintro e w' ⟨rfl, rfl⟩
  go_wp2_with fail
  go_ret
  exact ⟨by simp, hb1⟩

set_option maxHeartbeats 400000 in
theorem qenters_not (x a b : Int) (h : ¬ (0 ≤ a ∧ a ≤ 31 ∧ 0 ≤ b ∧ b ≤ 31)) (w : World) :
    Calls Try.prog 8 #[.int .u32 x, .int .i64 a, .int .i64 b] w fun e w' => e = .returned (.bool true) ∧ Below w.heap.size w w' := by
  have h4 : a < 0 ∨ (0 ≤ a ∧ 31 < a) ∨ (0 ≤ a ∧ a ≤ 31 ∧ b < 0) ∨ (0 ≤ a ∧ a ≤ 31 ∧ 0 ≤ b ∧ 31 < b) := by omega
  clear h
  rcases h4 with h | ⟨h, h1⟩ | ⟨h, h1, h2⟩ | ⟨h, h1, h2, h3⟩
  all_goals
    go_enter Try.func8, Try.ntmps8
    go_wp2_with (first | (go_at_call 9; refine (alive_any _).mono ?_; rintro e w' ⟨rfl, rfl⟩) | fail)
    go_ret
    exact ⟨rfl, Below.refl _ _⟩

theorem qenters_walk (x a b : Int) (hx : (Lit.int .u32 x).wf = true) (_ : (Lit.int .i64 a).wf = true) (_ : (Lit.int .i64 b).wf = true) (w : World) :
    Calls Try.prog 8 #[.int .u32 x, .int .i64 a, .int .i64 b] w fun e w' => e = .returned (.bool true) ∧ Below w.heap.size w w' := by
  by_cases h : 0 ≤ a ∧ a ≤ 31 ∧ 0 ≤ b ∧ b ≤ 31
  · exact qenters_yes x a b (U_of hx) h.1 h.2.1 h.2.2.1 h.2.2.2 w
  · exact qenters_not x a b h w
end Go.Proofs.Ytlijffjfaggkoaa.Cs
