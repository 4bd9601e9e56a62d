/- Contracts of what goes bit by bit: Logic and bitwise of package alu, and the document's own. -/
import Derived.Test.YtfninhgjejdafaaANum
namespace Go.Proofs.Ytfninhgjejdafaa.Cs
open Go.RowKit

theorem lg_cases (op : Int) : op = 1 ∨ op = 2 ∨ op = 12 ∨ op = 13 ∨ op = 14 ∨ op = 15 ∨ op = 18 ∨ lgc op = false := by
  by_cases h1 : op = 1
  · exact .inl h1
  by_cases h2 : op = 2
  · exact .inr (.inl h2)
  by_cases h3 : op = 12
  · exact .inr (.inr (.inl h3))
  by_cases h4 : op = 13
  · exact .inr (.inr (.inr (.inl h4)))
  by_cases h5 : op = 14
  · exact .inr (.inr (.inr (.inr (.inl h5))))
  by_cases h6 : op = 15
  · exact .inr (.inr (.inr (.inr (.inr (.inl h6)))))
  by_cases h7 : op = 18
  · exact .inr (.inr (.inr (.inr (.inr (.inr (.inl h7))))))
  refine .inr (.inr (.inr (.inr (.inr (.inr (.inr ?_))))))
  simp [lgc, h1, h2, h3, h4, h5, h6, h7]
theorem lgc_not {op : Int} (h : lgc op = false) : op ≠ 1 ∧ op ≠ 2 ∧ op ≠ 12 ∧ op ≠ 13 ∧ op ≠ 14 ∧ op ≠ 15 ∧ op ≠ 18 := by
  unfold lgc at h
  simp only [Bool.or_eq_false_iff, beq_eq_false_iff_ne] at h
  obtain ⟨⟨⟨⟨⟨⟨h1, h2⟩, h3⟩, h4⟩, h5⟩, h6⟩, h7⟩ := h
  exact ⟨h1, h2, h3, h4, h5, h6, h7⟩

set_option maxHeartbeats 400000 in
theorem logic_any (op : Int) (w : World) :
    Calls Try.prog 13 #[.int .i64 op] w fun e w' => e = .returned (.bool (lgc op)) ∧ w = w' := by
  rcases lg_cases op with rfl | rfl | rfl | rfl | rfl | rfl | rfl | h
  all_goals try
    go_enter Try.func13, Try.ntmps13
    go_wp2
    go_ret
    exact ⟨rfl, rfl⟩
  have HL := Lib.hid h
  obtain ⟨h1, h2, h3, h4, h5, h6, h7⟩ := lgc_not h
  clear h
  have k1 : (op == 1) = false := by simp [h1]
  have k2 : (op == 2) = false := by simp [h2]
  have k3 : (op == 12) = false := by simp [h3]
  have k4 : (op == 13) = false := by simp [h4]
  have k5 : (op == 14) = false := by simp [h5]
  have k6 : (op == 15) = false := by simp [h6]
  have k7 : (op == 18) = false := by simp [h7]
  go_enter Try.func13, Try.ntmps13
  go_wp2
  go_ret
  exact ⟨ret_bool HL.out.symm, rfl⟩

set_option maxHeartbeats 400000 in
theorem rlogic_any (op : Int) (w : World) :
    Calls Try.prog 14 #[.int .i64 op] w fun e w' => e = .returned (.bool (lgc op)) ∧ w = w' := by
  rcases lg_cases op with rfl | rfl | rfl | rfl | rfl | rfl | rfl | h
  all_goals try
    go_enter Try.func14, Try.ntmps14
    go_wp2
    go_ret
    exact ⟨rfl, rfl⟩
  have HL := Lib.hid h
  obtain ⟨h1, h2, h3, h4, h5, h6, h7⟩ := lgc_not h
  clear h
  have k1 : (op == 1) = false := by simp [h1]
  have k2 : (op == 2) = false := by simp [h2]
  have k7 : (op == 18) = false := by simp [h7]
  by_cases hl : op < 12
  · clear h3 h4 h5 h6
    go_enter Try.func14, Try.ntmps14
    go_wp2
    go_ret
    exact ⟨ret_bool HL.out.symm, rfl⟩
  · have hl : 15 < op := by omega
    clear h3 h4 h5 h6
    go_enter Try.func14, Try.ntmps14
    go_wp2
    go_ret
    exact ⟨(ret_bool (by rw [HL.out]; exact decide_eq_false (by omega)) : Ending.returned (.bool (decide (op ≤ 15))) = _), rfl⟩

set_option maxHeartbeats 400000 in
theorem bitwise_any (op a b : Int) (hl : lgc op = true) (w : World) :
    Calls Try.prog 20 #[.int .i64 op, .int .u32 a, .int .u32 b] w fun e w' => e = .returned (.int .u32 (lg op a b)) ∧ w = w' := by
  rcases lg_cases op with rfl | rfl | rfl | rfl | rfl | rfl | rfl | h
  all_goals try
    clear hl
    go_enter Try.func20, Try.ntmps20
    go_wp2
    go_ret
    exact ⟨rfl, rfl⟩
  rw [h] at hl; cases hl

set_option maxHeartbeats 400000 in
theorem rbitwise_any (op : Int) (p q : Bool) (hl : lgc op = true) (w : World) :
    Calls Try.prog 26 #[.int .i64 op, .bool p, .bool q] w fun e w' => e = .returned (.bool (lgb op p q)) ∧ w = w' := by
  rcases lg_cases op with rfl | rfl | rfl | rfl | rfl | rfl | rfl | h
  all_goals try
    clear hl
    cases p <;> cases q
    all_goals
      go_enter Try.func26, Try.ntmps26
      go_wp2
      go_ret
      exact ⟨rfl, rfl⟩
  rw [h] at hl; cases hl
theorem rbitwise_as (op : Int) (p q t : Bool) (hl : lgc op = true) (h : lgb op p q = t) (w : World) :
    Calls Try.prog 26 #[.int .i64 op, .bool p, .bool q] w fun e w' => e = .returned (.bool t) ∧ w = w' := h ▸ rbitwise_any op p q hl w

set_option maxHeartbeats 400000 in
theorem rbit_any (x : Int) (n : Nat) (hx : U x) (hn : n ≤ 31) (w : World) :
    Calls Try.prog 27 #[.int .u32 x, .int .i64 n] w fun e w' => e = .returned (.bool (bi x n)) ∧ w = w' := by
  go_enter Try.func27, Try.ntmps27
  go_wp2
  go_loop [0, 5] (fun y i => ∃ k : Nat, k ≤ n ∧ i = .int .i64 k ∧ y = .int .u32 (x / 2 ^ k)) (fun _ i => n - (intOf i).toNat)
  case atStart => exact ⟨0, Nat.zero_le _, rfl, by simp⟩
  case round =>
    obtain ⟨k, hk, rfl, rfl⟩ := hrel
    have hb : U (x / 2 ^ k) := by
      have hp : (0 : Int) < 2 ^ k := Int.pow_pos (by omega)
      have h0 := hx.1
      have h1 := hx.2
      exact ⟨Int.ediv_nonneg h0 (by omega), Int.lt_of_le_of_lt (Int.ediv_le_self _ h0) h1⟩
    have h0 := hb.1
    have h1 := hb.2
    by_cases hlt : k < n
    · go_wp2
      go_round
      case rel =>
        refine ⟨k + 1, by omega, by go_num, ?_⟩
        have : x / 2 ^ (k + 1) = x / 2 ^ k / 2 := by
          rw [Int.pow_succ, Int.ediv_ediv_of_nonneg (Int.pow_nonneg (by omega))]
        rw [this]
      case measure => simp [intOf]; omega
    · have : k = n := by omega
      subst this
      go_wp2
      go_ret
      exact ⟨rfl, rfl⟩

end Go.Proofs.Ytfninhgjejdafaa.Cs
