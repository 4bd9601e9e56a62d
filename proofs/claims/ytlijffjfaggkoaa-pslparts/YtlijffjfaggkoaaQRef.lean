/- Contracts of the document's own reckoning of a status: Bit, bit, Codes, Of. -/
import Derived.Test.YtlijffjfaggkoaaPsl2
namespace Go.Proofs.Ytlijffjfaggkoaa.Cs
open Go.RowKit

set_option maxHeartbeats 400000 in
theorem rbit_any (x : Int) (n : Nat) (hx : U x) (hn : n ≤ 31) (w : World) :
    Calls Try.prog 28 #[.int .u32 x, .int .i64 n] w fun e w' => e = .returned (.bool (bi x n)) ∧ w = w' := by
  go_enter Try.func28, Try.ntmps28
  go_wp2
  go_loop [0, 5] (fun y i => ∃ k : Nat, k ≤ n ∧ i = .int .i64 k ∧ y = .int .u32 (x / 2 ^ k)) (fun _ i => n - (intOf i).toNat)
  case atStart => exact ⟨0, Nat.zero_le _, rfl, by simp⟩
  case round =>
    obtain ⟨k, hk, rfl, rfl⟩ := hrel
    have hb : U (x / 2 ^ k) := by
      have hp : (0 : Int) < 2 ^ k := Int.pow_pos (by omega)
      have h0 := hx.1
      have h1 := hx.2
      exact ⟨Int.ediv_nonneg h0 (by omega), Int.lt_of_le_of_lt (Int.ediv_le_self _ h0) h1⟩
    have h0 := hb.1
    have h1 := hb.2
    by_cases hlt : k < n
    · go_wp2
      go_round
      case rel =>
        refine ⟨k + 1, by omega, by go_num, ?_⟩
        have : x / 2 ^ (k + 1) = x / 2 ^ k / 2 := by
          rw [Int.pow_succ, Int.ediv_ediv_of_nonneg (Int.pow_nonneg (by omega))]
        rw [this]
      case measure => simp [intOf]; omega
    · have : k = n := by omega
      subst this
      go_wp2
      go_ret
      exact ⟨rfl, rfl⟩
theorem rbit_as (x : Int) (n : Nat) (hx : U x) (hn : n ≤ 31) (b : Bool) (hb : bi x n = b) (w : World) :
    Calls Try.prog 28 #[.int .u32 x, .int .i64 n] w fun e w' => e = .returned (.bool b) ∧ w = w' := hb ▸ rbit_any x n hx hn w

set_option maxHeartbeats 400000 in
theorem worth_any (b : Bool) (n : Nat) (hn : n ≤ 27) (w : World) :
    Calls Try.prog 30 #[.bool b, .int .i64 n] w fun e w' => e = .returned (.int .u32 (wo b (2 ^ n))) ∧ w = w' := by
  go_enter Try.func30, Try.ntmps30
  go_wp2
  go_loop [5, 6] (fun y i => ∃ k : Nat, k ≤ n ∧ i = .int .i64 k ∧ y = .int .u32 (2 ^ k)) (fun _ i => n - (intOf i).toNat)
  case atStart => exact ⟨0, Nat.zero_le _, rfl, by simp⟩
  case round =>
    obtain ⟨k, hk, rfl, rfl⟩ := hrel
    have h1 : (2 : Int) ^ k ≤ 134217728 := by
      have : (2 : Nat) ^ k ≤ 2 ^ 27 := Nat.pow_le_pow_right (by omega) (by omega)
      have e : ((2 ^ k : Nat) : Int) = 2 ^ k := by simp
      omega
    have h0 : (0 : Int) < 2 ^ k := Int.pow_pos (by omega)
    have HS := Lib.hid (show (2 : Int) ^ (k + 1) = 2 * 2 ^ k by rw [Int.pow_succ, Int.mul_comm])
    by_cases hlt : k < n
    · generalize (2 : Int) ^ k = p at *
      go_wp2
      go_round
      case rel => exact ⟨k + 1, by omega, by go_num, by rw [HS.out]⟩
      case measure => simp [intOf]; omega
    · have : k = n := by omega
      subst this
      cases b
      all_goals
        go_wp2
        go_ret
        exact ⟨rfl, rfl⟩
theorem worth_i (b : Bool) (k : Int) (h0 : 0 ≤ k) (h1 : k ≤ 27) (w : World) :
    Calls Try.prog 30 #[.bool b, .int .i64 k] w fun e w' => e = .returned (.int .u32 (wo b (2 ^ k.toNat))) ∧ w = w' := by
  obtain ⟨n, rfl⟩ := Int.eq_ofNat_of_zero_le h0
  exact worth_any b n (by omega) w

set_option maxHeartbeats 400000 in
theorem rcodes_any (n z v c : Bool) (w : World) :
    Calls Try.prog 17 #[.agg #[.bool n, .bool z, .bool v, .bool c]] w fun e w' => e = .returned (.int .u32 (cd n z v c)) ∧ Below w.heap.size w w' := by
  go_enter Try.func17, Try.ntmps17
  go_wp2
  generalize hW : w.alloc (.cells #[.bool n, .bool z, .bool v, .bool c] 25) = W
  have b1 : Below w.heap.size w W := by rw [← hW]; exact (Below.refl _ _).alloc (Nat.le_refl _) _
  have f0 : W.cell? ⟨w.heap.size, 0, none⟩ = some (.bool n) := by rw [← hW]; simp [go_sem]
  have f1 : W.cell? ⟨w.heap.size, 1, none⟩ = some (.bool z) := by rw [← hW]; simp [go_sem]
  have f2 : W.cell? ⟨w.heap.size, 2, none⟩ = some (.bool v) := by rw [← hW]; simp [go_sem]
  have f3 : W.cell? ⟨w.heap.size, 3, none⟩ = some (.bool c) := by rw [← hW]; simp [go_sem]
  clear hW
  replace f0 := later_cell f0
  replace f1 := later_cell f1
  replace f2 := later_cell f2
  replace f3 := later_cell f3
  refine wp_region_later (by kernel_rfl) (by kernel_rfl) ?_
  repeat (go_big_quiet_step (exact later_same (worth_i _ _ (by omega) (by omega) _)))
  refine wpQuiet_nil ?_
  rintro _ ⟨⟨w4, hb4⟩, rfl⟩
  go_wp2
  go_ret
  refine ⟨ret_int ?_, below2 b1 hb4⟩
  cases n <;> cases z <;> cases v <;> cases c <;> rfl

set_option maxHeartbeats 400000 in
theorem rwith_any (x : Int) (n z v c : Bool) (hx : U x) (w : World) :
    Calls Try.prog 19 #[.int .u32 x, .agg #[.bool n, .bool z, .bool v, .bool c]] w fun e w' => e = .returned (.int .u32 (wi x (cd n z v c))) ∧ Below w.heap.size w w' := by
  have hb := cd_bound n z v c
  obtain ⟨h0, h1⟩ := hx
  have C := Lib.hid (rcodes_any n z v c)
  generalize cd n z v c = q at *
  go_enter Try.func19, Try.ntmps19
  go_wp2_with fail
  refine (C.out _).mono ?_
  rintro e w1 ⟨rfl, hb1⟩
  go_wp2
  go_ret
  refine ⟨ret_int ?_, below2 ((Below.refl _ _).alloc (Nat.le_refl _) _) hb1⟩
  first | rfl | (unfold wi; omega)
end Go.Proofs.Ytlijffjfaggkoaa.Cs
