/- The walk of ShiftTurns. -/
import Derived.Test.YtfhhlieacmkheaaSAlive
namespace Go.Proofs.Ytfhhlieacmkheaa.Cs
open Go.RowKit

theorem ro_add (a b : Int) : ro ((a + b) % 256) = (ro a + ro b) % 32 := by
  rw [ro_as, ro_as, ro_as]; omega
theorem bi_num {x : Int} (hx : 0 ≤ x) (k : Nat) : (x / 2 ^ k).tmod 2 = bt (bi x k) := by
  rw [Int.tmod_eq_emod_of_nonneg (Int.ediv_nonneg hx (Int.le_of_lt (pw k)))]
  unfold bi bt
  have : x / 2 ^ k % 2 = 0 ∨ x / 2 ^ k % 2 = 1 := by omega
  rcases this with h | h <;> rw [h] <;> rfl
theorem ro_32 (a : Int) : ro ((a + 32) % 256) = ro a := by
  rw [ro_as, ro_as]; omega

set_option maxRecDepth 100000 in
set_option maxHeartbeats 4000000 in
theorem turns_any (a b x : Int) (ha : B a) (hb : B b) (hx : U x) (w : World) :
    Calls Try.prog 7 #[.int .u8 a, .int .u8 b, .int .u32 x] w fun e w' => e = .returned (.bool true) ∧ Below w.heap.size w w' := by
  have hy : U (rt x (ro a)) := rt_U hx (Nat.le_of_lt (ro_lt a))
  have hB : ∀ n : Int, B (n % 256) := fun n => ⟨by omega, by omega⟩
  have k1 := rot_any a x false ha hx
  have k2 := rot_any b (rt x (ro a)) true hb hy
  have k3 := rot_any ((a + b) % 256) x true (hB _) hx
  have k4 := rot_any ((a + 32) % 256) x false (hB _) hx
  rw [rt_rt hx (ro_lt a) (ro_lt b)] at k2
  rw [ro_add] at k3
  rw [ro_32] at k4
  have K0 := Lib.hid alive9
  have K1 := Lib.hid k1
  have K2 := Lib.hid k2
  have K3 := Lib.hid k3
  have K4 := Lib.hid k4
  have HC := Lib.hid (cnt_rt hx (ro_lt a))
  obtain ⟨y0, y1⟩ := hy
  obtain ⟨x0, x1⟩ := hx
  clear k1 k2 k3 k4 hB
  generalize (ro a + ro b) % 32 = m at *
  generalize ng (rt x m) 4 = p1 at *
  generalize zr (rt x m) 4 = p2 at *
  generalize rt x m = z at *
  generalize ng (rt x (ro a)) 4 = q1 at *
  generalize zr (rt x (ro a)) 4 = q2 at *
  generalize rt x (ro a) = y at *
  obtain ⟨a0, a1⟩ := ha
  obtain ⟨b0, b1⟩ := hb
  go_enter Try.func7, Try.ntmps7
  go_wp2_with fail
  refine (K0.out _).mono ?_
  rintro e w1 ⟨rfl, hb1⟩
  go_wp2_with fail
  refine (K1.out _).mono ?_
  rintro e w2 ⟨rfl, hb2⟩
  go_wp2_with fail
  refine (K2.out _).mono ?_
  rintro e w3 ⟨rfl, hb3⟩
  go_wp2_with fail
  refine (K3.out _).mono ?_
  rintro e w4 ⟨rfl, hb4⟩
  go_wp2_with fail
  refine (K4.out _).mono ?_
  rintro e w5 ⟨rfl, hb5⟩
  have y5 : w4.heap.size < w5.heap.size := by have := hb5.size; simp at this; omega
  have c45 := fun o => hb5.cell (p := ⟨w4.heap.size, o, none⟩) (by simp)
  have HX := Lib.hid (below3 (below3 (below3 (below2 hb1 hb2) hb3) hb4) hb5)
  clear hb1 hb2 hb3 hb4 hb5
  go_wp2
  go_loop [15, 16] (fun n i => ∃ k : Nat, k ≤ 32 ∧ i = .int .i64 k ∧ n = .int .i64 (cnt x k - cnt y k)) (fun _ i => 32 - (intOf i).toNat)
  case atStart => exact ⟨0, by omega, rfl, by simp [cnt_zero]⟩
  case round =>
    obtain ⟨k, hk, rfl, rfl⟩ := hrel
    obtain ⟨n0, n1⟩ := cnt_bound x k
    obtain ⟨m0, m1⟩ := cnt_bound y k
    by_cases hlt : k < 32
    · have HS := Lib.hid (cnt_succ x k)
      have HT := Lib.hid (cnt_succ y k)
      have ex := bi_num x0 k
      have ey := bi_num y0 k
      generalize cnt x k = n at *
      generalize cnt y k = m at *
      cases h1 : bi x k <;> cases h2 : bi y k
      all_goals
        rw [h1] at ex HS
        rw [h2] at ey HT
        simp only [bt, Bool.false_eq_true, if_false, if_true] at ex ey
        clear h1 h2
        go_wp2
        go_round
        case rel => exact ⟨k + 1, by omega, by go_num, by rw [HS.out, HT.out]; exact congrArg _ (by simp [bt]; try omega)⟩
        case measure => simp [intOf]; omega
    · obtain rfl : k = 32 := by omega
      rw [HC.out, Int.sub_self]
      go_wp2
      go_ret
      exact ⟨rfl, HX.out.alloc HX.out.size _⟩

theorem turns_walk (a b x : Int) (ha : (Lit.int .u8 a).wf = true) (hb : (Lit.int .u8 b).wf = true) (hx : (Lit.int .u32 x).wf = true) (w : World) :
    Calls Try.prog 7 #[.int .u8 a, .int .u8 b, .int .u32 x] w fun e w' => e = .returned (.bool true) ∧ Below w.heap.size w w' :=
  turns_any a b x (B_of ha) (B_of hb) (U_of hx) w

end Go.Proofs.Ytfhhlieacmkheaa.Cs
