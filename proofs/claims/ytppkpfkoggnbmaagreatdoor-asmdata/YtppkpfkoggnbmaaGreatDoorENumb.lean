/- Contracts of package spec: number. -/
import Derived.Test.YtppkpfkoggnbmaaGreatDoorEMem
import Derived.Handy
namespace Go.Proofs.YtppkpfkoggnbmaaGreatDoor.Cs.Es
open Go.RowKit

theorem or_next {x y : Int} (k : Nat) (hk : k < 4) (hx0 : 0 ≤ x) (hx : x < 256 ^ k) (hy0 : 0 ≤ y) (hy : y < 256) : bits .or .u32 x (256 ^ k * y) = x + 256 ^ k * y := by
  have h4 : k = 0 ∨ k = 1 ∨ k = 2 ∨ k = 3 := by omega
  have hU : U (256 ^ k * y) := by rcases h4 with rfl | rfl | rfl | rfl <;> exact ⟨by omega, by omega⟩
  have hX : U x := by rcases h4 with rfl | rfl | rfl | rfl <;> exact ⟨by omega, by omega⟩
  have hc : bits .or .u32 x (256 ^ k * y) = bits .or .u32 (256 ^ k * y) x := by
    rw [u32_or _ _ hX.1 hX.2 hU.1 hU.2, u32_or _ _ hU.1 hU.2 hX.1 hX.2, Nat.or_comm]
  rw [hc, or_join (8 * k) _ _ hU hx0 ?_ ?_ hX]
  · omega
  · rcases h4 with rfl | rfl | rfl | rfl <;> omega
  · rcases h4 with rfl | rfl | rfl | rfl <;> simpa using hx

set_option maxHeartbeats 1000000 in
set_option maxRecDepth 100000 in
theorem number_any (A : Option Addr) (n c : Nat) (ys : List Int) (w : World) (hz : Sz n) (h : By w A n c ys) :
    Calls Tryz.prog 57 #[.slice A n c] w fun e w' => e = .returned (.int .u32 (nb ys)) ∧ w = w' := by
  have HY := Lib.hid h
  have hn4 : n ≤ 4 := by rcases hz with h | h | h <;> omega
  have hx : U (num ys) := by
    have h1 := num_bound h.byt
    rw [h.len] at h1
    have h4 : n = 1 ∨ n = 2 ∨ n = 4 := by rcases hz with h | h | h <;> omega
    rcases h4 with rfl | rfl | rfl <;> exact ⟨by omega, by omega⟩
  have KX : Hid (∀ w, Calls Tryz.prog 86 #[.int .u32 (num ys), .int .i64 (n : Int)] w fun e w' => e = .returned (.int .u32 (nb ys)) ∧ w = w') := by
    show ∀ w, Calls _ _ _ _ _
    intro w
    have := extend_any (num ys) n hz hx w
    unfold nb
    rw [h.len]
    exact this
  generalize nb ys = q at *
  clear h hz
  go_enter Tryz.func57, Tryz.ntmps57
  go_wp2
  go_loop [3, 8] (fun x i => ∃ k : Nat, k ≤ n ∧ i = .int .i64 k ∧ x = .int .u32 (num (ys.take k))) (fun _ i => n - (intOf i).toNat)
  case atStart => exact ⟨0, Nat.zero_le _, rfl, rfl⟩
  case round =>
    obtain ⟨k, hk, rfl, rfl⟩ := hrel
    by_cases hlt : k < n
    · obtain ⟨ad, rfl, hcl⟩ := HY.out.at_ hlt
      obtain ⟨y0, y1⟩ := HY.out.byt.at_ k
      have hb := num_bound (HY.out.byt.take k)
      rw [List.length_take, HY.out.len, Nat.min_eq_left hk] at hb
      have HS := Lib.hid (num_take ys k (by rw [HY.out.len]; exact hlt))
      obtain ⟨b0, b1⟩ := hb
      have HO := Lib.hid (or_next k (by omega) b0 b1 y0 y1)
      have HB1 := Lib.hid b1
      clear b1
      generalize hv1 : num (ys.take (k + 1)) = v1 at HS
      have HV1 := Lib.hid hv1
      clear hv1
      generalize num (ys.take k) = v0 at *
      generalize ys.getD k 0 = y at *
      have h4 : k = 0 ∨ k = 1 ∨ k = 2 ∨ k = 3 := by omega
      rcases h4 with rfl | rfl | rfl | rfl
      all_goals
        simp only [Addr.add] at hcl
        simp at hcl
        go_wp2
        go_round
        case rel => exact ⟨_, hlt, rfl, congrArg (Value.int .u32) (by rw [HV1.out, HS.out, ← HO.out]; first | rfl | (congr 1; omega))⟩
        case measure => first | (simp [intOf]; done) | (simp [intOf]; omega)
    · obtain rfl : k = n := by omega
      rw [List.take_of_length_le (by rw [HY.out.len]; exact Nat.le_refl _)]
      go_wp2_with (go_at_call 86; refine (KX.out _).mono ?_; rintro e w' ⟨rfl, rfl⟩)
      go_ret
      exact ⟨rfl, rfl⟩

end Go.Proofs.YtppkpfkoggnbmaaGreatDoor.Cs.Es
