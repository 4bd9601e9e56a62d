/- The walk of BitsPuts. -/
import Derived.Test.YtpimfoejlfmimaaAlive
namespace Go.Proofs.Ytpimfoejlfmimaa.Cs
open Go.RowKit

theorem put_as (o x s y : Int) (hs : Sz s) (ho : U o) (hx : U x) (hy : o - o % W s + x % W s = y) (w : World) :
    Calls Try.prog 21 #[.int .u32 o, .int .u32 x, .int .i64 s] w fun e w' => e = .returned (.int .u32 y) ∧ w = w' := by
  subst hy; exact put_any o x s hs ho hx w

theorem put_U {o x s : Int} (hs : Sz s) (ho : U o) : U (o - o % W s + x % W s) := by
  unfold U at *
  rcases W_cases hs with h | h | h <;> rw [h] <;> omega

set_option maxHeartbeats 400000 in
theorem puts_yes (o x s : Int) (hs : Sz s) (ho : U o) (hx : U x) (w : World) :
    Calls Try.prog 8 #[.int .u32 o, .int .u32 x, .int .i64 s] w fun e w' => e = .returned (.bool true) ∧ Below w.heap.size w w' := by
  obtain ⟨y, hy⟩ : ∃ y, o - o % W s + x % W s = y := ⟨_, rfl⟩
  have hyU : U y := hy ▸ put_U hs ho
  have h1 : bits .and .u32 y (W s - 1) = x % W s := by
    rw [and_mask hs hyU, ← hy]; rcases W_cases hs with h | h | h <;> rw [h] <;> omega
  have h2 := and_mask hs hx
  have h3 : bits .andNot .u32 y (W s - 1) = o - o % W s := by
    rw [andNot_mask hs hyU, ← hy]; rcases W_cases hs with h | h | h <;> rw [h] <;> omega
  have h4 := andNot_mask hs ho
  have hb : y - y % W s + o % W s = o := by
    rw [← hy]; rcases W_cases hs with h | h | h <;> rw [h] <;> omega
  have hzx : 0 - 0 % W s + x % W s = x % W s := by
    rcases W_cases hs with h | h | h <;> rw [h] <;> omega
  have h5 : (bits .and .u32 (W s / 2) (W s - 1) != 0) = true := by
    have : U (W s / 2) := by unfold U; rcases W_cases hs with h | h | h <;> rw [h] <;> omega
    rw [and_mask hs this]
    rcases W_cases hs with h | h | h <;> rw [h] <;> rfl
  have HY := Lib.hid hy
  have HB := Lib.hid hb
  have HZ := Lib.hid hzx
  have h0U : U 0 := ⟨by omega, by omega⟩
  clear hy hb hzx
  go_enter Try.func8, Try.ntmps8
  go_wp2_with fail
  refine (alive_any _).mono ?_
  rintro e w1 ⟨rfl, hb1⟩
  go_wp2_with (first | (go_at_call 11; refine (size_any _ hs _).mono ?_; rintro e w' ⟨rfl, rfl⟩) | fail)
  refine (put_as _ _ _ y hs ho hx HY.out _).mono ?_
  rintro e w' ⟨rfl, rfl⟩
  go_wp2_with (first | (go_at_call 13; refine (mask_any _ hs _).mono ?_; rintro e w' ⟨rfl, rfl⟩) | fail)
  refine (put_as _ _ _ o hs hyU ho HB.out _).mono ?_
  rintro e w' ⟨rfl, rfl⟩
  go_wp2_with fail
  refine (put_as _ _ _ _ hs h0U hx HZ.out _).mono ?_
  rintro e w' ⟨rfl, rfl⟩
  go_wp2_with (first | (go_at_call 14; refine (top_any _ hs _).mono ?_; rintro e w' ⟨rfl, rfl⟩) | fail)
  go_ret
  exact ⟨rfl, hb1⟩

set_option maxHeartbeats 400000 in
theorem puts_not (o x s : Int) (hs : ¬ Sz s) (w : World) :
    Calls Try.prog 8 #[.int .u32 o, .int .u32 x, .int .i64 s] w fun e w' => e = .returned (.bool true) ∧ Below w.heap.size w w' := by
  go_enter Try.func8, Try.ntmps8
  go_wp2_with fail
  refine (alive_any _).mono ?_
  rintro e w1 ⟨rfl, hb1⟩
  go_wp2_with (first | (go_at_call 11; refine (size_not _ hs _).mono ?_; rintro e w' ⟨rfl, rfl⟩) | fail)
  go_ret
  exact ⟨rfl, hb1⟩

theorem puts_walk (o x s : Int) (ho : (Lit.int .u32 o).wf = true) (hx : (Lit.int .u32 x).wf = true) (_ : (Lit.int .i64 s).wf = true) (w : World) :
    Calls Try.prog 8 #[.int .u32 o, .int .u32 x, .int .i64 s] w fun e w' => e = .returned (.bool true) ∧ Below w.heap.size w w' := by
  by_cases hs : Sz s
  · exact puts_yes o x s hs (U_of ho) (U_of hx) w
  · exact puts_not o x s hs w
end Go.Proofs.Ytpimfoejlfmimaa.Cs
