/- Contracts of package pte and of the document's own reckoning of entries. -/
import Derived.Test.YtfpdemlcmfaieaaRows
import Derived.WalkKit
import Derived.WalkLawsBesides
import Derived.Outline
import Derived.Lib.Hide
import Derived.OpenShut
import Derived.Test.YtfpdemlcmfaieaaPNum
namespace Go.Proofs.Ytfpdemlcmfaieaa.Pt
open Go.RowKit

theorem ret_int {k : IntKind} {a b : Int} (h : a = b) : Ending.returned (.int k a) = .returned (.int k b) := by rw [h]
theorem ret_bool {a b : Bool} (h : a = b) : Ending.returned (.bool a) = .returned (.bool b) := by rw [h]
theorem U_of {x : Int} (h : (Lit.int .u32 x).wf = true) : U x := by
  have := bounds_u32 h
  exact ⟨by omega, by omega⟩

set_option maxHeartbeats 400000 in
theorem frame_any (x : Int) (hx : U x) (w : World) :
    Calls Try.prog 80 #[.int .u32 x] w fun e w' => e = .returned (.int .u32 (x % 2097152)) ∧ w = w' := by
  have H := Lib.hid (and_frames hx)
  go_enter Try.func80, Try.ntmps80
  go_wp2
  go_ret
  exact ⟨ret_int H.out, rfl⟩

set_option maxHeartbeats 400000 in
theorem is_any (x : Int) (hx : U x) (w : World) :
    Calls Try.prog 79 #[.int .u32 x] w fun e w' => e = .returned (.bool (iv x)) ∧ w = w' := by
  have H := Lib.hid (and_valid hx)
  go_enter Try.func79, Try.ntmps79
  go_wp2
  go_ret
  exact ⟨ret_bool H.out, rfl⟩

set_option maxHeartbeats 400000 in
theorem written_any (x : Int) (hx : U x) (w : World) :
    Calls Try.prog 66 #[.int .u32 x] w fun e w' => e = .returned (.bool (im x)) ∧ w = w' := by
  have H := Lib.hid (and_modified hx)
  go_enter Try.func66, Try.ntmps66
  go_wp2
  go_ret
  exact ⟨ret_bool H.out, rfl⟩

set_option maxHeartbeats 400000 in
theorem prot_any (x : Int) (hx : U x) (w : World) :
    Calls Try.prog 81 #[.int .u32 x] w fun e w' => e = .returned (.int .i64 (pr x)) ∧ w = w' := by
  obtain ⟨h0, h1⟩ := hx
  have H := Lib.hid (and_three (x := x / 134217728) (by omega) (by omega))
  go_enter Try.func81, Try.ntmps81
  go_wp2
  go_ret
  refine ⟨ret_int ?_, rfl⟩
  rw [H.out]
  unfold wrap64 pr; omega

set_option maxHeartbeats 400000 in
theorem least_any (u r : Bool) (w : World) :
    Calls Try.prog 82 #[.bool u, .bool r] w fun e w' => e = .returned (.int .i64 (lst u r)) ∧ w = w' := by
  cases u <;> cases r
  all_goals
    go_enter Try.func82, Try.ntmps82
    go_wp2
    go_ret
    exact ⟨rfl, rfl⟩

set_option maxHeartbeats 400000 in
theorem may_any (x : Int) (u r : Bool) (hx : U x) (w : World) :
    Calls Try.prog 78 #[.int .u32 x, .bool u, .bool r] w fun e w' => e = .returned (.bool (my x u r)) ∧ w = w' := by
  go_enter Try.func78, Try.ntmps78
  go_wp2_with (first | (go_at_call 81; refine (prot_any _ hx _).mono ?_; rintro e w' ⟨rfl, rfl⟩) | (go_at_call 82; refine (least_any _ _ _).mono ?_; rintro e w' ⟨rfl, rfl⟩))
  go_ret
  exact ⟨rfl, rfl⟩

set_option maxHeartbeats 400000 in
theorem place_any (x va : Int) (hx : U x) (hv : U va) (w : World) :
    Calls Try.prog 74 #[.int .u32 x, .int .u32 va] w fun e w' => e = .returned (.int .u32 (pl x va)) ∧ w = w' := by
  obtain ⟨h0, h1⟩ := hv
  go_enter Try.func74, Try.ntmps74
  go_wp2_with (go_at_call 80; refine (frame_any _ hx _).mono ?_; rintro e w' ⟨rfl, rfl⟩)
  go_ret
  exact ⟨rfl, rfl⟩

set_option maxHeartbeats 400000 in
theorem rplace_any (x va : Int) (hx : U x) (hv : U va) (w : World) :
    Calls Try.prog 61 #[.int .u32 x, .int .u32 va] w fun e w' => e = .returned (.int .u32 (pl x va)) ∧ w = w' := by
  obtain ⟨h0, h1⟩ := hv
  obtain ⟨h2, h3⟩ := hx
  go_enter Try.func61, Try.ntmps61
  go_wp2
  go_ret
  exact ⟨rfl, rfl⟩

set_option maxHeartbeats 400000 in
theorem rbit_any (x : Int) (n : Nat) (hx : U x) (hn : n ≤ 31) (w : World) :
    Calls Try.prog 54 #[.int .u32 x, .int .i64 n] w fun e w' => e = .returned (.bool (x / 2 ^ n % 2 == 1)) ∧ w = w' := by
  go_enter Try.func54, Try.ntmps54
  go_wp2
  go_loop [0, 5] (fun y i => ∃ k : Nat, k ≤ n ∧ i = .int .i64 k ∧ y = .int .u32 (x / 2 ^ k)) (fun _ i => n - (intOf i).toNat)
  case atStart => exact ⟨0, Nat.zero_le _, rfl, by simp⟩
  case round =>
    obtain ⟨k, hk, rfl, rfl⟩ := hrel
    have hb : U (x / 2 ^ k) := by
      have hp : (0 : Int) < 2 ^ k := Int.pow_pos (by omega)
      have h0 := hx.1
      have h1 := hx.2
      exact ⟨Int.ediv_nonneg h0 (by omega), Int.lt_of_le_of_lt (Int.ediv_le_self _ h0) h1⟩
    have h0 := hb.1
    have h1 := hb.2
    by_cases hlt : k < n
    · go_wp2
      go_round
      case rel =>
        refine ⟨k + 1, by omega, by go_num, ?_⟩
        have : x / 2 ^ (k + 1) = x / 2 ^ k / 2 := by
          rw [Int.pow_succ, Int.ediv_ediv_of_nonneg (Int.pow_nonneg (by omega))]
        rw [this]
      case measure => simp [intOf]; omega
    · have : k = n := by omega
      subst this
      go_wp2
      go_ret
      exact ⟨rfl, rfl⟩

theorem rbit31 (x : Int) (hx : U x) (w : World) :
    Calls Try.prog 54 #[.int .u32 x, .int .i64 31] w fun e w' => e = .returned (.bool (iv x)) ∧ w = w' := rbit_any x 31 hx (by omega) w
theorem rbit26 (x : Int) (hx : U x) (w : World) :
    Calls Try.prog 54 #[.int .u32 x, .int .i64 26] w fun e w' => e = .returned (.bool (im x)) ∧ w = w' := rbit_any x 26 hx (by omega) w
theorem rbit_as (x : Int) (n : Nat) (hx : U x) (hn : n ≤ 31) (b : Bool) (hb : (x / 2 ^ n % 2 == 1) = b) (w : World) :
    Calls Try.prog 54 #[.int .u32 x, .int .i64 n] w fun e w' => e = .returned (.bool b) ∧ w = w' := hb ▸ rbit_any x n hx hn w

set_option maxHeartbeats 400000 in
theorem rprot_any (x : Int) (hx : U x) (w : World) :
    Calls Try.prog 70 #[.int .u32 x] w fun e w' => e = .returned (.int .i64 (pr x)) ∧ w = w' := by
  have K : ∀ b c : Bool, (x / 134217728 % 2 == 1) = b → (x / 268435456 % 2 == 1) = c → Calls Try.prog 70 #[.int .u32 x] w fun e w' => e = .returned (.int .i64 (pr x)) ∧ w = w' := by
    intro b c hb hc
    have C1 := Lib.hid (rbit_as x 27 hx (by omega) b hb)
    have C2 := Lib.hid (rbit_as x 28 hx (by omega) c hc)
    have HP := Lib.hid (show pr x = (if b then 1 else 0) + (if c then 2 else 0) by
      have hb' := hb
      have hc' := hc
      unfold pr
      cases b <;> cases c <;> simp at hb' hc' ⊢ <;> omega)
    clear hb hc
    cases b <;> cases c
    all_goals
      go_enter Try.func70, Try.ntmps70
      go_wp2_with fail
      refine (C1.out _).mono ?_
      rintro e w' ⟨rfl, rfl⟩
      go_wp2_with fail
      refine (C2.out _).mono ?_
      rintro e w' ⟨rfl, rfl⟩
      go_wp2
      go_ret
      exact ⟨ret_int (by rw [HP.out]; rfl), rfl⟩
  exact K _ _ rfl rfl

set_option maxHeartbeats 400000 in
theorem rmay_any (x : Int) (u r : Bool) (hx : U x) (w : World) :
    Calls Try.prog 59 #[.int .u32 x, .bool u, .bool r] w fun e w' => e = .returned (.bool (my x u r)) ∧ w = w' := by
  have C := Lib.hid (rprot_any x hx)
  have HM := Lib.hid (show my x u r = decide (lst u r ≤ pr x) from rfl)
  have hp := pr_bound x
  clear hx
  generalize pr x = p at *
  have h4 : p = 0 ∨ p = 1 ∨ p = 2 ∨ p = 3 := by omega
  clear hp
  rcases h4 with rfl | rfl | rfl | rfl <;> cases u <;> cases r
  all_goals
    go_enter Try.func59, Try.ntmps59
    go_wp2_with fail
    refine (C.out _).mono ?_
    rintro e w' ⟨rfl, rfl⟩
    go_wp2
    go_ret
    exact ⟨ret_bool (by rw [HM.out]; rfl), rfl⟩

end Go.Proofs.Ytfpdemlcmfaieaa.Pt
