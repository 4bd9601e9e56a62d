/- Contracts of package pte and of the document's own reckoning of entries. -/
import Derived.Test.YtifcaeifolcemaaRows
import Derived.WalkKit
import Derived.WalkLawsBesides
import Derived.Outline
import Derived.Lib.Hide
import Derived.OpenShut
import Derived.Test.YtifcaeifolcemaaPNum
namespace Go.Proofs.Ytifcaeifolcemaa.Cs
open Go.RowKit

theorem ret_int {k : IntKind} {a b : Int} (h : a = b) : Ending.returned (.int k a) = .returned (.int k b) := by rw [h]
theorem ret_bool {a b : Bool} (h : a = b) : Ending.returned (.bool a) = .returned (.bool b) := by rw [h]
theorem U_of {x : Int} (h : (Lit.int .u32 x).wf = true) : U x := by
  have := bounds_u32 h
  exact ⟨by omega, by omega⟩

set_option maxHeartbeats 400000 in
theorem frame_any (x : Int) (hx : U x) (w : World) :
    Calls Try.prog 11 #[.int .u32 x] w fun e w' => e = .returned (.int .u32 (x % 2097152)) ∧ w = w' := by
  have H := Lib.hid (and_frames hx)
  go_enter Try.func11, Try.ntmps11
  go_wp2
  go_ret
  exact ⟨ret_int H.out, rfl⟩

set_option maxHeartbeats 400000 in
theorem is_any (x : Int) (hx : U x) (w : World) :
    Calls Try.prog 12 #[.int .u32 x] w fun e w' => e = .returned (.bool (iv x)) ∧ w = w' := by
  have H := Lib.hid (and_valid hx)
  go_enter Try.func12, Try.ntmps12
  go_wp2
  go_ret
  exact ⟨ret_bool H.out, rfl⟩

set_option maxHeartbeats 400000 in
theorem written_any (x : Int) (hx : U x) (w : World) :
    Calls Try.prog 14 #[.int .u32 x] w fun e w' => e = .returned (.bool (im x)) ∧ w = w' := by
  have H := Lib.hid (and_modified hx)
  go_enter Try.func14, Try.ntmps14
  go_wp2
  go_ret
  exact ⟨ret_bool H.out, rfl⟩

set_option maxHeartbeats 400000 in
theorem prot_any (x : Int) (hx : U x) (w : World) :
    Calls Try.prog 9 #[.int .u32 x] w fun e w' => e = .returned (.int .i64 (pr x)) ∧ w = w' := by
  obtain ⟨h0, h1⟩ := hx
  have H := Lib.hid (and_three (x := x / 134217728) (by omega) (by omega))
  go_enter Try.func9, Try.ntmps9
  go_wp2
  go_ret
  refine ⟨ret_int ?_, rfl⟩
  rw [H.out]
  unfold wrap64 pr; omega

set_option maxHeartbeats 400000 in
theorem least_any (u r : Bool) (w : World) :
    Calls Try.prog 21 #[.bool u, .bool r] w fun e w' => e = .returned (.int .i64 (lst u r)) ∧ w = w' := by
  cases u <;> cases r
  all_goals
    go_enter Try.func21, Try.ntmps21
    go_wp2
    go_ret
    exact ⟨rfl, rfl⟩

set_option maxHeartbeats 400000 in
theorem may_any (x : Int) (u r : Bool) (hx : U x) (w : World) :
    Calls Try.prog 15 #[.int .u32 x, .bool u, .bool r] w fun e w' => e = .returned (.bool (my x u r)) ∧ w = w' := by
  go_enter Try.func15, Try.ntmps15
  go_wp2_with (first | (go_at_call 9; refine (prot_any _ hx _).mono ?_; rintro e w' ⟨rfl, rfl⟩) | (go_at_call 21; refine (least_any _ _ _).mono ?_; rintro e w' ⟨rfl, rfl⟩))
  go_ret
  exact ⟨rfl, rfl⟩

set_option maxHeartbeats 400000 in
theorem place_any (x va : Int) (hx : U x) (hv : U va) (w : World) :
    Calls Try.prog 17 #[.int .u32 x, .int .u32 va] w fun e w' => e = .returned (.int .u32 (pl x va)) ∧ w = w' := by
  obtain ⟨h0, h1⟩ := hv
  go_enter Try.func17, Try.ntmps17
  go_wp2_with (go_at_call 11; refine (frame_any _ hx _).mono ?_; rintro e w' ⟨rfl, rfl⟩)
  go_ret
  exact ⟨rfl, rfl⟩

set_option maxHeartbeats 400000 in
theorem rplace_any (x va : Int) (hx : U x) (hv : U va) (w : World) :
    Calls Try.prog 18 #[.int .u32 x, .int .u32 va] w fun e w' => e = .returned (.int .u32 (pl x va)) ∧ w = w' := by
  obtain ⟨h0, h1⟩ := hv
  obtain ⟨h2, h3⟩ := hx
  go_enter Try.func18, Try.ntmps18
  go_wp2
  go_ret
  exact ⟨rfl, rfl⟩

set_option maxHeartbeats 400000 in
theorem make_any (v : Bool) (p : Int) (m : Bool) (f : Int) (hf : U f) (w : World) :
    Calls Try.prog 19 #[.bool v, .int .i64 p, .bool m, .int .u32 f] w fun e w' => e = .returned (.int .u32 (mk v p m f)) ∧ w = w' := by
  have H1 := Lib.hid (show bits .and .i64 p 3 % 4294967296 * 134217728 % 4294967296 = p % 4 * 134217728 by rw [i64_and3]; omega)
  have H2 := Lib.hid (and_frames hf)
  have H3 := Lib.hid (make_one (p := p) hf)
  have H4 := Lib.hid (make_valid (p := p) (f := f))
  have H5 := Lib.hid (fun v => make_modified (v := v) (p := p) (f := f))
  cases v <;> cases m
  all_goals
    go_enter Try.func19, Try.ntmps19
    go_wp2
    go_ret
    refine ⟨ret_int ?_, rfl⟩
    rw [H1.out, H2.out, H3.out]
  · simp [mk, wo]
  · have := H5.out false
    simp only [wo, Bool.false_eq_true, if_false, Int.zero_add] at this
    rw [this]; simp [mk, wo]
  · rw [H4.out]; simp [mk, wo]
  · have := H5.out true
    simp only [wo, if_true] at this
    rw [H4.out, this]; simp [mk, wo]

set_option maxHeartbeats 400000 in
theorem rone_any (b : Bool) (n : Int) (w : World) :
    Calls Try.prog 22 #[.bool b, .int .u32 n] w fun e w' => e = .returned (.int .u32 (wo b n)) ∧ w = w' := by
  cases b
  all_goals
    go_enter Try.func22, Try.ntmps22
    go_wp2
    go_ret
    exact ⟨rfl, rfl⟩

set_option maxHeartbeats 400000 in
theorem rbit_any (x : Int) (n : Nat) (hx : U x) (hn : n ≤ 31) (w : World) :
    Calls Try.prog 13 #[.int .u32 x, .int .i64 n] w fun e w' => e = .returned (.bool (x / 2 ^ n % 2 == 1)) ∧ w = w' := by
  go_enter Try.func13, Try.ntmps13
  go_wp2
  go_loop [0, 5] (fun y i => ∃ k : Nat, k ≤ n ∧ i = .int .i64 k ∧ y = .int .u32 (x / 2 ^ k)) (fun _ i => n - (intOf i).toNat)
  case atStart => exact ⟨0, Nat.zero_le _, rfl, by simp⟩
  case round =>
    obtain ⟨k, hk, rfl, rfl⟩ := hrel
    have hb : U (x / 2 ^ k) := by
      have hp : (0 : Int) < 2 ^ k := Int.pow_pos (by omega)
      have h0 := hx.1
      have h1 := hx.2
      exact ⟨Int.ediv_nonneg h0 (by omega), Int.lt_of_le_of_lt (Int.ediv_le_self _ h0) h1⟩
    have h0 := hb.1
    have h1 := hb.2
    by_cases hlt : k < n
    · go_wp2
      go_round
      case rel =>
        refine ⟨k + 1, by omega, by go_num, ?_⟩
        have : x / 2 ^ (k + 1) = x / 2 ^ k / 2 := by
          rw [Int.pow_succ, Int.ediv_ediv_of_nonneg (Int.pow_nonneg (by omega))]
        rw [this]
      case measure => simp [intOf]; omega
    · have : k = n := by omega
      subst this
      go_wp2
      go_ret
      exact ⟨rfl, rfl⟩

theorem rbit31 (x : Int) (hx : U x) (w : World) :
    Calls Try.prog 13 #[.int .u32 x, .int .i64 31] w fun e w' => e = .returned (.bool (iv x)) ∧ w = w' := rbit_any x 31 hx (by omega) w
theorem rbit26 (x : Int) (hx : U x) (w : World) :
    Calls Try.prog 13 #[.int .u32 x, .int .i64 26] w fun e w' => e = .returned (.bool (im x)) ∧ w = w' := rbit_any x 26 hx (by omega) w
theorem rbit_as (x : Int) (n : Nat) (hx : U x) (hn : n ≤ 31) (b : Bool) (hb : (x / 2 ^ n % 2 == 1) = b) (w : World) :
    Calls Try.prog 13 #[.int .u32 x, .int .i64 n] w fun e w' => e = .returned (.bool b) ∧ w = w' := hb ▸ rbit_any x n hx hn w

set_option maxHeartbeats 400000 in
theorem rprot_any (x : Int) (hx : U x) (w : World) :
    Calls Try.prog 10 #[.int .u32 x] w fun e w' => e = .returned (.int .i64 (pr x)) ∧ w = w' := by
  have K : ∀ b c : Bool, (x / 134217728 % 2 == 1) = b → (x / 268435456 % 2 == 1) = c → Calls Try.prog 10 #[.int .u32 x] w fun e w' => e = .returned (.int .i64 (pr x)) ∧ w = w' := by
    intro b c hb hc
    have C1 := Lib.hid (rbit_as x 27 hx (by omega) b hb)
    have C2 := Lib.hid (rbit_as x 28 hx (by omega) c hc)
    have HP := Lib.hid (show pr x = (if b then 1 else 0) + (if c then 2 else 0) by
      have hb' := hb
      have hc' := hc
      unfold pr
      cases b <;> cases c <;> simp at hb' hc' ⊢ <;> omega)
    clear hb hc
    cases b <;> cases c
    all_goals
      go_enter Try.func10, Try.ntmps10
      go_wp2_with fail
      refine (C1.out _).mono ?_
      rintro e w' ⟨rfl, rfl⟩
      go_wp2_with fail
      refine (C2.out _).mono ?_
      rintro e w' ⟨rfl, rfl⟩
      go_wp2
      go_ret
      exact ⟨ret_int (by rw [HP.out]; rfl), rfl⟩
  exact K _ _ rfl rfl

set_option maxHeartbeats 400000 in
theorem rmay_any (x : Int) (u r : Bool) (hx : U x) (w : World) :
    Calls Try.prog 16 #[.int .u32 x, .bool u, .bool r] w fun e w' => e = .returned (.bool (my x u r)) ∧ w = w' := by
  have C := Lib.hid (rprot_any x hx)
  have HM := Lib.hid (show my x u r = decide (lst u r ≤ pr x) from rfl)
  have hp := pr_bound x
  clear hx
  generalize pr x = p at *
  have h4 : p = 0 ∨ p = 1 ∨ p = 2 ∨ p = 3 := by omega
  clear hp
  rcases h4 with rfl | rfl | rfl | rfl <;> cases u <;> cases r
  all_goals
    go_enter Try.func16, Try.ntmps16
    go_wp2_with fail
    refine (C.out _).mono ?_
    rintro e w' ⟨rfl, rfl⟩
    go_wp2
    go_ret
    exact ⟨ret_bool (by rw [HM.out]; rfl), rfl⟩

set_option maxHeartbeats 400000 in
theorem rmake_any (v : Bool) (p : Int) (m : Bool) (f : Int) (hf : U f) (w : World) :
    Calls Try.prog 20 #[.bool v, .int .i64 p, .bool m, .int .u32 f] w fun e w' => e = .returned (.int .u32 (mk v p m f)) ∧ w = w' := by
  obtain ⟨h0, h1⟩ := hf
  have hv := wo_or v 2147483648
  have hm := wo_or m 67108864
  have ht : -4 < p.tmod 4 ∧ p.tmod 4 < 4 := ⟨by have := Int.lt_tmod_of_pos p (b := 4) (by omega); omega, Int.tmod_lt_of_pos _ (by omega)⟩
  obtain ⟨h2, h3⟩ := ht
  have hq : (p.tmod 4 + 4) % 4 = p % 4 := by
    have := four_mod (p := p)
    rw [Int.tmod_eq_emod_of_nonneg (by omega)] at this
    exact this
  have hv0 : 0 ≤ wo v 2147483648 := by omega
  have hv1 : wo v 2147483648 ≤ 2147483648 := by omega
  have hm0 : 0 ≤ wo m 67108864 := by omega
  have hm1 : wo m 67108864 ≤ 67108864 := by omega
  clear hv hm
  go_enter Try.func20, Try.ntmps20
  go_wp2_with (go_at_call 22; refine (rone_any _ _ _).mono ?_; rintro e w' ⟨rfl, rfl⟩)
  go_ret
  exact ⟨rfl, rfl⟩

theorem a_make (w : World) :
    Calls Try.prog 19 #[.bool true, .int .i64 3, .bool false, .int .u32 3] w fun e w' => e = .returned (.int .u32 2550136835) ∧ w = w' :=
  make_any true 3 false 3 ⟨by omega, by omega⟩ w
theorem a_place (w : World) :
    Calls Try.prog 17 #[.int .u32 2550136835, .int .u32 511] w fun e w' => e = .returned (.int .u32 2047) ∧ w = w' :=
  place_any 2550136835 511 ⟨by omega, by omega⟩ ⟨by omega, by omega⟩ w

set_option maxHeartbeats 400000 in
theorem palive (w : World) :
    Calls Try.prog 8 #[] w fun e w' => e = .returned (.bool true) ∧ w = w' := by
  go_enter Try.func8, Try.ntmps8
  go_wp2_with (first | (go_at_call 19; refine (a_make _).mono ?_; rintro e w' ⟨rfl, rfl⟩) | (go_at_call 17; refine (a_place _).mono ?_; rintro e w' ⟨rfl, rfl⟩))
  go_ret
  exact ⟨rfl, rfl⟩
end Go.Proofs.Ytifcaeifolcemaa.Cs
