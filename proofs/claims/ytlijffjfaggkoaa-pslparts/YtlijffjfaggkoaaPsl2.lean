/- Contracts of package psl: Good, Back, Branch; what each law asks first. -/
import Derived.Test.YtlijffjfaggkoaaPsl
namespace Go.Proofs.Ytlijffjfaggkoaa.Cs
open Go.RowKit

set_option maxHeartbeats 400000 in
theorem good_any (x : Int) (hx : U x) (w : World) :
    Calls Try.prog 14 #[.int .u32 x] w fun e w' => e = .returned (.bool (gd x)) ∧ w = w' := by
  have HR := and_rest hx
  have HW := and_bit hx 22 (by omega)
  have C := Lib.hid (user_any x hx)
  have I := Lib.hid (ipl_any x hx)
  have HG := Lib.hid (show gd x = (!rk x 32 && (!bi x 24 || (ip x == 0 && bi x 22))) from rfl)
  rw [show (2 : Int) ^ 22 = 4194304 from rfl] at HW
  generalize rk x 32 = r at *
  generalize bi x 24 = u at *
  generalize bi x 22 = s at *
  generalize ip x = p at *
  clear hx
  by_cases hp : p = 0
  · subst hp
    cases r <;> cases u <;> cases s
    all_goals
      go_enter Try.func14, Try.ntmps14
      go_wp2_with (first
        | (go_at_call 13; refine (C.out _).mono ?_; rintro e w' ⟨rfl, rfl⟩)
        | (go_at_call 12; refine (I.out _).mono ?_; rintro e w' ⟨rfl, rfl⟩))
      go_ret
      exact ⟨ret_bool (by rw [HG.out]; rfl), rfl⟩
  · have hq : (p == 0) = false := by simpa using hp
    have HQ := Lib.hid hq
    cases r <;> cases u <;> cases s
    all_goals
      go_enter Try.func14, Try.ntmps14
      go_wp2_with (first
        | (go_at_call 13; refine (C.out _).mono ?_; rintro e w' ⟨rfl, rfl⟩)
        | (go_at_call 12; refine (I.out _).mono ?_; rintro e w' ⟨rfl, rfl⟩))
      go_ret
      exact ⟨ret_bool (by rw [HG.out, HQ.out]; rfl), rfl⟩

set_option maxHeartbeats 400000 in
theorem back_any (f t : Int) (hf : U f) (ht : U t) (w : World) :
    Calls Try.prog 24 #[.int .u32 f, .int .u32 t] w fun e w' => e = .returned (.bool (bk f t)) ∧ w = w' := by
  have G := Lib.hid (good_any t ht)
  have C1 := Lib.hid (user_any t ht)
  have C2 := Lib.hid (user_any f hf)
  have I1 := Lib.hid (ipl_any t ht)
  have I2 := Lib.hid (ipl_any f hf)
  have HB := Lib.hid (bk_prog f t)
  generalize bk f t = b at *
  generalize gd t = g at *
  generalize bi t 24 = u at *
  generalize bi f 24 = v at *
  generalize ip t = p at *
  generalize ip f = q at *
  clear hf ht
  cases g <;> cases u <;> cases v
  all_goals
    go_enter Try.func24, Try.ntmps24
    go_wp2_with (first
      | (go_at_call 14; refine (G.out _).mono ?_; rintro e w' ⟨rfl, rfl⟩)
      | fail)
    try (refine (C1.out _).mono ?_
         rintro e w' ⟨rfl, rfl⟩
         go_wp2_with fail)
    try (refine (C2.out _).mono ?_
         rintro e w' ⟨rfl, rfl⟩
         go_wp2_with fail)
    try (refine (I1.out _).mono ?_
         rintro e w' ⟨rfl, rfl⟩
         go_wp2_with fail)
    try (refine (I2.out _).mono ?_
         rintro e w' ⟨rfl, rfl⟩
         go_wp2_with fail)
    go_ret
    exact ⟨ret_bool HB.out, rfl⟩
end Go.Proofs.Ytlijffjfaggkoaa.Cs
