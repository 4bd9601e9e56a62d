/- The walk of PslParts. -/
import Derived.Test.YtlijffjfaggkoaaQWBack
import Derived.Test.YtlijffjfaggkoaaQNum2
import Derived.Test.YtlijffjfaggkoaaQFlg
import Derived.Deep.RegionWith
namespace Go.Proofs.Ytlijffjfaggkoaa.Cs
open Go.RowKit

theorem flags_as (x : Int) (n z v c : Bool) (hx : U x) (h : bi x 3 = n ∧ bi x 2 = z ∧ bi x 1 = v ∧ bi x 0 = c) (w : World) :
    Calls Try.prog 11 #[.int .u32 x] w fun e w' => e = .returned (.agg #[.bool n, .bool z, .bool v, .bool c]) ∧ Below w.heap.size w w' := by
  obtain ⟨rfl, rfl, rfl, rfl⟩ := h
  exact flags_any x hx w
theorem ipl_as (x l : Int) (hx : U x) (h : ip x = l) (w : World) :
    Calls Try.prog 12 #[.int .u32 x] w fun e w' => e = .returned (.int .i64 l) ∧ w = w' := h ▸ ipl_any x hx w
theorem with_as (x q : Int) (n z v c : Bool) (hx : U x) (h : wi x (cd n z v c) = q) (w : World) :
    Calls Try.prog 18 #[.int .u32 x, .agg #[.bool n, .bool z, .bool v, .bool c]] w fun e w' => e = .returned (.int .u32 q) ∧ Below w.heap.size w w' := h ▸ with_any x n z v c hx w
theorem at_as (x l q : Int) (hx : U x) (h : la x l = q) (w : World) :
    Calls Try.prog 20 #[.int .u32 x, .int .i64 l] w fun e w' => e = .returned (.int .u32 q) ∧ w = w' := h ▸ at_any x l hx w
theorem back_as (f t : Int) (b : Bool) (hf : U f) (ht : U t) (h : bk f t = b) (w : World) :
    Calls Try.prog 24 #[.int .u32 f, .int .u32 t] w fun e w' => e = .returned (.bool b) ∧ w = w' := h ▸ back_any f t hf ht w
theorem enter_as (x l q : Int) (hx : U x) (h : en x l = q) (w : World) :
    Calls Try.prog 22 #[.int .u32 x, .int .i64 l] w fun e w' => e = .returned (.int .u32 q) ∧ w = w' := h ▸ enter_any x l hx w

set_option maxHeartbeats 2000000 in
theorem qparts_yes (x l : Int) (n z v c : Bool) (hx : U x) (h0 : 0 ≤ l) (h1 : l ≤ 31) (w : World) :
    Calls Try.prog 7 #[.int .u32 x, .agg #[.bool n, .bool z, .bool v, .bool c], .int .i64 l] w fun e w' => e = .returned (.bool true) ∧ Below w.heap.size w w' := by
  obtain ⟨hy1, hy2, hy3, hy4⟩ := parts_eq (x := x) ⟨h0, h1⟩ n z v c
  have hyU := la_U (wi_U hx n z v c) l
  have hdU := la_U hx l
  have heU := en_U x l
  obtain ⟨e1, _, _, e2, _⟩ := en_parts x l
  rw [show l % 32 = l by omega] at e2
  have K1 := Lib.hid (with_any x n z v c hx)
  have K2 := Lib.hid (at_any (wi x (cd n z v c)) l (wi_U hx n z v c))
  have K3 := Lib.hid (flags_as _ n z v c hyU hy1)
  have K4 := Lib.hid (ipl_as _ l hyU hy2)
  have K5 := Lib.hid (at_any x l hx)
  have K6 := Lib.hid (with_as _ _ n z v c hdU hy3)
  have K7 := Lib.hid (flags_any x hx)
  have K8 := Lib.hid (with_as _ _ _ _ _ _ hyU hy4)
  have K9 := Lib.hid (enter_any x l hx)
  have J1 := Lib.hid (user_as _ _ heU e1)
  have J2 := Lib.hid (ipl_as _ _ heU e2)
  have J3 := Lib.hid (user_any x hx)
  have J4 := Lib.hid (good_any x hx)
  have J5 := Lib.hid (ipl_any x hx)
  have J6 := Lib.hid (fun hu => back_as (en x l) x _ heU hx (bk_enter ⟨h0, h1⟩ hu))
  clear hy1 hy2 hy3 hy4 hyU hdU heU e1 e2 hx
  generalize la (wi x (cd n z v c)) l = Y at *
  generalize wi x (cd n z v c) = B at *
  generalize la x l = D at *
  generalize en x l = E at *
  generalize bi x 3 = x3 at *
  generalize bi x 2 = x2 at *
  generalize bi x 1 = x1 at *
  generalize bi x 0 = x0 at *
  generalize ip x = p at *
  generalize gd x = g at *
  generalize bi x 24 = u at *
  go_enter Try.func7, Try.ntmps7
  go_wp2_with (first | (go_at_call 9; refine (alive_any _).mono ?_; rintro e w' ⟨rfl, rfl⟩) | fail)
  refine (K1.out _).mono ?_
  rintro e w1 ⟨rfl, hb1⟩
  go_wp2_with fail
  refine (K2.out _).mono ?_
  rintro e w' ⟨rfl, rfl⟩
  have c1 := fun o => hb1.cell (p := ⟨w.heap.size, o, none⟩) (by simp)
  have f0 : w1.cell? ⟨w.heap.size, 0, none⟩ = some (.bool n) := by rw [c1]; simp [go_sem]
  have f1 : w1.cell? ⟨w.heap.size, 1, none⟩ = some (.bool z) := by rw [c1]; simp [go_sem]
  have f2 : w1.cell? ⟨w.heap.size, 2, none⟩ = some (.bool v) := by rw [c1]; simp [go_sem]
  have f3 : w1.cell? ⟨w.heap.size, 3, none⟩ = some (.bool c) := by rw [c1]; simp [go_sem]
  have HB := Lib.hid (below2 ((Below.refl w.heap.size w).alloc (Nat.le_refl _) _) hb1)
  clear hb1 c1 K1 K2
  go_wp2_with fail
  replace f0 := later_cell f0
  replace f1 := later_cell f1
  replace f2 := later_cell f2
  replace f3 := later_cell f3
  refine wp_region_later (by kernel_rfl) (by kernel_rfl) ?_
  repeat (go_big_quiet_step (first
    | (go_at_call_of 11 (Value.int .u32 Y); exact later_of (K3.out _))
    | (go_at_call 11; exact later_of (K7.out _))
    | (go_at_call 12; exact later_same (K4.out _))
    | (go_at_call 20; exact later_same (K5.out _))
    | (go_at_call_of 18 (Value.int .u32 D); exact later_of (K6.out _))
    | (go_at_call 18; exact later_of (K8.out _))))
  refine wpQuiet_nil ?_
  rintro _ ⟨⟨w4, hb4⟩, rfl⟩
  have HB4 := Lib.hid (below2 HB.out hb4)
  clear hb4 HB f0 f1 f2 f3 K3 K4 K5 K6 K7 K8
  cases u
  · cases g
    all_goals
      go_wp2_with fail
      refine (K9.out _).mono ?_
      rintro e w' ⟨rfl, rfl⟩
      go_wp2_with fail
      refine (J1.out _).mono ?_
      rintro e w' ⟨rfl, rfl⟩
      go_wp2_with fail
      refine (J2.out _).mono ?_
      rintro e w' ⟨rfl, rfl⟩
      go_wp2_with fail
      refine (J3.out _).mono ?_
      rintro e w' ⟨rfl, rfl⟩
      go_wp2_with fail
      refine (J4.out _).mono ?_
      rintro e w' ⟨rfl, rfl⟩
      go_wp2_with fail
      try (refine (J5.out _).mono ?_
           rintro e w' ⟨rfl, rfl⟩
           go_wp2_with fail)
      refine (J6.out (by trivial) _).mono ?_
      rintro e w' ⟨rfl, rfl⟩
      go_wp2_with fail
      go_ret
      exact ⟨by simp, HB4.out⟩
  · go_wp2_with fail
    refine (K9.out _).mono ?_
    rintro e w' ⟨rfl, rfl⟩
    go_wp2_with fail
    refine (J1.out _).mono ?_
    rintro e w' ⟨rfl, rfl⟩
    go_wp2_with fail
    refine (J2.out _).mono ?_
    rintro e w' ⟨rfl, rfl⟩
    go_wp2_with fail
    refine (J3.out _).mono ?_
    rintro e w' ⟨rfl, rfl⟩
    go_wp2_with fail
    go_ret
    exact ⟨rfl, HB4.out⟩

set_option maxHeartbeats 400000 in
theorem qparts_not (x l : Int) (n z v c : Bool) (h : l < 0 ∨ 31 < l) (w : World) :
    Calls Try.prog 7 #[.int .u32 x, .agg #[.bool n, .bool z, .bool v, .bool c], .int .i64 l] w fun e w' => e = .returned (.bool true) ∧ Below w.heap.size w w' := by
  rcases h with h | h
  · go_enter Try.func7, Try.ntmps7
    go_wp2_with (first | (go_at_call 9; refine (alive_any _).mono ?_; rintro e w' ⟨rfl, rfl⟩) | fail)
    go_ret
    exact ⟨rfl, (Below.refl _ _).alloc (Nat.le_refl _) _⟩
  · have h' : ¬ l < 0 := by omega
    go_enter Try.func7, Try.ntmps7
    go_wp2_with (first | (go_at_call 9; refine (alive_any _).mono ?_; rintro e w' ⟨rfl, rfl⟩) | fail)
    go_ret
    exact ⟨rfl, (Below.refl _ _).alloc (Nat.le_refl _) _⟩

theorem qparts_walk (x : Int) (f : Fl) (l : Int) (w : World) (hx : (Lit.int .u32 x).wf = true) (_ : f.Ok) (_ : (Lit.int .i64 l).wf = true) :
    Calls Try.prog 7 #[.int .u32 x, .agg #[.bool f.n, .bool f.z, .bool f.v, .bool f.c], .int .i64 l] w fun e w' => e = .returned (.bool true) ∧ Below w.heap.size w w' := by
  by_cases h : l < 0 ∨ 31 < l
  · exact qparts_not x l _ _ _ _ h w
  · exact qparts_yes x l _ _ _ _ (U_of hx) (by omega) (by omega) w
end Go.Proofs.Ytlijffjfaggkoaa.Cs
