/- Contracts of package psl. -/
import Derived.Test.YtlijffjfaggkoaaRows
import Derived.WalkKit
import Derived.WalkLawsBesides
import Derived.Outline
import Derived.Lib.Hide
import Derived.OpenShut
import Derived.Deep.QuietTactic
import Derived.BigQuiet
import Derived.RegionTactic
import Derived.ChangeAlike
import Derived.Test.YtlijffjfaggkoaaQNum
import Derived.Test.YtlijffjfaggkoaaLater
namespace Go.Proofs.Ytlijffjfaggkoaa.Cs
open Go.RowKit

theorem ret_int {k : IntKind} {a b : Int} (h : a = b) : Ending.returned (.int k a) = .returned (.int k b) := by rw [h]
theorem ret_bool {a b : Bool} (h : a = b) : Ending.returned (.bool a) = .returned (.bool b) := by rw [h]
theorem U_of {x : Int} (h : (Lit.int .u32 x).wf = true) : U x := by
  have := bounds_u32 h
  exact ⟨by omega, by omega⟩
theorem below2 {w w1 w2 : World} (h : Below w.heap.size w w1) (k : Below w1.heap.size w1 w2) : Below w.heap.size w w2 := h.trans (k.mono h.size)
theorem below3 {w w1 w2 : World} {o : Obj} (h : Below w.heap.size w w1) (k : Below (w1.alloc o).heap.size (w1.alloc o) w2) : Below w.heap.size w w2 := below2 (h.alloc h.size o) k

set_option maxHeartbeats 400000 in
theorem flags_any (x : Int) (hx : U x) (w : World) :
    Calls Try.prog 11 #[.int .u32 x] w fun e w' => e = .returned (.agg #[.bool (bi x 3), .bool (bi x 2), .bool (bi x 1), .bool (bi x 0)]) ∧ Below w.heap.size w w' := by
  have H0 := Lib.hid (and_bit hx 0 (by omega))
  have H1 := Lib.hid (and_bit hx 1 (by omega))
  have H2 := Lib.hid (and_bit hx 2 (by omega))
  have H3 := Lib.hid (and_bit hx 3 (by omega))
  go_enter Try.func11, Try.ntmps11
  go_wp2
  rw [← H0.out, ← H1.out, ← H2.out, ← H3.out]
  exact bodyPost_ret (v := .agg #[.bool (bits .and .u32 x (2 ^ 3) != 0), .bool (bits .and .u32 x (2 ^ 2) != 0), .bool (bits .and .u32 x (2 ^ 1) != 0), .bool (bits .and .u32 x (2 ^ 0) != 0)]) (by simp [results, Try.results11, go_sem]) rfl ⟨rfl, (Below.refl _ _).alloc (Nat.le_refl _) _⟩

set_option maxHeartbeats 400000 in
theorem ipl_any (x : Int) (hx : U x) (w : World) :
    Calls Try.prog 12 #[.int .u32 x] w fun e w' => e = .returned (.int .i64 (ip x)) ∧ w = w' := by
  have H := Lib.hid (and_ipls hx)
  have hb := ip_bound x
  go_enter Try.func12, Try.ntmps12
  go_wp2
  go_ret
  refine ⟨ret_int ?_, rfl⟩
  rw [H.out]
  unfold wrap64; omega

set_option maxHeartbeats 400000 in
theorem user_any (x : Int) (hx : U x) (w : World) :
    Calls Try.prog 13 #[.int .u32 x] w fun e w' => e = .returned (.bool (bi x 24)) ∧ w = w' := by
  have H := Lib.hid (and_bit hx 24 (by omega))
  go_enter Try.func13, Try.ntmps13
  go_wp2
  go_ret
  exact ⟨ret_bool H.out, rfl⟩

set_option maxHeartbeats 400000 in
theorem only_any (b : Bool) (n : Int) (w : World) :
    Calls Try.prog 29 #[.bool b, .int .u32 n] w fun e w' => e = .returned (.int .u32 (wo b n)) ∧ w = w' := by
  cases b
  all_goals
    go_enter Try.func29, Try.ntmps29
    go_wp2
    go_ret
    exact ⟨rfl, rfl⟩

set_option maxHeartbeats 400000 in
theorem codes_any (n z v c : Bool) (w : World) :
    Calls Try.prog 16 #[.agg #[.bool n, .bool z, .bool v, .bool c]] w fun e w' => e = .returned (.int .u32 (cd n z v c)) ∧ Below w.heap.size w w' := by
  have H := Lib.hid (or_codes n z v c)
  go_enter Try.func16, Try.ntmps16
  go_wp2
  generalize hW : w.alloc (.cells #[.bool n, .bool z, .bool v, .bool c] 25) = W
  have b1 : Below w.heap.size w W := by rw [← hW]; exact (Below.refl _ _).alloc (Nat.le_refl _) _
  have f0 : W.cell? ⟨w.heap.size, 0, none⟩ = some (.bool n) := by rw [← hW]; simp [go_sem]
  have f1 : W.cell? ⟨w.heap.size, 1, none⟩ = some (.bool z) := by rw [← hW]; simp [go_sem]
  have f2 : W.cell? ⟨w.heap.size, 2, none⟩ = some (.bool v) := by rw [← hW]; simp [go_sem]
  have f3 : W.cell? ⟨w.heap.size, 3, none⟩ = some (.bool c) := by rw [← hW]; simp [go_sem]
  clear hW
  replace f0 := later_cell f0
  replace f1 := later_cell f1
  replace f2 := later_cell f2
  replace f3 := later_cell f3
  refine wp_region_later (by kernel_rfl) (by kernel_rfl) ?_
  repeat (go_big_quiet_step (exact later_same (only_any _ _ _)))
  refine wpQuiet_nil ?_
  rintro _ ⟨⟨w4, hb4⟩, rfl⟩
  go_wp2
  go_ret
  exact ⟨ret_int H.out, below2 b1 hb4⟩

set_option maxHeartbeats 400000 in
theorem with_any (x : Int) (n z v c : Bool) (hx : U x) (w : World) :
    Calls Try.prog 18 #[.int .u32 x, .agg #[.bool n, .bool z, .bool v, .bool c]] w fun e w' => e = .returned (.int .u32 (wi x (cd n z v c))) ∧ Below w.heap.size w w' := by
  have H := Lib.hid (andNot_codes hx)
  have H2 := Lib.hid (or_with hx n z v c)
  go_enter Try.func18, Try.ntmps18
  go_wp2_with fail
  refine (codes_any _ _ _ _ _).mono ?_
  rintro e w1 ⟨rfl, hb1⟩
  go_wp2
  go_ret
  refine ⟨ret_int ?_, below2 ((Below.refl _ _).alloc (Nat.le_refl _) _) hb1⟩
  rw [H.out, H2.out]

set_option maxHeartbeats 400000 in
theorem at_any (x l : Int) (hx : U x) (w : World) :
    Calls Try.prog 20 #[.int .u32 x, .int .i64 l] w fun e w' => e = .returned (.int .u32 (la x l)) ∧ w = w' := by
  have H1 := Lib.hid (andNot_ipls hx)
  have H2 := Lib.hid (and_level l)
  have H3 := Lib.hid (or_level hx l)
  go_enter Try.func20, Try.ntmps20
  go_wp2
  go_ret
  refine ⟨ret_int ?_, rfl⟩
  rw [H1.out, H2.out, H3.out]

set_option maxHeartbeats 400000 in
theorem enter_any (x l : Int) (hx : U x) (w : World) :
    Calls Try.prog 22 #[.int .u32 x, .int .i64 l] w fun e w' => e = .returned (.int .u32 (en x l)) ∧ w = w' := by
  have H := Lib.hid (la_was (bi x 24) l)
  go_enter Try.func22, Try.ntmps22
  go_wp2_with (first
    | (go_at_call 13; refine (user_any _ hx _).mono ?_; rintro e w' ⟨rfl, rfl⟩)
    | (go_at_call 29; refine (only_any _ _ _).mono ?_; rintro e w' ⟨rfl, rfl⟩)
    | (go_at_call 20; refine (at_any _ _ (wo_U _) _).mono ?_; rintro e w' ⟨rfl, rfl⟩))
  go_ret
  exact ⟨ret_int H.out, rfl⟩
end Go.Proofs.Ytlijffjfaggkoaa.Cs
