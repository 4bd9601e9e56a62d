/- Contracts of the leaves of package bits and of the document's own reckoning, at the three sizes. -/
import Derived.Test.YtpimfoejlfmimaaRows
import Derived.WalkKit
import Derived.WalkLawsBesides
import Derived.Outline
import Derived.Lib.Hide
import Derived.Test.YtpimfoejlfmimaaNum2
namespace Go.Proofs.Ytpimfoejlfmimaa.Cs
open Go.RowKit

theorem ret_int {k : IntKind} {a b : Int} (h : a = b) : Ending.returned (.int k a) = .returned (.int k b) := by rw [h]
theorem ret_bool {a b : Bool} (h : a = b) : Ending.returned (.bool a) = .returned (.bool b) := by rw [h]

theorem w64 {n : Int} (h0 : -9223372036854775808 ≤ n) (h1 : n < 9223372036854775808) : wrap64 n = n := by unfold wrap64; omega
theorem w32_ex {s : Int} (hs : Sz s) (x : Int) : wrap32 (ex x s) = sg x s := by
  have := sg_32 hs x
  unfold wrap32 ex; omega
theorem w64_sg {s : Int} (hs : Sz s) (x : Int) : wrap64 (sg x s) = sg x s := by
  have := sg_32 hs x
  exact w64 (by omega) (by omega)
theorem w64_rest {s : Int} (hs : Sz s) (x : Int) : wrap64 (x % W s) = x % W s := by
  have := rest_bound hs x
  exact w64 (by omega) (by omega)

set_option maxHeartbeats 400000 in
theorem size_any (s : Int) (hs : Sz s) (w : World) :
    Calls Try.prog 11 #[.int .i64 s] w fun e w' => e = .returned (.bool true) ∧ w = w' := by
  rcases hs with rfl | rfl | rfl
  all_goals
    go_enter Try.func11, Try.ntmps11
    go_wp2
    go_ret
    exact ⟨rfl, rfl⟩

set_option maxHeartbeats 400000 in
theorem size_not (s : Int) (hs : ¬ Sz s) (w : World) :
    Calls Try.prog 11 #[.int .i64 s] w fun e w' => e = .returned (.bool false) ∧ w = w' := by
  have h1 : (s == 1) = false := by simp; intro h; exact hs (.inl h)
  have h2 : (s == 2) = false := by simp; intro h; exact hs (.inr (.inl h))
  have h4 : (s == 4) = false := by simp; intro h; exact hs (.inr (.inr h))
  clear hs
  go_enter Try.func11, Try.ntmps11
  go_wp2
  go_ret
  exact ⟨rfl, rfl⟩

set_option maxHeartbeats 400000 in
theorem mask_any (s : Int) (hs : Sz s) (w : World) :
    Calls Try.prog 13 #[.int .i64 s] w fun e w' => e = .returned (.int .u32 (W s - 1)) ∧ w = w' := by
  rcases hs with rfl | rfl | rfl
  all_goals
    go_enter Try.func13, Try.ntmps13
    go_wp2
    go_ret
    exact ⟨rfl, rfl⟩

set_option maxHeartbeats 400000 in
theorem top_any (s : Int) (hs : Sz s) (w : World) :
    Calls Try.prog 14 #[.int .i64 s] w fun e w' => e = .returned (.int .u32 (W s / 2)) ∧ w = w' := by
  rcases hs with rfl | rfl | rfl
  all_goals
    go_enter Try.func14, Try.ntmps14
    go_wp2
    go_ret
    exact ⟨rfl, rfl⟩

set_option maxHeartbeats 400000 in
theorem wide_any (s : Int) (hs : Sz s) (w : World) :
    Calls Try.prog 12 #[.int .i64 s] w fun e w' => e = .returned (.int .i64 (W s)) ∧ w = w' := by
  rcases hs with rfl | rfl | rfl
  all_goals
    go_enter Try.func12, Try.ntmps12
    go_wp2
    go_ret
    exact ⟨rfl, rfl⟩

set_option maxHeartbeats 400000 in
theorem neg_any (x s : Int) (hs : Sz s) (hx : U x) (w : World) :
    Calls Try.prog 15 #[.int .u32 x, .int .i64 s] w fun e w' => e = .returned (.bool (ng x s)) ∧ w = w' := by
  go_enter Try.func15, Try.ntmps15
  go_wp2_with (go_at_call 14; refine (top_any _ hs _).mono ?_; rintro e w' ⟨rfl, rfl⟩)
  go_ret
  exact ⟨ret_bool (top_ng hs hx), rfl⟩

set_option maxHeartbeats 400000 in
theorem extend_any (x s : Int) (hs : Sz s) (hx : U x) (w : World) :
    Calls Try.prog 17 #[.int .u32 x, .int .i64 s] w fun e w' => e = .returned (.int .u32 (ex x s)) ∧ w = w' := by
  by_cases hn : ng x s = true
  · have HE := Lib.hid (ex_pos hs hn)
    have HO := Lib.hid (or_high hs hx)
    go_enter Try.func17, Try.ntmps17
    go_wp2_with (first | (go_at_call 15; refine (neg_any _ _ hs hx _).mono ?_; rintro e w' ⟨rfl, rfl⟩) | (go_at_call 13; refine (mask_any _ hs _).mono ?_; rintro e w' ⟨rfl, rfl⟩))
    go_ret
    exact ⟨ret_int (by rw [HE.out]; exact HO.out), rfl⟩
  · have hn : ng x s = false := by simpa using hn
    have HE := Lib.hid (ex_neg hs hn)
    have HO := Lib.hid (and_mask hs hx)
    go_enter Try.func17, Try.ntmps17
    go_wp2_with (first | (go_at_call 15; refine (neg_any _ _ hs hx _).mono ?_; rintro e w' ⟨rfl, rfl⟩) | (go_at_call 13; refine (mask_any _ hs _).mono ?_; rintro e w' ⟨rfl, rfl⟩))
    go_ret
    exact ⟨ret_int (by rw [HE.out]; exact HO.out), rfl⟩

set_option maxHeartbeats 400000 in
theorem signed_any (x s : Int) (hs : Sz s) (hx : U x) (w : World) :
    Calls Try.prog 36 #[.int .u32 x, .int .i64 s] w fun e w' => e = .returned (.int .i64 (sg x s)) ∧ w = w' := by
  go_enter Try.func36, Try.ntmps36
  go_wp2_with (go_at_call 17; refine (extend_any _ _ hs hx _).mono ?_; rintro e w' ⟨rfl, rfl⟩)
  go_ret
  exact ⟨ret_int (by rw [w32_ex hs, w64_sg hs]), rfl⟩

set_option maxHeartbeats 400000 in
theorem plain_any (x s : Int) (hs : Sz s) (hx : U x) (w : World) :
    Calls Try.prog 38 #[.int .u32 x, .int .i64 s] w fun e w' => e = .returned (.int .i64 (x % W s)) ∧ w = w' := by
  go_enter Try.func38, Try.ntmps38
  go_wp2_with (go_at_call 13; refine (mask_any _ hs _).mono ?_; rintro e w' ⟨rfl, rfl⟩)
  go_ret
  exact ⟨ret_int (by rw [and_mask hs hx, w64_rest hs]), rfl⟩

set_option maxHeartbeats 400000 in
theorem one_any (b : Bool) (w : World) :
    Calls Try.prog 37 #[.bool b] w fun e w' => e = .returned (.int .i64 (bt b)) ∧ w = w' := by
  cases b
  all_goals
    go_enter Try.func37, Try.ntmps37
    go_wp2
    go_ret
    exact ⟨rfl, rfl⟩

set_option maxHeartbeats 400000 in
theorem rone_any (b : Bool) (w : World) :
    Calls Try.prog 39 #[.bool b] w fun e w' => e = .returned (.int .i64 (bt b)) ∧ w = w' := by
  cases b
  all_goals
    go_enter Try.func39, Try.ntmps39
    go_wp2
    go_ret
    exact ⟨rfl, rfl⟩


/-! the document's own -/
set_option maxHeartbeats 400000 in
theorem rest_any (x s : Int) (hs : Sz s) (hx : U x) (w : World) :
    Calls Try.prog 34 #[.int .u32 x, .int .i64 s] w fun e w' => e = .returned (.int .i64 (x % W s)) ∧ w = w' := by
  have hx' := hx
  obtain ⟨h0, h1⟩ := hx'
  have hW : 0 < W s := by rcases W_cases hs with h | h | h <;> omega
  have hW2 : W s ≤ 4294967296 := by rcases W_cases hs with h | h | h <;> omega
  go_enter Try.func34, Try.ntmps34
  go_wp2_with (go_at_call 12; refine (wide_any _ hs _).mono ?_; rintro e w' ⟨rfl, rfl⟩)
  go_ret
  exact ⟨rfl, rfl⟩

set_option maxHeartbeats 400000 in
theorem rsigned_any (x s : Int) (hs : Sz s) (hx : U x) (w : World) :
    Calls Try.prog 16 #[.int .u32 x, .int .i64 s] w fun e w' => e = .returned (.int .i64 (sg x s)) ∧ w = w' := by
  have hb := rest_bound hs x
  have hW : 256 ≤ W s := by rcases W_cases hs with h | h | h <;> omega
  by_cases hn : W s / 2 ≤ x % W s
  · have HE := Lib.hid (show sg x s = x % W s - W s by unfold sg; rw [if_pos hn])
    go_enter Try.func16, Try.ntmps16
    go_wp2_with (first | (go_at_call 34; refine (rest_any _ _ hs hx _).mono ?_; rintro e w' ⟨rfl, rfl⟩) | (go_at_call 12; refine (wide_any _ hs _).mono ?_; rintro e w' ⟨rfl, rfl⟩))
    go_ret
    exact ⟨ret_int HE.out.symm, rfl⟩
  · have HE := Lib.hid (show sg x s = x % W s by unfold sg; rw [if_neg hn])
    go_enter Try.func16, Try.ntmps16
    go_wp2_with (first | (go_at_call 34; refine (rest_any _ _ hs hx _).mono ?_; rintro e w' ⟨rfl, rfl⟩) | (go_at_call 12; refine (wide_any _ hs _).mono ?_; rintro e w' ⟨rfl, rfl⟩))
    go_ret
    exact ⟨ret_int HE.out.symm, rfl⟩

set_option maxHeartbeats 400000 in
theorem signs_any (x s : Int) (hs : Sz s) (hx : U x) (w : World) :
    Calls Try.prog 19 #[.int .u32 x, .int .i64 s] w fun e w' => e = .returned (.agg #[.bool (ng x s), .bool (zr x s), .bool false, .bool false]) ∧ Below w.heap.size w w' := by
  have HM := Lib.hid (show (bits .and .u32 x (W s - 1) == 0) = zr x s by rw [and_mask hs hx]; rfl)
  go_enter Try.func19, Try.ntmps19
  go_wp2_with (first | (go_at_call 15; refine (neg_any _ _ hs hx _).mono ?_; rintro e w' ⟨rfl, rfl⟩) | (go_at_call 13; refine (mask_any _ hs _).mono ?_; rintro e w' ⟨rfl, rfl⟩))
  rw [HM.out]
  exact bodyPost_ret (v := .agg #[.bool (ng x s), .bool (zr x s), .bool false, .bool false]) (by simp [results, Try.results19, go_sem]) rfl ⟨rfl, (Below.refl _ _).alloc (Nat.le_refl _) _⟩

set_option maxHeartbeats 400000 in
theorem rsigns_any (x s : Int) (hs : Sz s) (hx : U x) (w : World) :
    Calls Try.prog 20 #[.int .u32 x, .int .i64 s] w fun e w' => e = .returned (.agg #[.bool (ng x s), .bool (zr x s), .bool false, .bool false]) ∧ Below w.heap.size w w' := by
  have HM := Lib.hid (ng_sg hs x)
  have HZ := Lib.hid (show (x % W s == 0) = zr x s from rfl)
  go_enter Try.func20, Try.ntmps20
  go_wp2_with (first | (go_at_call 16; refine (rsigned_any _ _ hs hx _).mono ?_; rintro e w' ⟨rfl, rfl⟩) | (go_at_call 34; refine (rest_any _ _ hs hx _).mono ?_; rintro e w' ⟨rfl, rfl⟩))
  rw [HZ.out, ← HM.out]
  exact bodyPost_ret (v := .agg #[.bool (ng x s), .bool (zr x s), .bool false, .bool false]) (by simp [results, Try.results20, go_sem]) rfl ⟨rfl, (Below.refl _ _).alloc (Nat.le_refl _) _⟩

set_option maxHeartbeats 400000 in
theorem put_any (o x s : Int) (hs : Sz s) (ho : U o) (hx : U x) (w : World) :
    Calls Try.prog 21 #[.int .u32 o, .int .u32 x, .int .i64 s] w fun e w' => e = .returned (.int .u32 (o - o % W s + x % W s)) ∧ w = w' := by
  have H1 := Lib.hid (and_mask hs hx)
  have H2 := Lib.hid (andNot_mask hs ho)
  have H3 := Lib.hid (or_put (y := x) hs ho)
  go_enter Try.func21, Try.ntmps21
  go_wp2_with (go_at_call 13; refine (mask_any _ hs _).mono ?_; rintro e w' ⟨rfl, rfl⟩)
  go_ret
  exact ⟨ret_int (by rw [H1.out, H2.out, H3.out]), rfl⟩

set_option maxHeartbeats 400000 in
theorem rput_any (o x s : Int) (hs : Sz s) (ho : U o) (hx : U x) (w : World) :
    Calls Try.prog 22 #[.int .u32 o, .int .u32 x, .int .i64 s] w fun e w' => e = .returned (.int .u32 (o - o % W s + x % W s)) ∧ w = w' := by
  have hb := rest_bound hs x
  have hb2 := rest_bound hs o
  have hb3 : 0 ≤ o - o % W s := by have := ho.1; rcases W_cases hs with h | h | h <;> rw [h] <;> omega
  have hb4 : o - o % W s + x % W s < 4294967296 := by have := ho.2; rcases W_cases hs with h | h | h <;> rw [h] <;> omega
  have h0 := ho.1
  have h1 := ho.2
  go_enter Try.func22, Try.ntmps22
  go_wp2_with (go_at_call 34; refine (rest_any _ _ hs (by assumption) _).mono ?_; rintro e w' ⟨rfl, rfl⟩)
  go_ret
  exact ⟨rfl, rfl⟩

theorem tmod_neg {n m : Int} (h : n < 0) (hm : 0 < m) : n.tmod m = if n % m = 0 then 0 else n % m - m := by
  rw [Int.tmod_eq_emod]
  have : ¬ 0 ≤ n := by omega
  split <;> split <;> rename_i a b
  all_goals (have := Int.natAbs_of_nonneg (Int.le_of_lt hm); have hd := @Int.dvd_iff_emod_eq_zero m n; grind)

set_option maxHeartbeats 400000 in
theorem rbits_any (n s : Int) (hs : Sz s) (h0 : -9000000000000000000 ≤ n) (h1 : n < 9000000000000000000) (w : World) :
    Calls Try.prog 18 #[.int .i64 n, .int .i64 s] w fun e w' => e = .returned (.int .u32 (n % W s)) ∧ w = w' := by
  have hb := rest_bound hs n
  have hW : 256 ≤ W s := by rcases W_cases hs with h | h | h <;> omega
  by_cases hn : 0 ≤ n
  · go_enter Try.func18, Try.ntmps18
    go_wp2_with (go_at_call 12; refine (wide_any _ hs _).mono ?_; rintro e w' ⟨rfl, rfl⟩)
    go_ret
    exact ⟨rfl, rfl⟩
  · have ht := tmod_neg (m := W s) (by omega : n < 0) (by omega)
    by_cases hz : n % W s = 0
    · rw [if_pos hz] at ht
      go_enter Try.func18, Try.ntmps18
      go_wp2_with (go_at_call 12; refine (wide_any _ hs _).mono ?_; rintro e w' ⟨rfl, rfl⟩)
      go_ret
      exact ⟨ret_int hz.symm, rfl⟩
    · rw [if_neg hz] at ht
      go_enter Try.func18, Try.ntmps18
      go_wp2_with (go_at_call 12; refine (wide_any _ hs _).mono ?_; rintro e w' ⟨rfl, rfl⟩)
      go_ret
      exact ⟨rfl, rfl⟩

set_option maxHeartbeats 400000 in
theorem rfits_any (n s : Int) (hs : Sz s) (w : World) :
    Calls Try.prog 40 #[.int .i64 n, .int .i64 s] w fun e w' => e = .returned (.bool (ft n s)) ∧ w = w' := by
  have hW : 256 ≤ W s := by rcases W_cases hs with h | h | h <;> omega
  have hW2 : W s ≤ 4294967296 := by rcases W_cases hs with h | h | h <;> omega
  have HQ := Lib.hid (show wrap64 (-(W s).tdiv 2) = -(W s / 2) by
    rw [Int.tdiv_eq_ediv_of_nonneg (by omega)]; exact w64 (by omega) (by omega))
  by_cases ha : -(W s / 2) ≤ n
  · go_enter Try.func40, Try.ntmps40
    go_wp2_with (go_at_call 12; refine (wide_any _ hs _).mono ?_; rintro e w' ⟨rfl, rfl⟩)
    · go_ret
      exact ⟨ret_bool (by simp [ft, ha]), rfl⟩
    · exfalso; have := HQ.out; omega
  · go_enter Try.func40, Try.ntmps40
    go_wp2_with (go_at_call 12; refine (wide_any _ hs _).mono ?_; rintro e w' ⟨rfl, rfl⟩)
    · exfalso; have := HQ.out; omega
    · go_ret
      exact ⟨ret_bool (by unfold ft; rw [decide_eq_false]; omega), rfl⟩

end Go.Proofs.Ytpimfoejlfmimaa.Cs
