import Derived.Laws.BitsAllLaws
import Derived.Test.YteohkobdmkbcpaaGreatDoorRows
import Derived.WalkKit
import Derived.WalkLawsBesides
import Derived.Outline
import Derived.Lib.Hide
import Derived.RegionTactic
import Derived.ChangeAlike
import Derived.Deep.RegionWith
import Derived.OpenShut
import Derived.Deep.QuietTactic
import Derived.BigQuiet

/- Plain arithmetic of numbers of one, two and four bytes: no program in sight. -/
namespace Go.Proofs.YteohkobdmkbcpaaGreatDoor.Bt

/-- one of the three sizes -/
def Sz (s : Int) : Prop := s = 1 ∨ s = 2 ∨ s = 4
/-- how many numbers a size has -/
def W (s : Int) : Int := if s = 1 then 256 else if s = 2 then 65536 else 4294967296
/-- a number's rest, with its sign -/
def sg (x s : Int) : Int := if W s / 2 ≤ x % W s then x % W s - W s else x % W s
/-- a number fits its 32 bits -/
def U (x : Int) : Prop := 0 ≤ x ∧ x < 4294967296

theorem W1 : W 1 = 256 := rfl
theorem W2 : W 2 = 65536 := rfl
theorem W4 : W 4 = 4294967296 := rfl

theorem and_mask {x s : Int} (hs : Sz s) (h : U x) : bits .and .u32 x (W s - 1) = x % W s := by
  obtain ⟨h0, h1⟩ := h
  rcases hs with rfl | rfl | rfl
  · rw [W1, u32_and _ _ h0 h1 (by omega) (by omega)]
    show ((x.toNat &&& 255 : Nat) : Int) = _
    rw [nat_mask8]; omega
  · rw [W2, u32_and _ _ h0 h1 (by omega) (by omega)]
    show ((x.toNat &&& 65535 : Nat) : Int) = _
    rw [nat_mask16]; omega
  · rw [W4, u32_and _ _ h0 h1 (by omega) (by omega)]
    show ((x.toNat &&& 4294967295 : Nat) : Int) = _
    rw [show (4294967295 : Nat) = 2 ^ 32 - 1 from rfl, Nat.and_two_pow_sub_one_eq_mod]; omega

theorem and_top {x s : Int} (hs : Sz s) (h : U x) : bits .and .u32 x (W s / 2) = if W s / 2 ≤ x % W s then W s / 2 else 0 := by
  obtain ⟨h0, h1⟩ := h
  rcases hs with rfl | rfl | rfl
  · rw [W1, u32_and _ _ h0 h1 (by omega) (by omega)]
    show ((x.toNat &&& 2 ^ 7 : Nat) : Int) = _
    rw [nat_bit]; split <;> omega
  · rw [W2, u32_and _ _ h0 h1 (by omega) (by omega)]
    show ((x.toNat &&& 2 ^ 15 : Nat) : Int) = _
    rw [nat_bit]; split <;> omega
  · rw [W4, u32_and _ _ h0 h1 (by omega) (by omega)]
    show ((x.toNat &&& 2 ^ 31 : Nat) : Int) = _
    rw [nat_bit]; split <;> omega

theorem andNot_mask {x s : Int} (hs : Sz s) (h : U x) : bits .andNot .u32 x (W s - 1) = x - x % W s := by
  obtain ⟨h0, h1⟩ := h
  have key : ∀ (n i : Nat), n < 4294967296 → i ≤ 32 → n &&& (4294967295 - (2 ^ i - 1)) = n - n % 2 ^ i := by
    intro n i hn hi
    have e : 4294967295 - (2 ^ i - 1) = (2 ^ (32 - i) - 1) * 2 ^ i := by
      have hp : 2 ^ 32 = 2 ^ (32 - i) * 2 ^ i := by rw [← Nat.pow_add]; congr 1; omega
      rw [Nat.sub_mul, ← hp]; have := Nat.two_pow_pos i; omega
    have hd : n / 2 ^ i < 2 ^ (32 - i) := by
      rw [Nat.div_lt_iff_lt_mul (Nat.two_pow_pos i), ← Nat.pow_add]
      have : 32 - i + i = 32 := by omega
      rw [this]; omega
    apply Nat.eq_of_testBit_eq
    intro j
    rw [e, Nat.testBit_and]
    have e2 : n - n % 2 ^ i = (n / 2 ^ i) * 2 ^ i := by have := Nat.div_add_mod n (2 ^ i); rw [Nat.mul_comm] at this; omega
    rw [e2, Nat.testBit_mul_two_pow, Nat.testBit_mul_two_pow]
    by_cases hj : i ≤ j
    · simp only [hj, decide_true, Bool.true_and, Nat.testBit_two_pow_sub_one, Nat.testBit_div_two_pow]
      rw [Nat.sub_add_cancel hj]
      by_cases hk : j - i < 32 - i
      · simp [hk]
      · have : n.testBit j = false := Nat.testBit_lt_two_pow (Nat.lt_of_lt_of_le (by omega : n < 2 ^ 32) (Nat.pow_le_pow_right (by omega) (by omega)))
        simp [this]
    · simp [hj]
  rcases hs with rfl | rfl | rfl
  · rw [W1, u32_andNot _ _ h0 h1 (by omega) (by omega)]
    have := key x.toNat 8 (by omega) (by omega)
    show ((x.toNat &&& (4294967295 - (2 ^ 8 - 1)) : Nat) : Int) = _
    rw [this]; omega
  · rw [W2, u32_andNot _ _ h0 h1 (by omega) (by omega)]
    have := key x.toNat 16 (by omega) (by omega)
    show ((x.toNat &&& (4294967295 - (2 ^ 16 - 1)) : Nat) : Int) = _
    rw [this]; omega
  · rw [W4, u32_andNot _ _ h0 h1 (by omega) (by omega)]
    have := key x.toNat 32 (by omega) (by omega)
    show ((x.toNat &&& (4294967295 - (2 ^ 32 - 1)) : Nat) : Int) = _
    rw [this]; omega

/-- two numbers without a common bit, the one above, the other below a power of two -/
theorem or_join (i : Nat) (x y : Int) (hx : U x) (hy0 : 0 ≤ y) (hx2 : x % 2 ^ i = 0) (hy : y < 2 ^ i) (hU : U y) : bits .or .u32 x y = x + y := by
  rw [u32_or _ _ hx.1 hx.2 hU.1 hU.2]
  have e := nat_join i x.toNat y.toNat (by obtain ⟨n, rfl⟩ := Int.eq_ofNat_of_zero_le hx.1; simpa using (by exact_mod_cast hx2 : n % 2 ^ i = 0)) (by obtain ⟨n, rfl⟩ := Int.eq_ofNat_of_zero_le hy0; simpa using (by exact_mod_cast hy : n < 2 ^ i))
  have h1 := hx.1
  rw [e]; omega

theorem or_put {x y s : Int} (hs : Sz s) (hx : U x) : bits .or .u32 (x - x % W s) (y % W s) = x - x % W s + y % W s := by
  obtain ⟨h0, h1⟩ := hx
  rcases hs with rfl | rfl | rfl
  · rw [W1]; exact or_join 8 _ _ ⟨by omega, by omega⟩ (by omega) (by omega) (by omega) ⟨by omega, by omega⟩
  · rw [W2]; exact or_join 16 _ _ ⟨by omega, by omega⟩ (by omega) (by omega) (by omega) ⟨by omega, by omega⟩
  · rw [W4]; exact or_join 32 _ _ ⟨by omega, by omega⟩ (by omega) (by omega) (by omega) ⟨by omega, by omega⟩

end Go.Proofs.YteohkobdmkbcpaaGreatDoor.Bt

/- Plain arithmetic, more: the answers of the calls, as functions of numbers. -/
namespace Go.Proofs.YteohkobdmkbcpaaGreatDoor.Bt

/-- below nothing -/
def ng (x s : Int) : Bool := decide (W s / 2 ≤ x % W s)
/-- nothing -/
def zr (x s : Int) : Bool := x % W s == 0
/-- does a number with a sign fit -/
def ft (n s : Int) : Bool := decide (-(W s / 2) ≤ n ∧ n < W s / 2)
/-- what a carry counts -/
def bt (b : Bool) : Int := if b then 1 else 0
/-- with its sign, in 32 bits -/
def ex (x s : Int) : Int := sg x s % 4294967296

theorem W_cases {s : Int} (hs : Sz s) : W s = 256 ∨ W s = 65536 ∨ W s = 4294967296 := by
  rcases hs with rfl | rfl | rfl
  · exact .inl rfl
  · exact .inr (.inl rfl)
  · exact .inr (.inr rfl)

theorem bt_cases (b : Bool) : bt b = 0 ∨ bt b = 1 := by cases b <;> simp [bt]

theorem sg_bound {s : Int} (hs : Sz s) (x : Int) : -(W s / 2) ≤ sg x s ∧ sg x s < W s / 2 := by
  unfold sg
  rcases W_cases hs with h | h | h <;> rw [h] <;> split <;> omega

theorem sg_32 {s : Int} (hs : Sz s) (x : Int) : -2147483648 ≤ sg x s ∧ sg x s < 2147483648 := by
  have := sg_bound hs x
  rcases W_cases hs with h | h | h <;> rw [h] at this <;> omega

theorem sg_mod {s : Int} (hs : Sz s) (x : Int) : sg x s % W s = x % W s := by
  unfold sg
  rcases W_cases hs with h | h | h <;> rw [h] <;> split <;> omega

theorem rest_bound {s : Int} (hs : Sz s) (x : Int) : 0 ≤ x % W s ∧ x % W s < W s ∧ W s ≤ 4294967296 := by
  rcases W_cases hs with h | h | h <;> rw [h] <;> omega

theorem sg_of_mod {s : Int} (hs : Sz s) (n : Int) : sg (n % W s) s = sg n s := by
  unfold sg
  rcases W_cases hs with h | h | h <;> rw [h] <;> simp

theorem ng_of_mod {s : Int} (hs : Sz s) (n : Int) : ng (n % W s) s = ng n s := by
  unfold ng
  rcases W_cases hs with h | h | h <;> rw [h] <;> simp

theorem zr_of_mod {s : Int} (hs : Sz s) (n : Int) : zr (n % W s) s = zr n s := by
  unfold zr
  rcases W_cases hs with h | h | h <;> rw [h] <;> simp

/-- a number with a sign is that of its rest just if it fits -/
theorem sg_ft {s : Int} (hs : Sz s) (n : Int) : (sg n s != n) = !ft n s := by
  have : (sg n s = n) ↔ (-(W s / 2) ≤ n ∧ n < W s / 2) := by
    unfold sg
    rcases W_cases hs with h | h | h <;> rw [h] <;> split <;> omega
  unfold ft
  by_cases h : sg n s = n
  · simp only [h, bne_self_eq_false, decide_eq_true (this.1 h), Bool.not_true]
  · rw [decide_eq_false (fun k => h (this.2 k))]; simp [h]

theorem ng_sg {s : Int} (hs : Sz s) (x : Int) : ng x s = decide (sg x s < 0) := by
  unfold ng sg
  rcases W_cases hs with h | h | h <;> rw [h] <;> split <;> simp only [decide_eq_decide] <;> omega

theorem ex_pos {x s : Int} (hs : Sz s) (h : ng x s = true) : ex x s = 4294967296 - W s + x % W s := by
  unfold ng at h; unfold ex sg
  have h := of_decide_eq_true h
  rw [if_pos h]
  rcases W_cases hs with k | k | k <;> rw [k] at h ⊢ <;> omega

theorem ex_neg {x s : Int} (hs : Sz s) (h : ng x s = false) : ex x s = x % W s := by
  unfold ng at h; unfold ex sg
  have h := of_decide_eq_false h
  rw [if_neg h]
  rcases W_cases hs with k | k | k <;> rw [k] at h ⊢ <;> omega

theorem top_ng {x s : Int} (hs : Sz s) (h : U x) : (bits .and .u32 x (W s / 2) != 0) = ng x s := by
  rw [and_top hs h]; unfold ng
  by_cases k : W s / 2 ≤ x % W s
  · rw [if_pos k, decide_eq_true k]; rcases W_cases hs with j | j | j <;> rw [j] <;> rfl
  · rw [if_neg k, decide_eq_false k]; rfl

/-- what stands beyond a size, set -/
theorem or_high {x s : Int} (hs : Sz s) (h : U x) : bits .or .u32 x (bits .xor .u32 4294967295 (W s - 1)) = 4294967296 - W s + x % W s := by
  obtain ⟨h0, h1⟩ := h
  have key : ∀ (n i : Nat), n < 4294967296 → i ≤ 32 → n ||| (4294967296 - 2 ^ i) = 4294967296 - 2 ^ i + n % 2 ^ i := by
    intro n i hn hi
    have hp : 2 ^ 32 = 2 ^ (32 - i) * 2 ^ i := by rw [← Nat.pow_add]; congr 1; omega
    have e : 4294967296 - 2 ^ i = (2 ^ (32 - i) - 1) * 2 ^ i := by
      rw [Nat.sub_mul, ← hp]; omega
    have hlt : n % 2 ^ i < 2 ^ i := Nat.mod_lt _ (Nat.two_pow_pos i)
    rw [← nat_join i (4294967296 - 2 ^ i) (n % 2 ^ i) (by rw [e]; exact Nat.mul_mod_left _ _) hlt]
    apply Nat.eq_of_testBit_eq
    intro j
    rw [Nat.testBit_or, Nat.testBit_or, e, Nat.testBit_mul_two_pow, Nat.testBit_mod_two_pow, Nat.testBit_two_pow_sub_one]
    by_cases hj : i ≤ j
    · by_cases hk : j - i < 32 - i
      · simp [hj, hk]
      · have : n.testBit j = false := Nat.testBit_lt_two_pow (Nat.lt_of_lt_of_le (by omega : n < 2 ^ 32) (Nat.pow_le_pow_right (by omega) (by omega)))
        simp [this]
    · have hj' : j < i := by omega
      simp [hj, hj']
  rcases hs with rfl | rfl | rfl
  · have := key x.toNat 8 (by omega) (by omega)
    rw [W1, u32_xor _ _ (by omega) (by omega) (by omega) (by omega), u32_or _ _ h0 h1 (by decide) (by decide)]
    show ((x.toNat ||| (4294967296 - 2 ^ 8) : Nat) : Int) = _
    rw [this]; omega
  · have := key x.toNat 16 (by omega) (by omega)
    rw [W2, u32_xor _ _ (by omega) (by omega) (by omega) (by omega), u32_or _ _ h0 h1 (by decide) (by decide)]
    show ((x.toNat ||| (4294967296 - 2 ^ 16) : Nat) : Int) = _
    rw [this]; omega
  · have := key x.toNat 32 (by omega) (by omega)
    rw [W4, u32_xor _ _ (by omega) (by omega) (by omega) (by omega), u32_or _ _ h0 h1 (by decide) (by decide)]
    show ((x.toNat ||| (4294967296 - 2 ^ 32) : Nat) : Int) = _
    rw [this]; omega

/-- the 32 bits of ex, as a number with a sign -/
theorem i32_ex {s : Int} (hs : Sz s) (x : Int) : IntKind.i32.wrap (ex x s) = sg x s := by
  have := sg_32 hs x
  unfold ex
  simp [IntKind.wrap, IntKind.bits, IntKind.signed]
  omega

theorem mul_62 {x y : Int} (hx : -2147483648 ≤ x ∧ x < 2147483648) (hy : -2147483648 ≤ y ∧ y < 2147483648) : -4611686018427387904 ≤ x * y ∧ x * y ≤ 4611686018427387904 := by
  have h : (x * y).natAbs ≤ 2147483648 * 2147483648 := by
    rw [Int.natAbs_mul]; exact Nat.mul_le_mul (by omega) (by omega)
  omega

theorem tdiv_32 {x y : Int} (hx : -2147483648 ≤ x ∧ x < 2147483648) : -2147483648 ≤ x.tdiv y ∧ x.tdiv y ≤ 2147483648 := by
  have h : (x.tdiv y).natAbs ≤ 2147483648 := by
    rw [Int.natAbs_tdiv]; exact Nat.le_trans (Nat.div_le_self _ _) (by omega)
  omega

theorem mod_mod {s : Int} (hs : Sz s) (n : Int) : n % 4294967296 % W s = n % W s := by
  rcases W_cases hs with h | h | h <;> rw [h] <;> omega

theorem mod_self {s : Int} (hs : Sz s) (n : Int) : n % W s % W s = n % W s := by
  rcases W_cases hs with h | h | h <;> rw [h] <;> omega

end Go.Proofs.YteohkobdmkbcpaaGreatDoor.Bt

/- Contracts of the leaves of package bits and of the document's own reckoning, at the three sizes. -/
namespace Go.Proofs.YteohkobdmkbcpaaGreatDoor.Bt
open Go.RowKit

theorem ret_int {k : IntKind} {a b : Int} (h : a = b) : Ending.returned (.int k a) = .returned (.int k b) := by rw [h]
theorem ret_bool {a b : Bool} (h : a = b) : Ending.returned (.bool a) = .returned (.bool b) := by rw [h]

theorem w64 {n : Int} (h0 : -9223372036854775808 ≤ n) (h1 : n < 9223372036854775808) : wrap64 n = n := by unfold wrap64; omega
theorem w32_ex {s : Int} (hs : Sz s) (x : Int) : wrap32 (ex x s) = sg x s := by
  have := sg_32 hs x
  unfold wrap32 ex; omega
theorem w64_sg {s : Int} (hs : Sz s) (x : Int) : wrap64 (sg x s) = sg x s := by
  have := sg_32 hs x
  exact w64 (by omega) (by omega)
theorem w64_rest {s : Int} (hs : Sz s) (x : Int) : wrap64 (x % W s) = x % W s := by
  have := rest_bound hs x
  exact w64 (by omega) (by omega)





set_option maxHeartbeats 400000 in
set_option maxRecDepth 100000 in
theorem mask_any (s : Int) (hs : Sz s) (w : World) :
    Calls Tryz.prog 91 #[.int .i64 s] w fun e w' => e = .returned (.int .u32 (W s - 1)) ∧ w = w' := by
  rcases hs with rfl | rfl | rfl
  all_goals
    go_enter Tryz.func91, Tryz.ntmps91
    go_wp2
    go_ret
    exact ⟨rfl, rfl⟩

set_option maxHeartbeats 400000 in
set_option maxRecDepth 100000 in
theorem top_any (s : Int) (hs : Sz s) (w : World) :
    Calls Tryz.prog 249 #[.int .i64 s] w fun e w' => e = .returned (.int .u32 (W s / 2)) ∧ w = w' := by
  rcases hs with rfl | rfl | rfl
  all_goals
    go_enter Tryz.func249, Tryz.ntmps249
    go_wp2
    go_ret
    exact ⟨rfl, rfl⟩

set_option maxHeartbeats 400000 in
set_option maxRecDepth 100000 in
theorem wide_any (s : Int) (hs : Sz s) (w : World) :
    Calls Tryz.prog 64 #[.int .i64 s] w fun e w' => e = .returned (.int .i64 (W s)) ∧ w = w' := by
  rcases hs with rfl | rfl | rfl
  all_goals
    go_enter Tryz.func64, Tryz.ntmps64
    go_wp2
    go_ret
    exact ⟨rfl, rfl⟩

set_option maxHeartbeats 400000 in
set_option maxRecDepth 100000 in
theorem neg_any (x s : Int) (hs : Sz s) (hx : U x) (w : World) :
    Calls Tryz.prog 214 #[.int .u32 x, .int .i64 s] w fun e w' => e = .returned (.bool (ng x s)) ∧ w = w' := by
  go_enter Tryz.func214, Tryz.ntmps214
  go_wp2_with (go_at_call 249; refine (top_any _ hs _).mono ?_; rintro e w' ⟨rfl, rfl⟩)
  go_ret
  exact ⟨ret_bool (top_ng hs hx), rfl⟩

set_option maxHeartbeats 400000 in
set_option maxRecDepth 100000 in
theorem extend_any (x s : Int) (hs : Sz s) (hx : U x) (w : World) :
    Calls Tryz.prog 164 #[.int .u32 x, .int .i64 s] w fun e w' => e = .returned (.int .u32 (ex x s)) ∧ w = w' := by
  by_cases hn : ng x s = true
  · have HE := Lib.hid (ex_pos hs hn)
    have HO := Lib.hid (or_high hs hx)
    go_enter Tryz.func164, Tryz.ntmps164
    go_wp2_with (first | (go_at_call 214; refine (neg_any _ _ hs hx _).mono ?_; rintro e w' ⟨rfl, rfl⟩) | (go_at_call 91; refine (mask_any _ hs _).mono ?_; rintro e w' ⟨rfl, rfl⟩))
    go_ret
    exact ⟨ret_int (by rw [HE.out]; exact HO.out), rfl⟩
  · have hn : ng x s = false := by simpa using hn
    have HE := Lib.hid (ex_neg hs hn)
    have HO := Lib.hid (and_mask hs hx)
    go_enter Tryz.func164, Tryz.ntmps164
    go_wp2_with (first | (go_at_call 214; refine (neg_any _ _ hs hx _).mono ?_; rintro e w' ⟨rfl, rfl⟩) | (go_at_call 91; refine (mask_any _ hs _).mono ?_; rintro e w' ⟨rfl, rfl⟩))
    go_ret
    exact ⟨ret_int (by rw [HE.out]; exact HO.out), rfl⟩

set_option maxHeartbeats 400000 in
set_option maxRecDepth 100000 in
theorem signed_any (x s : Int) (hs : Sz s) (hx : U x) (w : World) :
    Calls Tryz.prog 219 #[.int .u32 x, .int .i64 s] w fun e w' => e = .returned (.int .i64 (sg x s)) ∧ w = w' := by
  go_enter Tryz.func219, Tryz.ntmps219
  go_wp2_with (go_at_call 164; refine (extend_any _ _ hs hx _).mono ?_; rintro e w' ⟨rfl, rfl⟩)
  go_ret
  exact ⟨ret_int (by rw [w32_ex hs, w64_sg hs]), rfl⟩

set_option maxHeartbeats 400000 in
set_option maxRecDepth 100000 in
theorem plain_any (x s : Int) (hs : Sz s) (hx : U x) (w : World) :
    Calls Tryz.prog 206 #[.int .u32 x, .int .i64 s] w fun e w' => e = .returned (.int .i64 (x % W s)) ∧ w = w' := by
  go_enter Tryz.func206, Tryz.ntmps206
  go_wp2_with (go_at_call 91; refine (mask_any _ hs _).mono ?_; rintro e w' ⟨rfl, rfl⟩)
  go_ret
  exact ⟨ret_int (by rw [and_mask hs hx, w64_rest hs]), rfl⟩

set_option maxHeartbeats 400000 in
set_option maxRecDepth 100000 in
theorem one_any (b : Bool) (w : World) :
    Calls Tryz.prog 220 #[.bool b] w fun e w' => e = .returned (.int .i64 (bt b)) ∧ w = w' := by
  cases b
  all_goals
    go_enter Tryz.func220, Tryz.ntmps220
    go_wp2
    go_ret
    exact ⟨rfl, rfl⟩




/-! the document's own -/
set_option maxHeartbeats 400000 in
set_option maxRecDepth 100000 in
theorem rest_any (x s : Int) (hs : Sz s) (hx : U x) (w : World) :
    Calls Tryz.prog 41 #[.int .u32 x, .int .i64 s] w fun e w' => e = .returned (.int .i64 (x % W s)) ∧ w = w' := by
  have hx' := hx
  obtain ⟨h0, h1⟩ := hx'
  have hW : 0 < W s := by rcases W_cases hs with h | h | h <;> omega
  have hW2 : W s ≤ 4294967296 := by rcases W_cases hs with h | h | h <;> omega
  go_enter Tryz.func41, Tryz.ntmps41
  go_wp2_with (go_at_call 64; refine (wide_any _ hs _).mono ?_; rintro e w' ⟨rfl, rfl⟩)
  go_ret
  exact ⟨rfl, rfl⟩

set_option maxHeartbeats 400000 in
set_option maxRecDepth 100000 in
theorem rsigned_any (x s : Int) (hs : Sz s) (hx : U x) (w : World) :
    Calls Tryz.prog 40 #[.int .u32 x, .int .i64 s] w fun e w' => e = .returned (.int .i64 (sg x s)) ∧ w = w' := by
  have hb := rest_bound hs x
  have hW : 256 ≤ W s := by rcases W_cases hs with h | h | h <;> omega
  by_cases hn : W s / 2 ≤ x % W s
  · have HE := Lib.hid (show sg x s = x % W s - W s by unfold sg; rw [if_pos hn])
    go_enter Tryz.func40, Tryz.ntmps40
    go_wp2_with (first | (go_at_call 41; refine (rest_any _ _ hs hx _).mono ?_; rintro e w' ⟨rfl, rfl⟩) | (go_at_call 64; refine (wide_any _ hs _).mono ?_; rintro e w' ⟨rfl, rfl⟩))
    go_ret
    exact ⟨ret_int HE.out.symm, rfl⟩
  · have HE := Lib.hid (show sg x s = x % W s by unfold sg; rw [if_neg hn])
    go_enter Tryz.func40, Tryz.ntmps40
    go_wp2_with (first | (go_at_call 41; refine (rest_any _ _ hs hx _).mono ?_; rintro e w' ⟨rfl, rfl⟩) | (go_at_call 64; refine (wide_any _ hs _).mono ?_; rintro e w' ⟨rfl, rfl⟩))
    go_ret
    exact ⟨ret_int HE.out.symm, rfl⟩

set_option maxHeartbeats 400000 in
set_option maxRecDepth 100000 in
theorem signs_any (x s : Int) (hs : Sz s) (hx : U x) (w : World) :
    Calls Tryz.prog 185 #[.int .u32 x, .int .i64 s] w fun e w' => e = .returned (.agg #[.bool (ng x s), .bool (zr x s), .bool false, .bool false]) ∧ Below w.heap.size w w' := by
  have HM := Lib.hid (show (bits .and .u32 x (W s - 1) == 0) = zr x s by rw [and_mask hs hx]; rfl)
  go_enter Tryz.func185, Tryz.ntmps185
  go_wp2_with (first | (go_at_call 214; refine (neg_any _ _ hs hx _).mono ?_; rintro e w' ⟨rfl, rfl⟩) | (go_at_call 91; refine (mask_any _ hs _).mono ?_; rintro e w' ⟨rfl, rfl⟩))
  rw [HM.out]
  exact bodyPost_ret (v := .agg #[.bool (ng x s), .bool (zr x s), .bool false, .bool false]) (by simp [results, Tryz.results185, go_sem]) rfl ⟨rfl, (Below.refl _ _).alloc (Nat.le_refl _) _⟩



set_option maxHeartbeats 400000 in
set_option maxRecDepth 100000 in
theorem put_any (o x s : Int) (hs : Sz s) (ho : U o) (hx : U x) (w : World) :
    Calls Tryz.prog 136 #[.int .u32 o, .int .u32 x, .int .i64 s] w fun e w' => e = .returned (.int .u32 (o - o % W s + x % W s)) ∧ w = w' := by
  have H1 := Lib.hid (and_mask hs hx)
  have H2 := Lib.hid (andNot_mask hs ho)
  have H3 := Lib.hid (or_put (y := x) hs ho)
  go_enter Tryz.func136, Tryz.ntmps136
  go_wp2_with (go_at_call 91; refine (mask_any _ hs _).mono ?_; rintro e w' ⟨rfl, rfl⟩)
  go_ret
  exact ⟨ret_int (by rw [H1.out, H2.out, H3.out]), rfl⟩



theorem tmod_neg {n m : Int} (h : n < 0) (hm : 0 < m) : n.tmod m = if n % m = 0 then 0 else n % m - m := by
  rw [Int.tmod_eq_emod]
  have : ¬ 0 ≤ n := by omega
  split <;> split <;> rename_i a b
  all_goals (have := Int.natAbs_of_nonneg (Int.le_of_lt hm); have hd := @Int.dvd_iff_emod_eq_zero m n; grind)





end Go.Proofs.YteohkobdmkbcpaaGreatDoor.Bt

/- Contracts of the calls of package bits, and of the document's own, that answer codes. -/
namespace Go.Proofs.YteohkobdmkbcpaaGreatDoor.Bt
open Go.RowKit

/-- codes, as a value -/
def fl (n z v c : Bool) : Value := .agg #[.bool n, .bool z, .bool v, .bool c]

theorem bcell {W w1 : World} (hb : Below W.heap.size W w1) : (∀ b o, b < W.heap.size → w1.cell? ⟨b, o, none⟩ = W.cell? ⟨b, o, none⟩) ∧ (∀ b o, b < W.heap.size → w1.frozen? ⟨b, o, none⟩ = W.frozen? ⟨b, o, none⟩) :=
  ⟨fun b o h => hb.cell (p := ⟨b, o, none⟩) h, fun b o h => hb.frozen (p := ⟨b, o, none⟩) h⟩

set_option maxHeartbeats 400000 in
set_option maxRecDepth 100000 in
theorem fit_any (n s : Int) (hs : Sz s) (w : World) :
    Calls Tryz.prog 218 #[.int .i64 n, .int .i64 s] w fun e w' => e = .returned (.tuple #[.int .u32 (n % W s), .agg #[.bool (ng n s), .bool (zr n s), .bool (!ft n s), .bool false]]) ∧ Below w.heap.size w w' := by
  have hU : U (n % 4294967296) := ⟨by omega, by omega⟩
  have hb := rest_bound hs n
  have hU2 : U (n % W s) := ⟨by omega, by omega⟩
  have HM := Lib.hid (show bits .and .u32 (n % 4294967296) (W s - 1) = n % W s by rw [and_mask hs hU, mod_mod hs])
  go_enter Tryz.func218, Tryz.ntmps218
  go_wp2_with (first | (go_at_call 91; refine (mask_any _ hs _).mono ?_; rintro e w' ⟨rfl, rfl⟩) | fail)
  rw [HM.out]
  refine (signs_any _ _ hs hU2 _).mono ?_
  rintro e w1 ⟨rfl, hb1⟩
  rw [ng_of_mod hs, zr_of_mod hs]
  obtain ⟨hc, hf⟩ := bcell hb1
  have hz : w.heap.size < w1.heap.size := by have := hb1.size; simp at this; omega
  go_wp2_with (first | (go_at_call 219; refine (signed_any _ _ hs hU2 _).mono ?_; rintro e w' ⟨rfl, rfl⟩) | fail)
  rw [sg_of_mod hs, sg_ft hs]
  go_region
  go_wp2
  exact bodyPost_ret (v := .tuple #[.int .u32 (n % W s), .agg #[.bool (ng n s), .bool (zr n s), .bool (!ft n s), .bool false]]) (by simp [results, Tryz.results218, go_sem, hc, hz]) rfl ⟨rfl, by
    refine Below.drew (Below.alloc ?_ (by simp; omega) _)
    iterate 4 refine Below.setCell ?_ (by simp) _
    exact ((Below.refl _ _).alloc (Nat.le_refl _) _).trans (hb1.mono (by simp))⟩


/-- a sum, and a difference, with signs -/
def sm (a b : Int) (c : Bool) (s : Int) : Int := sg a s + sg b s + bt c
def df (a b : Int) (c : Bool) (s : Int) : Int := sg a s - sg b s - bt c

theorem mask_rest {s : Int} (hs : Sz s) : (W s - 1) % W s = W s - 1 := by rcases W_cases hs with h | h | h <;> rw [h] <;> omega
theorem mask_U {s : Int} (hs : Sz s) : U (W s - 1) := by unfold U; rcases W_cases hs with h | h | h <;> rw [h] <;> omega

set_option maxHeartbeats 400000 in
set_option maxRecDepth 100000 in
theorem add_any (a b s : Int) (c : Bool) (hs : Sz s) (ha : U a) (hb : U b) (w : World) :
    Calls Tryz.prog 173 #[.int .u32 a, .int .u32 b, .bool c, .int .i64 s] w fun e w' => e = .returned (.tuple #[.int .u32 (sm a b c s % W s), .agg #[.bool (ng (sm a b c s) s), .bool (zr (sm a b c s) s), .bool (!ft (sm a b c s) s), .bool (decide (W s ≤ a % W s + b % W s + bt c))]]) ∧ Below w.heap.size w w' := by
  have ba := sg_32 hs a
  have bb := sg_32 hs b
  have ra := rest_bound hs a
  have rb := rest_bound hs b
  have bc : 0 ≤ bt c ∧ bt c ≤ 1 := by rcases bt_cases c with h | h <;> omega
  have hm := mask_rest hs
  have hmU := mask_U hs
  have HS := Lib.hid (show sg a s + sg b s + bt c = sm a b c s from rfl)
  have HC := Lib.hid (show decide (W s - 1 < a % W s + b % W s + bt c) = decide (W s ≤ a % W s + b % W s + bt c) by simp only [decide_eq_decide]; omega)
  go_enter Tryz.func173, Tryz.ntmps173
  go_wp2_with (first | (go_at_call 219; refine (signed_any _ _ hs (by assumption) _).mono ?_; rintro e w' ⟨rfl, rfl⟩) | (go_at_call 220; refine (one_any _ _).mono ?_; rintro e w' ⟨rfl, rfl⟩) | fail)
  rw [HS.out]
  refine (fit_any _ _ hs _).mono ?_
  rintro e w1 ⟨rfl, hb1⟩
  obtain ⟨hc, hf⟩ := bcell hb1
  have hz : w.heap.size < w1.heap.size := by have := hb1.size; simp at this; omega
  go_wp2_with (first | (go_at_call 206; refine (plain_any _ _ hs (by assumption) _).mono ?_; rintro e w' ⟨rfl, rfl⟩) | (go_at_call 220; refine (one_any _ _).mono ?_; rintro e w' ⟨rfl, rfl⟩) | (go_at_call 91; refine (mask_any _ hs _).mono ?_; rintro e w' ⟨rfl, rfl⟩) | fail)
  rw [HC.out]
  go_region
  go_wp2
  exact bodyPost_ret (v := .tuple #[.int .u32 (sm a b c s % W s), .agg #[.bool (ng (sm a b c s) s), .bool (zr (sm a b c s) s), .bool (!ft (sm a b c s) s), .bool (decide (W s ≤ a % W s + b % W s + bt c))]]) (by simp [results, Tryz.results173, go_sem, hc, hz]) rfl ⟨rfl, by
    refine Below.drew (Below.alloc ?_ (by simp; omega) _)
    iterate 4 refine Below.setCell ?_ (by simp) _
    exact ((Below.refl _ _).alloc (Nat.le_refl _) _).trans (hb1.mono (by simp))⟩

set_option maxHeartbeats 400000 in
set_option maxRecDepth 100000 in
theorem sub_any (a b s : Int) (c : Bool) (hs : Sz s) (ha : U a) (hb : U b) (w : World) :
    Calls Tryz.prog 175 #[.int .u32 a, .int .u32 b, .bool c, .int .i64 s] w fun e w' => e = .returned (.tuple #[.int .u32 (df a b c s % W s), .agg #[.bool (ng (df a b c s) s), .bool (zr (df a b c s) s), .bool (!ft (df a b c s) s), .bool (decide (a % W s < b % W s + bt c))]]) ∧ Below w.heap.size w w' := by
  have ba := sg_32 hs a
  have bb := sg_32 hs b
  have ra := rest_bound hs a
  have rb := rest_bound hs b
  have bc : 0 ≤ bt c ∧ bt c ≤ 1 := by rcases bt_cases c with h | h <;> omega
  have HS := Lib.hid (show sg a s - sg b s - bt c = df a b c s from rfl)
  go_enter Tryz.func175, Tryz.ntmps175
  go_wp2_with (first | (go_at_call 219; refine (signed_any _ _ hs (by assumption) _).mono ?_; rintro e w' ⟨rfl, rfl⟩) | (go_at_call 220; refine (one_any _ _).mono ?_; rintro e w' ⟨rfl, rfl⟩) | fail)
  rw [HS.out]
  refine (fit_any _ _ hs _).mono ?_
  rintro e w1 ⟨rfl, hb1⟩
  obtain ⟨hc, hf⟩ := bcell hb1
  have hz : w.heap.size < w1.heap.size := by have := hb1.size; simp at this; omega
  go_wp2_with (first | (go_at_call 206; refine (plain_any _ _ hs (by assumption) _).mono ?_; rintro e w' ⟨rfl, rfl⟩) | (go_at_call 220; refine (one_any _ _).mono ?_; rintro e w' ⟨rfl, rfl⟩) | fail)
  go_region
  go_wp2
  exact bodyPost_ret (v := .tuple #[.int .u32 (df a b c s % W s), .agg #[.bool (ng (df a b c s) s), .bool (zr (df a b c s) s), .bool (!ft (df a b c s) s), .bool (decide (a % W s < b % W s + bt c))]]) (by simp [results, Tryz.results175, go_sem, hc, hz]) rfl ⟨rfl, by
    refine Below.drew (Below.alloc ?_ (by simp; omega) _)
    iterate 4 refine Below.setCell ?_ (by simp) _
    exact ((Below.refl _ _).alloc (Nat.le_refl _) _).trans (hb1.mono (by simp))⟩

set_option maxHeartbeats 400000 in
set_option maxRecDepth 100000 in
theorem mul_any (a b s : Int) (hs : Sz s) (ha : U a) (hb : U b) (w : World) :
    Calls Tryz.prog 252 #[.int .u32 a, .int .u32 b, .int .i64 s] w fun e w' => e = .returned (.tuple #[.int .u32 (sg a s * sg b s % W s), .agg #[.bool (ng (sg a s * sg b s) s), .bool (zr (sg a s * sg b s) s), .bool (!ft (sg a s * sg b s) s), .bool false]]) ∧ Below w.heap.size w w' := by
  have ba := sg_32 hs a
  have bb := sg_32 hs b
  have ra := rest_bound hs a
  have rb := rest_bound hs b
  have hm := mul_62 ba bb
  go_enter Tryz.func252, Tryz.ntmps252
  go_wp2_with (first | (go_at_call 219; refine (signed_any _ _ hs (by assumption) _).mono ?_; rintro e w' ⟨rfl, rfl⟩) | fail)
  refine (fit_any _ _ hs _).mono ?_
  rintro e w1 ⟨rfl, hb1⟩
  obtain ⟨hc, hf⟩ := bcell hb1
  have hz : w.heap.size < w1.heap.size := by have := hb1.size; simp at this; omega
  go_wp2
  exact bodyPost_ret (v := .tuple #[.int .u32 (sg a s * sg b s % W s), .agg #[.bool (ng (sg a s * sg b s) s), .bool (zr (sg a s * sg b s) s), .bool (!ft (sg a s * sg b s) s), .bool (false)]]) (by simp [results, Tryz.results252, go_sem, hc]) rfl ⟨rfl, by
    iterate 4 refine Below.setCell ?_ (by simp) _
    exact ((Below.refl _ _).alloc (Nat.le_refl _) _).trans (hb1.mono (by simp))⟩

set_option maxHeartbeats 400000 in
set_option maxRecDepth 100000 in
theorem less_any (a b s : Int) (hs : Sz s) (ha : U a) (hb : U b) (w : World) :
    Calls Tryz.prog 205 #[.int .u32 a, .int .u32 b, .int .i64 s] w fun e w' => e = .returned (.tuple #[.bool (decide (sg a s < sg b s)), .bool (decide (a % W s < b % W s))]) ∧ w = w' := by
  go_enter Tryz.func205, Tryz.ntmps205
  go_wp2_with (first | (go_at_call 219; refine (signed_any _ _ hs (by assumption) _).mono ?_; rintro e w' ⟨rfl, rfl⟩) | (go_at_call 206; refine (plain_any _ _ hs (by assumption) _).mono ?_; rintro e w' ⟨rfl, rfl⟩) | fail)
  go_ret2
  exact ⟨rfl, rfl⟩

set_option maxHeartbeats 400000 in
set_option maxRecDepth 100000 in
theorem compare_any (a b s : Int) (hs : Sz s) (ha : U a) (hb : U b) (w : World) :
    Calls Tryz.prog 151 #[.int .u32 a, .int .u32 b, .int .i64 s] w fun e w' => e = .returned (.agg #[.bool (decide (sg a s < sg b s)), .bool (a % W s == b % W s), .bool false, .bool (decide (a % W s < b % W s))]) ∧ Below w.heap.size w w' := by
  go_enter Tryz.func151, Tryz.ntmps151
  go_wp2_with (first | (go_at_call 206; refine (plain_any _ _ hs (by assumption) _).mono ?_; rintro e w' ⟨rfl, rfl⟩) | (go_at_call 205; refine (less_any _ _ _ hs ha hb _).mono ?_; rintro e w' ⟨rfl, rfl⟩) | fail)
  exact bodyPost_ret (v := .agg #[.bool (decide (sg a s < sg b s)), .bool (a % W s == b % W s), .bool false, .bool (decide (a % W s < b % W s))]) (by simp [results, Tryz.results151, go_sem]) rfl ⟨rfl, (Below.refl _ _).alloc (Nat.le_refl _) _⟩

set_option maxHeartbeats 400000 in
set_option maxRecDepth 100000 in
theorem rcompare_any (a b s : Int) (hs : Sz s) (ha : U a) (hb : U b) (w : World) :
    Calls Tryz.prog 18 #[.int .u32 a, .int .u32 b, .int .i64 s] w fun e w' => e = .returned (.agg #[.bool (decide (sg a s < sg b s)), .bool (a % W s == b % W s), .bool false, .bool (decide (a % W s < b % W s))]) ∧ Below w.heap.size w w' := by
  go_enter Tryz.func18, Tryz.ntmps18
  go_wp2_with (first | (go_at_call 41; refine (rest_any _ _ hs (by assumption) _).mono ?_; rintro e w' ⟨rfl, rfl⟩) | (go_at_call 40; refine (rsigned_any _ _ hs (by assumption) _).mono ?_; rintro e w' ⟨rfl, rfl⟩) | fail)
  exact bodyPost_ret (v := .agg #[.bool (decide (sg a s < sg b s)), .bool (a % W s == b % W s), .bool false, .bool (decide (a % W s < b % W s))]) (by simp [results, Tryz.results18, go_sem]) rfl ⟨rfl, (Below.refl _ _).alloc (Nat.le_refl _) _⟩

theorem sm_mod {s : Int} (hs : Sz s) (a b : Int) (c : Bool) : (a % W s + b % W s + bt c) % W s = sm a b c s % W s := by
  have h1 := sg_mod hs a
  have h2 := sg_mod hs b
  unfold sm
  generalize bt c = d
  generalize sg a s = p at h1 ⊢
  generalize sg b s = q at h2 ⊢
  rcases W_cases hs with h | h | h <;> rw [h] at h1 h2 ⊢ <;> omega

theorem df_mod {s : Int} (hs : Sz s) (a b : Int) (c : Bool) : (a % W s - b % W s - bt c) % W s = df a b c s % W s := by
  have h1 := sg_mod hs a
  have h2 := sg_mod hs b
  unfold df
  generalize bt c = d
  generalize sg a s = p at h1 ⊢
  generalize sg b s = q at h2 ⊢
  rcases W_cases hs with h | h | h <;> rw [h] at h1 h2 ⊢ <;> omega







end Go.Proofs.YteohkobdmkbcpaaGreatDoor.Bt

/- Contracts of the two divisions. -/
namespace Go.Proofs.YteohkobdmkbcpaaGreatDoor.Bt
open Go.RowKit

/-- a quotient, with signs; by nothing: the number itself -/
def dq (a b s : Int) : Int := if sg b s = 0 then sg a s else (sg a s).tdiv (sg b s)
def dv (a b s : Int) : Bool := sg b s == 0 || !ft (dq a b s) s

theorem ng_congr {s : Int} {x y : Int} (h : x % W s = y % W s) : ng x s = ng y s := by unfold ng; rw [h]
theorem zr_congr {s : Int} {x y : Int} (h : x % W s = y % W s) : zr x s = zr y s := by unfold zr; rw [h]

/-- what a division answers -/
def dvv (a b s : Int) : Value := .tuple #[.int .u32 (dq a b s % W s), .agg #[.bool (ng (dq a b s) s), .bool (zr (dq a b s) s), .bool (dv a b s), .bool (false)], .bool (sg b s != 0)]

theorem ft_div {s : Int} (hs : Sz s) {p q : Int} (hp : -(W s / 2) ≤ p ∧ p < W s / 2) (hq : q ≠ 0) (h : ft (-p) s = true ∨ q ≠ -1) : ft (p.tdiv q) s = true := by
  unfold ft at *
  simp only [decide_eq_true_eq] at *
  by_cases h1 : q = 1
  · subst h1; rw [Int.tdiv_one]; exact hp
  · by_cases h2 : q = -1
    · subst h2
      have h3 := h.resolve_right (fun k => k rfl)
      have h4 : p.tdiv (-1) = -p := by rw [Int.tdiv_neg, Int.tdiv_one]
      rw [h4]; exact h3
    · have h5 : 2 ≤ q.natAbs := by omega
      have h6 : p.natAbs / q.natAbs ≤ p.natAbs / 2 := Nat.div_le_div_left h5 (by omega)
      have h7 : 256 ≤ W s := by rcases W_cases hs with k | k | k <;> omega
      have hn : (p.tdiv q).natAbs = p.natAbs / q.natAbs := Int.natAbs_tdiv p q
      generalize p.tdiv q = d at hn ⊢
      generalize p.natAbs / q.natAbs = k at hn h6
      omega

theorem dvv_zero {a b s : Int} (hs : Sz s) (hq : sg b s = 0) : dvv a b s = .tuple #[.int .u32 (a % W s), .agg #[.bool (ng a s), .bool (zr a s), .bool true, .bool false], .bool false] := by
  have h1 : dq a b s = sg a s := by unfold dq; rw [if_pos hq]
  have h2 : dv a b s = true := by unfold dv; rw [hq]; rfl
  have h3 : (sg b s != 0) = false := by rw [hq]; rfl
  unfold dvv
  rw [h1, h2, h3, ng_congr (sg_mod hs a), zr_congr (sg_mod hs a), sg_mod hs a]

theorem dvv_over {a b s : Int} (hs : Sz s) (hq : sg b s = -1) (hf : ft (-(sg a s)) s = false) : dvv a b s = .tuple #[.int .u32 (sg a s % W s), .agg #[.bool (ng (sg a s) s), .bool (zr (sg a s) s), .bool true, .bool false], .bool true] := by
  have h0 : sg b s ≠ 0 := by omega
  have h1 : dq a b s = -(sg a s) := by unfold dq; rw [if_neg h0, hq, Int.tdiv_neg, Int.tdiv_one]
  have h2 : dv a b s = true := by unfold dv; rw [h1, hf]; simp
  have h3 : (sg b s != 0) = true := by simp [h0]
  have h4 : -(sg a s) % W s = sg a s % W s := by
    have := sg_bound hs a
    unfold ft at hf
    have hf := of_decide_eq_false hf
    generalize sg a s = p at this hf ⊢
    rcases W_cases hs with k | k | k <;> rw [k] at this hf ⊢ <;> omega
  unfold dvv
  rw [h1, h2, h3, ng_congr h4, zr_congr h4, h4]

theorem dvv_plain {a b s : Int} (hs : Sz s) (hq : sg b s ≠ 0) (h : ft (-(sg a s)) s = true ∨ sg b s ≠ -1) : dvv a b s = .tuple #[.int .u32 ((sg a s).tdiv (sg b s) % W s), .agg #[.bool (ng ((sg a s).tdiv (sg b s)) s), .bool (zr ((sg a s).tdiv (sg b s)) s), .bool false, .bool false], .bool true] := by
  have h1 : dq a b s = (sg a s).tdiv (sg b s) := by unfold dq; rw [if_neg hq]
  have h2 : dv a b s = false := by unfold dv; rw [h1, ft_div hs (sg_bound hs a) hq h]; simp [hq]
  have h3 : (sg b s != 0) = true := by simp [hq]
  unfold dvv
  rw [h1, h2, h3]

theorem dvv_not {a b s : Int} (hq : sg b s ≠ 0) : dvv a b s = .tuple #[.int .u32 ((sg a s).tdiv (sg b s) % W s), .agg #[.bool (ng ((sg a s).tdiv (sg b s)) s), .bool (zr ((sg a s).tdiv (sg b s)) s), .bool (!ft ((sg a s).tdiv (sg b s)) s), .bool false], .bool true] := by
  have h1 : dq a b s = (sg a s).tdiv (sg b s) := by unfold dq; rw [if_neg hq]
  have h2 : dv a b s = !ft ((sg a s).tdiv (sg b s)) s := by unfold dv; rw [h1]; simp [hq]
  have h3 : (sg b s != 0) = true := by simp [hq]
  unfold dvv
  rw [h1, h2, h3]

set_option maxHeartbeats 400000 in
set_option maxRecDepth 100000 in
theorem div_zero (a b s : Int) (hs : Sz s) (ha : U a) (hb : U b) (hq : sg b s = 0) (w : World) :
    Calls Tryz.prog 223 #[.int .u32 a, .int .u32 b, .int .i64 s] w fun e w' => e = .returned (dvv a b s) ∧ Below w.heap.size w w' := by
  have HP := Lib.hid (dvv_zero (a := a) hs hq)
  have HM := Lib.hid (and_mask hs ha)
  have hq' : (sg b s == 0) = true := by rw [hq]; rfl
  clear hq
  go_enter Tryz.func223, Tryz.ntmps223
  go_wp2_with (first | (go_at_call 219; refine (signed_any _ _ hs (by assumption) _).mono ?_; rintro e w' ⟨rfl, rfl⟩) | fail)
  refine (signs_any _ _ hs ha _).mono ?_
  rintro e w1 ⟨rfl, hb1⟩
  obtain ⟨hc, hf⟩ := bcell hb1
  have hz : w.heap.size < w1.heap.size := by have := hb1.size; simp at this; omega
  go_wp2_with (first | (go_at_call 91; refine (mask_any _ hs _).mono ?_; rintro e w' ⟨rfl, rfl⟩) | fail)
  go_region_with (go_at_call 91; refine (mask_any _ hs _).mono ?_; rintro e w' ⟨rfl, rfl⟩)
  all_goals
    go_wp2
    rw [HM.out]
    exact bodyPost_ret (v := .tuple #[.int .u32 (a % W s), .agg #[.bool (ng a s), .bool (zr a s), .bool true, .bool false], .bool false]) (by simp [results, Tryz.results223, go_sem, hc, hz]) rfl ⟨by rw [HP.out], by
      refine Below.drew (Below.alloc ?_ (by simp; omega) _)
      iterate 4 refine Below.setCell ?_ (by simp) _
      exact ((Below.refl _ _).alloc (Nat.le_refl _) _).trans (hb1.mono (by simp))⟩

set_option maxHeartbeats 400000 in
set_option maxRecDepth 100000 in
theorem div_not (a b s : Int) (hs : Sz s) (ha : U a) (hb : U b) (hq : sg b s ≠ 0) (w : World) :
    Calls Tryz.prog 223 #[.int .u32 a, .int .u32 b, .int .i64 s] w fun e w' => e = .returned (dvv a b s) ∧ Below w.heap.size w w' := by
  have HP := Lib.hid (dvv_not (a := a) hq)
  have ba := sg_32 hs a
  have bb := sg_32 hs b
  have hd := tdiv_32 (y := sg b s) ba
  have hq' : (sg b s == 0) = false := by simp [hq]
  go_enter Tryz.func223, Tryz.ntmps223
  go_wp2_with (first | (go_at_call 219; refine (signed_any _ _ hs (by assumption) _).mono ?_; rintro e w' ⟨rfl, rfl⟩) | fail)
  refine (fit_any _ _ hs _).mono ?_
  rintro e w1 ⟨rfl, hb1⟩
  obtain ⟨hc, hf⟩ := bcell hb1
  have hz : w.heap.size < w1.heap.size := by have := hb1.size; simp at this; omega
  go_wp2
  go_region
  go_wp2
  exact bodyPost_ret (v := .tuple #[.int .u32 ((sg a s).tdiv (sg b s) % W s), .agg #[.bool (ng ((sg a s).tdiv (sg b s)) s), .bool (zr ((sg a s).tdiv (sg b s)) s), .bool (!ft ((sg a s).tdiv (sg b s)) s), .bool false], .bool true]) (by simp [results, Tryz.results223, go_sem, hc, hz]) rfl ⟨by rw [HP.out], by
    refine Below.drew (Below.alloc ?_ (by simp; omega) _)
    iterate 4 refine Below.setCell ?_ (by simp) _
    exact ((Below.refl _ _).alloc (Nat.le_refl _) _).trans (hb1.mono (by simp))⟩

theorem div_any (a b s : Int) (hs : Sz s) (ha : U a) (hb : U b) (w : World) :
    Calls Tryz.prog 223 #[.int .u32 a, .int .u32 b, .int .i64 s] w fun e w' => e = .returned (dvv a b s) ∧ Below w.heap.size w w' := by
  by_cases hq : sg b s = 0
  · exact div_zero a b s hs ha hb hq w
  · exact div_not a b s hs ha hb hq w











end Go.Proofs.YteohkobdmkbcpaaGreatDoor.Bt

/- What every law of layer 1 asks first. -/
namespace Go.Proofs.YteohkobdmkbcpaaGreatDoor.Bt
open Go.RowKit

theorem add_alive (w : World) :
    Calls Tryz.prog 173 #[.int .u32 127, .int .u32 1, .bool false, .int .i64 1] w fun e w' => e = .returned (.tuple #[.int .u32 128, .agg #[.bool true, .bool false, .bool true, .bool false]]) ∧ Below w.heap.size w w' :=
  (add_any 127 1 1 false (.inl rfl) ⟨by omega, by omega⟩ ⟨by omega, by omega⟩ w).mono fun _ _ h => ⟨h.1.trans rfl, h.2⟩



theorem U_of {x : Int} (h : (Lit.int .u32 x).wf = true) : U x := by
  have := bounds_u32 h
  exact ⟨by omega, by omega⟩

theorem below2 {w w1 w2 : World} (h : Below w.heap.size w w1) (k : Below w1.heap.size w1 w2) : Below w.heap.size w w2 := h.trans (k.mono h.size)
theorem below3 {w w1 w2 : World} {o : Obj} (h : Below w.heap.size w w1) (k : Below (w1.alloc o).heap.size (w1.alloc o) w2) : Below w.heap.size w w2 := below2 (h.alloc h.size o) k

end Go.Proofs.YteohkobdmkbcpaaGreatDoor.Bt

/- Regions whose order is left open, and whose operations read, call, and lay blocks of their own, walked once: the class of worlds 'nothing that was there has turned'. -/
namespace Go.Proofs.YteohkobdmkbcpaaGreatDoor.Bt
open Go.RowKit

/-- a world in which all of w is as it was -/
structure Later (w : World) where
  v : World
  h : Below w.heap.size w v

instance (w : World) : Inhabited (Later w) := ⟨⟨w, Below.refl _ _⟩⟩

theorem wp_region_later {P : Program} {id : Nat} {Q : Exit → Act → World → Prop} {a : Act} {w : World} {l : List Oper} (hm : P.follows .mixedOrders = true) (hB : Region.lexB .any l.toArray = true)
    (h : wpQuiet P l.toArray (fun w' => ∃ p : Later w, w' = p.v) (fun a' => ∀ w', (∃ p : Later w, w' = p.v) → Q .normal a' w') l a) : (Code.region id l.toArray true).wp P Q a w :=
  wp_region_quiet (C := fun w' => ∃ p : Later w, w' = p.v) hm hB ⟨⟨w.drew, (Below.refl _ _).drew⟩, rfl⟩ (by simpa using h)

/-- a callee that lays blocks of its own -/
theorem later_of {P : Program} {f : FuncId} {args : Array Value} {w : World} {p : Later w} {v : Value}
    (h : Calls P f args p.v fun e w' => e = .returned v ∧ Below p.v.heap.size p.v w') : Calls P f args p.v fun e w'' => e = .returned v ∧ ∃ q : Later w, w'' = q.v :=
  h.mono fun _ w' ⟨he, hb⟩ => ⟨he, ⟨w', p.h.trans (hb.mono p.h.size)⟩, rfl⟩

/-- a callee that lays none -/
theorem later_same {P : Program} {f : FuncId} {args : Array Value} {w : World} {p : Later w} {v : Value}
    (h : Calls P f args p.v fun e w' => e = .returned v ∧ p.v = w') : Calls P f args p.v fun e w'' => e = .returned v ∧ ∃ q : Later w, w'' = q.v :=
  h.mono fun _ _ ⟨he, hw⟩ => ⟨he, p, hw.symm⟩

/-- a cell that is there is there later -/
theorem later_cell {w : World} {b o : Nat} {v : Value} (e : w.cell? ⟨b, o, none⟩ = some v) (p : Later w) : p.v.cell? ⟨b, o, none⟩ = some v := by
  have hlt : b < w.heap.size := by
    by_cases hb : b < w.heap.size
    · exact hb
    · exfalso; simp [World.cell?, Array.getElem?_eq_none (Nat.le_of_not_lt hb)] at e
  rw [p.h.cell (p := ⟨b, o, none⟩) hlt]; exact e

end Go.Proofs.YteohkobdmkbcpaaGreatDoor.Bt
