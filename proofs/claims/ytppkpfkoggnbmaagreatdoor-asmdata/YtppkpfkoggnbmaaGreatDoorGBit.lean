import Derived.Laws.BitsAllLaws
import Derived.Test.YtppkpfkoggnbmaaGreatDoorRows
import Derived.WalkKit
import Derived.WalkLawsBesides
import Derived.Outline
import Derived.Lib.Hide

/- Plain arithmetic of numbers of one, two and four bytes: no program in sight. -/
namespace Go.Proofs.YtppkpfkoggnbmaaGreatDoor.Cs

/-- one of the three sizes -/
def Sz (s : Int) : Prop := s = 1 ∨ s = 2 ∨ s = 4
/-- how many numbers a size has -/
def W (s : Int) : Int := if s = 1 then 256 else if s = 2 then 65536 else 4294967296
/-- a number's rest, with its sign -/
def sg (x s : Int) : Int := if W s / 2 ≤ x % W s then x % W s - W s else x % W s
/-- a number fits its 32 bits -/
def U (x : Int) : Prop := 0 ≤ x ∧ x < 4294967296

theorem W1 : W 1 = 256 := rfl
theorem W2 : W 2 = 65536 := rfl
theorem W4 : W 4 = 4294967296 := rfl

theorem and_mask {x s : Int} (hs : Sz s) (h : U x) : bits .and .u32 x (W s - 1) = x % W s := by
  obtain ⟨h0, h1⟩ := h
  rcases hs with rfl | rfl | rfl
  · rw [W1, u32_and _ _ h0 h1 (by omega) (by omega)]
    show ((x.toNat &&& 255 : Nat) : Int) = _
    rw [nat_mask8]; omega
  · rw [W2, u32_and _ _ h0 h1 (by omega) (by omega)]
    show ((x.toNat &&& 65535 : Nat) : Int) = _
    rw [nat_mask16]; omega
  · rw [W4, u32_and _ _ h0 h1 (by omega) (by omega)]
    show ((x.toNat &&& 4294967295 : Nat) : Int) = _
    rw [show (4294967295 : Nat) = 2 ^ 32 - 1 from rfl, Nat.and_two_pow_sub_one_eq_mod]; omega

theorem and_top {x s : Int} (hs : Sz s) (h : U x) : bits .and .u32 x (W s / 2) = if W s / 2 ≤ x % W s then W s / 2 else 0 := by
  obtain ⟨h0, h1⟩ := h
  rcases hs with rfl | rfl | rfl
  · rw [W1, u32_and _ _ h0 h1 (by omega) (by omega)]
    show ((x.toNat &&& 2 ^ 7 : Nat) : Int) = _
    rw [nat_bit]; split <;> omega
  · rw [W2, u32_and _ _ h0 h1 (by omega) (by omega)]
    show ((x.toNat &&& 2 ^ 15 : Nat) : Int) = _
    rw [nat_bit]; split <;> omega
  · rw [W4, u32_and _ _ h0 h1 (by omega) (by omega)]
    show ((x.toNat &&& 2 ^ 31 : Nat) : Int) = _
    rw [nat_bit]; split <;> omega

theorem andNot_mask {x s : Int} (hs : Sz s) (h : U x) : bits .andNot .u32 x (W s - 1) = x - x % W s := by
  obtain ⟨h0, h1⟩ := h
  have key : ∀ (n i : Nat), n < 4294967296 → i ≤ 32 → n &&& (4294967295 - (2 ^ i - 1)) = n - n % 2 ^ i := by
    intro n i hn hi
    have e : 4294967295 - (2 ^ i - 1) = (2 ^ (32 - i) - 1) * 2 ^ i := by
      have hp : 2 ^ 32 = 2 ^ (32 - i) * 2 ^ i := by rw [← Nat.pow_add]; congr 1; omega
      rw [Nat.sub_mul, ← hp]; have := Nat.two_pow_pos i; omega
    have hd : n / 2 ^ i < 2 ^ (32 - i) := by
      rw [Nat.div_lt_iff_lt_mul (Nat.two_pow_pos i), ← Nat.pow_add]
      have : 32 - i + i = 32 := by omega
      rw [this]; omega
    apply Nat.eq_of_testBit_eq
    intro j
    rw [e, Nat.testBit_and]
    have e2 : n - n % 2 ^ i = (n / 2 ^ i) * 2 ^ i := by have := Nat.div_add_mod n (2 ^ i); rw [Nat.mul_comm] at this; omega
    rw [e2, Nat.testBit_mul_two_pow, Nat.testBit_mul_two_pow]
    by_cases hj : i ≤ j
    · simp only [hj, decide_true, Bool.true_and, Nat.testBit_two_pow_sub_one, Nat.testBit_div_two_pow]
      rw [Nat.sub_add_cancel hj]
      by_cases hk : j - i < 32 - i
      · simp [hk]
      · have : n.testBit j = false := Nat.testBit_lt_two_pow (Nat.lt_of_lt_of_le (by omega : n < 2 ^ 32) (Nat.pow_le_pow_right (by omega) (by omega)))
        simp [this]
    · simp [hj]
  rcases hs with rfl | rfl | rfl
  · rw [W1, u32_andNot _ _ h0 h1 (by omega) (by omega)]
    have := key x.toNat 8 (by omega) (by omega)
    show ((x.toNat &&& (4294967295 - (2 ^ 8 - 1)) : Nat) : Int) = _
    rw [this]; omega
  · rw [W2, u32_andNot _ _ h0 h1 (by omega) (by omega)]
    have := key x.toNat 16 (by omega) (by omega)
    show ((x.toNat &&& (4294967295 - (2 ^ 16 - 1)) : Nat) : Int) = _
    rw [this]; omega
  · rw [W4, u32_andNot _ _ h0 h1 (by omega) (by omega)]
    have := key x.toNat 32 (by omega) (by omega)
    show ((x.toNat &&& (4294967295 - (2 ^ 32 - 1)) : Nat) : Int) = _
    rw [this]; omega

/-- two numbers without a common bit, the one above, the other below a power of two -/
theorem or_join (i : Nat) (x y : Int) (hx : U x) (hy0 : 0 ≤ y) (hx2 : x % 2 ^ i = 0) (hy : y < 2 ^ i) (hU : U y) : bits .or .u32 x y = x + y := by
  rw [u32_or _ _ hx.1 hx.2 hU.1 hU.2]
  have e := nat_join i x.toNat y.toNat (by obtain ⟨n, rfl⟩ := Int.eq_ofNat_of_zero_le hx.1; simpa using (by exact_mod_cast hx2 : n % 2 ^ i = 0)) (by obtain ⟨n, rfl⟩ := Int.eq_ofNat_of_zero_le hy0; simpa using (by exact_mod_cast hy : n < 2 ^ i))
  have h1 := hx.1
  rw [e]; omega

theorem or_put {x y s : Int} (hs : Sz s) (hx : U x) : bits .or .u32 (x - x % W s) (y % W s) = x - x % W s + y % W s := by
  obtain ⟨h0, h1⟩ := hx
  rcases hs with rfl | rfl | rfl
  · rw [W1]; exact or_join 8 _ _ ⟨by omega, by omega⟩ (by omega) (by omega) (by omega) ⟨by omega, by omega⟩
  · rw [W2]; exact or_join 16 _ _ ⟨by omega, by omega⟩ (by omega) (by omega) (by omega) ⟨by omega, by omega⟩
  · rw [W4]; exact or_join 32 _ _ ⟨by omega, by omega⟩ (by omega) (by omega) (by omega) ⟨by omega, by omega⟩

end Go.Proofs.YtppkpfkoggnbmaaGreatDoor.Cs

/- Plain arithmetic, more: the answers of the calls, as functions of numbers. -/
namespace Go.Proofs.YtppkpfkoggnbmaaGreatDoor.Cs

/-- below nothing -/
def ng (x s : Int) : Bool := decide (W s / 2 ≤ x % W s)
/-- nothing -/
def zr (x s : Int) : Bool := x % W s == 0
/-- does a number with a sign fit -/
def ft (n s : Int) : Bool := decide (-(W s / 2) ≤ n ∧ n < W s / 2)
/-- what a carry counts -/
def bt (b : Bool) : Int := if b then 1 else 0
/-- with its sign, in 32 bits -/
def ex (x s : Int) : Int := sg x s % 4294967296

theorem W_cases {s : Int} (hs : Sz s) : W s = 256 ∨ W s = 65536 ∨ W s = 4294967296 := by
  rcases hs with rfl | rfl | rfl
  · exact .inl rfl
  · exact .inr (.inl rfl)
  · exact .inr (.inr rfl)

theorem bt_cases (b : Bool) : bt b = 0 ∨ bt b = 1 := by cases b <;> simp [bt]

theorem sg_bound {s : Int} (hs : Sz s) (x : Int) : -(W s / 2) ≤ sg x s ∧ sg x s < W s / 2 := by
  unfold sg
  rcases W_cases hs with h | h | h <;> rw [h] <;> split <;> omega

theorem sg_32 {s : Int} (hs : Sz s) (x : Int) : -2147483648 ≤ sg x s ∧ sg x s < 2147483648 := by
  have := sg_bound hs x
  rcases W_cases hs with h | h | h <;> rw [h] at this <;> omega

theorem sg_mod {s : Int} (hs : Sz s) (x : Int) : sg x s % W s = x % W s := by
  unfold sg
  rcases W_cases hs with h | h | h <;> rw [h] <;> split <;> omega

theorem rest_bound {s : Int} (hs : Sz s) (x : Int) : 0 ≤ x % W s ∧ x % W s < W s ∧ W s ≤ 4294967296 := by
  rcases W_cases hs with h | h | h <;> rw [h] <;> omega

theorem sg_of_mod {s : Int} (hs : Sz s) (n : Int) : sg (n % W s) s = sg n s := by
  unfold sg
  rcases W_cases hs with h | h | h <;> rw [h] <;> simp

theorem ng_of_mod {s : Int} (hs : Sz s) (n : Int) : ng (n % W s) s = ng n s := by
  unfold ng
  rcases W_cases hs with h | h | h <;> rw [h] <;> simp

theorem zr_of_mod {s : Int} (hs : Sz s) (n : Int) : zr (n % W s) s = zr n s := by
  unfold zr
  rcases W_cases hs with h | h | h <;> rw [h] <;> simp

/-- a number with a sign is that of its rest just if it fits -/
theorem sg_ft {s : Int} (hs : Sz s) (n : Int) : (sg n s != n) = !ft n s := by
  have : (sg n s = n) ↔ (-(W s / 2) ≤ n ∧ n < W s / 2) := by
    unfold sg
    rcases W_cases hs with h | h | h <;> rw [h] <;> split <;> omega
  unfold ft
  by_cases h : sg n s = n
  · simp only [h, bne_self_eq_false, decide_eq_true (this.1 h), Bool.not_true]
  · rw [decide_eq_false (fun k => h (this.2 k))]; simp [h]

theorem ng_sg {s : Int} (hs : Sz s) (x : Int) : ng x s = decide (sg x s < 0) := by
  unfold ng sg
  rcases W_cases hs with h | h | h <;> rw [h] <;> split <;> simp only [decide_eq_decide] <;> omega

theorem ex_pos {x s : Int} (hs : Sz s) (h : ng x s = true) : ex x s = 4294967296 - W s + x % W s := by
  unfold ng at h; unfold ex sg
  have h := of_decide_eq_true h
  rw [if_pos h]
  rcases W_cases hs with k | k | k <;> rw [k] at h ⊢ <;> omega

theorem ex_neg {x s : Int} (hs : Sz s) (h : ng x s = false) : ex x s = x % W s := by
  unfold ng at h; unfold ex sg
  have h := of_decide_eq_false h
  rw [if_neg h]
  rcases W_cases hs with k | k | k <;> rw [k] at h ⊢ <;> omega

theorem top_ng {x s : Int} (hs : Sz s) (h : U x) : (bits .and .u32 x (W s / 2) != 0) = ng x s := by
  rw [and_top hs h]; unfold ng
  by_cases k : W s / 2 ≤ x % W s
  · rw [if_pos k, decide_eq_true k]; rcases W_cases hs with j | j | j <;> rw [j] <;> rfl
  · rw [if_neg k, decide_eq_false k]; rfl

/-- what stands beyond a size, set -/
theorem or_high {x s : Int} (hs : Sz s) (h : U x) : bits .or .u32 x (bits .xor .u32 4294967295 (W s - 1)) = 4294967296 - W s + x % W s := by
  obtain ⟨h0, h1⟩ := h
  have key : ∀ (n i : Nat), n < 4294967296 → i ≤ 32 → n ||| (4294967296 - 2 ^ i) = 4294967296 - 2 ^ i + n % 2 ^ i := by
    intro n i hn hi
    have hp : 2 ^ 32 = 2 ^ (32 - i) * 2 ^ i := by rw [← Nat.pow_add]; congr 1; omega
    have e : 4294967296 - 2 ^ i = (2 ^ (32 - i) - 1) * 2 ^ i := by
      rw [Nat.sub_mul, ← hp]; omega
    have hlt : n % 2 ^ i < 2 ^ i := Nat.mod_lt _ (Nat.two_pow_pos i)
    rw [← nat_join i (4294967296 - 2 ^ i) (n % 2 ^ i) (by rw [e]; exact Nat.mul_mod_left _ _) hlt]
    apply Nat.eq_of_testBit_eq
    intro j
    rw [Nat.testBit_or, Nat.testBit_or, e, Nat.testBit_mul_two_pow, Nat.testBit_mod_two_pow, Nat.testBit_two_pow_sub_one]
    by_cases hj : i ≤ j
    · by_cases hk : j - i < 32 - i
      · simp [hj, hk]
      · have : n.testBit j = false := Nat.testBit_lt_two_pow (Nat.lt_of_lt_of_le (by omega : n < 2 ^ 32) (Nat.pow_le_pow_right (by omega) (by omega)))
        simp [this]
    · have hj' : j < i := by omega
      simp [hj, hj']
  rcases hs with rfl | rfl | rfl
  · have := key x.toNat 8 (by omega) (by omega)
    rw [W1, u32_xor _ _ (by omega) (by omega) (by omega) (by omega), u32_or _ _ h0 h1 (by decide) (by decide)]
    show ((x.toNat ||| (4294967296 - 2 ^ 8) : Nat) : Int) = _
    rw [this]; omega
  · have := key x.toNat 16 (by omega) (by omega)
    rw [W2, u32_xor _ _ (by omega) (by omega) (by omega) (by omega), u32_or _ _ h0 h1 (by decide) (by decide)]
    show ((x.toNat ||| (4294967296 - 2 ^ 16) : Nat) : Int) = _
    rw [this]; omega
  · have := key x.toNat 32 (by omega) (by omega)
    rw [W4, u32_xor _ _ (by omega) (by omega) (by omega) (by omega), u32_or _ _ h0 h1 (by decide) (by decide)]
    show ((x.toNat ||| (4294967296 - 2 ^ 32) : Nat) : Int) = _
    rw [this]; omega

/-- the 32 bits of ex, as a number with a sign -/
theorem i32_ex {s : Int} (hs : Sz s) (x : Int) : IntKind.i32.wrap (ex x s) = sg x s := by
  have := sg_32 hs x
  unfold ex
  simp [IntKind.wrap, IntKind.bits, IntKind.signed]
  omega

theorem mul_62 {x y : Int} (hx : -2147483648 ≤ x ∧ x < 2147483648) (hy : -2147483648 ≤ y ∧ y < 2147483648) : -4611686018427387904 ≤ x * y ∧ x * y ≤ 4611686018427387904 := by
  have h : (x * y).natAbs ≤ 2147483648 * 2147483648 := by
    rw [Int.natAbs_mul]; exact Nat.mul_le_mul (by omega) (by omega)
  omega

theorem tdiv_32 {x y : Int} (hx : -2147483648 ≤ x ∧ x < 2147483648) : -2147483648 ≤ x.tdiv y ∧ x.tdiv y ≤ 2147483648 := by
  have h : (x.tdiv y).natAbs ≤ 2147483648 := by
    rw [Int.natAbs_tdiv]; exact Nat.le_trans (Nat.div_le_self _ _) (by omega)
  omega

theorem mod_mod {s : Int} (hs : Sz s) (n : Int) : n % 4294967296 % W s = n % W s := by
  rcases W_cases hs with h | h | h <;> rw [h] <;> omega

theorem mod_self {s : Int} (hs : Sz s) (n : Int) : n % W s % W s = n % W s := by
  rcases W_cases hs with h | h | h <;> rw [h] <;> omega

end Go.Proofs.YtppkpfkoggnbmaaGreatDoor.Cs

/- Contracts of the leaves of package bits and of the document's own reckoning, at the three sizes. -/
namespace Go.Proofs.YtppkpfkoggnbmaaGreatDoor.Cs
open Go.RowKit

theorem ret_int {k : IntKind} {a b : Int} (h : a = b) : Ending.returned (.int k a) = .returned (.int k b) := by rw [h]
theorem ret_bool {a b : Bool} (h : a = b) : Ending.returned (.bool a) = .returned (.bool b) := by rw [h]

theorem w64 {n : Int} (h0 : -9223372036854775808 ≤ n) (h1 : n < 9223372036854775808) : wrap64 n = n := by unfold wrap64; omega
theorem w32_ex {s : Int} (hs : Sz s) (x : Int) : wrap32 (ex x s) = sg x s := by
  have := sg_32 hs x
  unfold wrap32 ex; omega
theorem w64_sg {s : Int} (hs : Sz s) (x : Int) : wrap64 (sg x s) = sg x s := by
  have := sg_32 hs x
  exact w64 (by omega) (by omega)
theorem w64_rest {s : Int} (hs : Sz s) (x : Int) : wrap64 (x % W s) = x % W s := by
  have := rest_bound hs x
  exact w64 (by omega) (by omega)

set_option maxHeartbeats 400000 in
set_option maxRecDepth 100000 in
theorem size_any (s : Int) (hs : Sz s) (w : World) :
    Calls Tryz.prog 62 #[.int .i64 s] w fun e w' => e = .returned (.bool true) ∧ w = w' := by
  rcases hs with rfl | rfl | rfl
  all_goals
    go_enter Tryz.func62, Tryz.ntmps62
    go_wp2
    go_ret
    exact ⟨rfl, rfl⟩

set_option maxHeartbeats 400000 in
set_option maxRecDepth 100000 in
theorem size_not (s : Int) (hs : ¬ Sz s) (w : World) :
    Calls Tryz.prog 62 #[.int .i64 s] w fun e w' => e = .returned (.bool false) ∧ w = w' := by
  have h1 : (s == 1) = false := by simp; intro h; exact hs (.inl h)
  have h2 : (s == 2) = false := by simp; intro h; exact hs (.inr (.inl h))
  have h4 : (s == 4) = false := by simp; intro h; exact hs (.inr (.inr h))
  clear hs
  go_enter Tryz.func62, Tryz.ntmps62
  go_wp2
  go_ret
  exact ⟨rfl, rfl⟩

set_option maxHeartbeats 400000 in
set_option maxRecDepth 100000 in
theorem mask_any (s : Int) (hs : Sz s) (w : World) :
    Calls Tryz.prog 112 #[.int .i64 s] w fun e w' => e = .returned (.int .u32 (W s - 1)) ∧ w = w' := by
  rcases hs with rfl | rfl | rfl
  all_goals
    go_enter Tryz.func112, Tryz.ntmps112
    go_wp2
    go_ret
    exact ⟨rfl, rfl⟩

set_option maxHeartbeats 400000 in
set_option maxRecDepth 100000 in
theorem top_any (s : Int) (hs : Sz s) (w : World) :
    Calls Tryz.prog 131 #[.int .i64 s] w fun e w' => e = .returned (.int .u32 (W s / 2)) ∧ w = w' := by
  rcases hs with rfl | rfl | rfl
  all_goals
    go_enter Tryz.func131, Tryz.ntmps131
    go_wp2
    go_ret
    exact ⟨rfl, rfl⟩

set_option maxHeartbeats 400000 in
set_option maxRecDepth 100000 in
theorem wide_any (s : Int) (hs : Sz s) (w : World) :
    Calls Tryz.prog 91 #[.int .i64 s] w fun e w' => e = .returned (.int .i64 (W s)) ∧ w = w' := by
  rcases hs with rfl | rfl | rfl
  all_goals
    go_enter Tryz.func91, Tryz.ntmps91
    go_wp2
    go_ret
    exact ⟨rfl, rfl⟩

set_option maxHeartbeats 400000 in
set_option maxRecDepth 100000 in
theorem neg_any (x s : Int) (hs : Sz s) (hx : U x) (w : World) :
    Calls Tryz.prog 111 #[.int .u32 x, .int .i64 s] w fun e w' => e = .returned (.bool (ng x s)) ∧ w = w' := by
  go_enter Tryz.func111, Tryz.ntmps111
  go_wp2_with (go_at_call 131; refine (top_any _ hs _).mono ?_; rintro e w' ⟨rfl, rfl⟩)
  go_ret
  exact ⟨ret_bool (top_ng hs hx), rfl⟩

set_option maxHeartbeats 400000 in
set_option maxRecDepth 100000 in
theorem extend_any (x s : Int) (hs : Sz s) (hx : U x) (w : World) :
    Calls Tryz.prog 86 #[.int .u32 x, .int .i64 s] w fun e w' => e = .returned (.int .u32 (ex x s)) ∧ w = w' := by
  by_cases hn : ng x s = true
  · have HE := Lib.hid (ex_pos hs hn)
    have HO := Lib.hid (or_high hs hx)
    go_enter Tryz.func86, Tryz.ntmps86
    go_wp2_with (first | (go_at_call 111; refine (neg_any _ _ hs hx _).mono ?_; rintro e w' ⟨rfl, rfl⟩) | (go_at_call 112; refine (mask_any _ hs _).mono ?_; rintro e w' ⟨rfl, rfl⟩))
    go_ret
    exact ⟨ret_int (by rw [HE.out]; exact HO.out), rfl⟩
  · have hn : ng x s = false := by simpa using hn
    have HE := Lib.hid (ex_neg hs hn)
    have HO := Lib.hid (and_mask hs hx)
    go_enter Tryz.func86, Tryz.ntmps86
    go_wp2_with (first | (go_at_call 111; refine (neg_any _ _ hs hx _).mono ?_; rintro e w' ⟨rfl, rfl⟩) | (go_at_call 112; refine (mask_any _ hs _).mono ?_; rintro e w' ⟨rfl, rfl⟩))
    go_ret
    exact ⟨ret_int (by rw [HE.out]; exact HO.out), rfl⟩


/-! the document's own -/
set_option maxHeartbeats 400000 in
set_option maxRecDepth 100000 in
theorem rest_any (x s : Int) (hs : Sz s) (hx : U x) (w : World) :
    Calls Tryz.prog 92 #[.int .u32 x, .int .i64 s] w fun e w' => e = .returned (.int .i64 (x % W s)) ∧ w = w' := by
  have hx' := hx
  obtain ⟨h0, h1⟩ := hx'
  have hW : 0 < W s := by rcases W_cases hs with h | h | h <;> omega
  have hW2 : W s ≤ 4294967296 := by rcases W_cases hs with h | h | h <;> omega
  go_enter Tryz.func92, Tryz.ntmps92
  go_wp2_with (go_at_call 91; refine (wide_any _ hs _).mono ?_; rintro e w' ⟨rfl, rfl⟩)
  go_ret
  exact ⟨rfl, rfl⟩

set_option maxHeartbeats 400000 in
set_option maxRecDepth 100000 in
theorem rsigned_any (x s : Int) (hs : Sz s) (hx : U x) (w : World) :
    Calls Tryz.prog 64 #[.int .u32 x, .int .i64 s] w fun e w' => e = .returned (.int .i64 (sg x s)) ∧ w = w' := by
  have hb := rest_bound hs x
  have hW : 256 ≤ W s := by rcases W_cases hs with h | h | h <;> omega
  by_cases hn : W s / 2 ≤ x % W s
  · have HE := Lib.hid (show sg x s = x % W s - W s by unfold sg; rw [if_pos hn])
    go_enter Tryz.func64, Tryz.ntmps64
    go_wp2_with (first | (go_at_call 92; refine (rest_any _ _ hs hx _).mono ?_; rintro e w' ⟨rfl, rfl⟩) | (go_at_call 91; refine (wide_any _ hs _).mono ?_; rintro e w' ⟨rfl, rfl⟩))
    go_ret
    exact ⟨ret_int HE.out.symm, rfl⟩
  · have HE := Lib.hid (show sg x s = x % W s by unfold sg; rw [if_neg hn])
    go_enter Tryz.func64, Tryz.ntmps64
    go_wp2_with (first | (go_at_call 92; refine (rest_any _ _ hs hx _).mono ?_; rintro e w' ⟨rfl, rfl⟩) | (go_at_call 91; refine (wide_any _ hs _).mono ?_; rintro e w' ⟨rfl, rfl⟩))
    go_ret
    exact ⟨ret_int HE.out.symm, rfl⟩

theorem tmod_neg {n m : Int} (h : n < 0) (hm : 0 < m) : n.tmod m = if n % m = 0 then 0 else n % m - m := by
  rw [Int.tmod_eq_emod]
  have : ¬ 0 ≤ n := by omega
  split <;> split <;> rename_i a b
  all_goals (have := Int.natAbs_of_nonneg (Int.le_of_lt hm); have hd := @Int.dvd_iff_emod_eq_zero m n; grind)

set_option maxHeartbeats 400000 in
set_option maxRecDepth 100000 in
theorem rbits_any (n s : Int) (hs : Sz s) (h0 : -9000000000000000000 ≤ n) (h1 : n < 9000000000000000000) (w : World) :
    Calls Tryz.prog 63 #[.int .i64 n, .int .i64 s] w fun e w' => e = .returned (.int .u32 (n % W s)) ∧ w = w' := by
  have hb := rest_bound hs n
  have hW : 256 ≤ W s := by rcases W_cases hs with h | h | h <;> omega
  by_cases hn : 0 ≤ n
  · go_enter Tryz.func63, Tryz.ntmps63
    go_wp2_with (go_at_call 91; refine (wide_any _ hs _).mono ?_; rintro e w' ⟨rfl, rfl⟩)
    go_ret
    exact ⟨rfl, rfl⟩
  · have ht := tmod_neg (m := W s) (by omega : n < 0) (by omega)
    by_cases hz : n % W s = 0
    · rw [if_pos hz] at ht
      go_enter Tryz.func63, Tryz.ntmps63
      go_wp2_with (go_at_call 91; refine (wide_any _ hs _).mono ?_; rintro e w' ⟨rfl, rfl⟩)
      go_ret
      exact ⟨ret_int hz.symm, rfl⟩
    · rw [if_neg hz] at ht
      go_enter Tryz.func63, Tryz.ntmps63
      go_wp2_with (go_at_call 91; refine (wide_any _ hs _).mono ?_; rintro e w' ⟨rfl, rfl⟩)
      go_ret
      exact ⟨rfl, rfl⟩

end Go.Proofs.YtppkpfkoggnbmaaGreatDoor.Cs
