/- Plain arithmetic, more: the answers of the calls, as functions of numbers. -/
import Derived.Test.YtpimfoejlfmimaaNum
namespace Go.Proofs.Ytpimfoejlfmimaa.Cs

/-- below nothing -/
def ng (x s : Int) : Bool := decide (W s / 2 ≤ x % W s)
/-- nothing -/
def zr (x s : Int) : Bool := x % W s == 0
/-- does a number with a sign fit -/
def ft (n s : Int) : Bool := decide (-(W s / 2) ≤ n ∧ n < W s / 2)
/-- what a carry counts -/
def bt (b : Bool) : Int := if b then 1 else 0
/-- with its sign, in 32 bits -/
def ex (x s : Int) : Int := sg x s % 4294967296

theorem W_cases {s : Int} (hs : Sz s) : W s = 256 ∨ W s = 65536 ∨ W s = 4294967296 := by
  rcases hs with rfl | rfl | rfl
  · exact .inl rfl
  · exact .inr (.inl rfl)
  · exact .inr (.inr rfl)

theorem bt_cases (b : Bool) : bt b = 0 ∨ bt b = 1 := by cases b <;> simp [bt]

theorem sg_bound {s : Int} (hs : Sz s) (x : Int) : -(W s / 2) ≤ sg x s ∧ sg x s < W s / 2 := by
  unfold sg
  rcases W_cases hs with h | h | h <;> rw [h] <;> split <;> omega

theorem sg_32 {s : Int} (hs : Sz s) (x : Int) : -2147483648 ≤ sg x s ∧ sg x s < 2147483648 := by
  have := sg_bound hs x
  rcases W_cases hs with h | h | h <;> rw [h] at this <;> omega

theorem sg_mod {s : Int} (hs : Sz s) (x : Int) : sg x s % W s = x % W s := by
  unfold sg
  rcases W_cases hs with h | h | h <;> rw [h] <;> split <;> omega

theorem rest_bound {s : Int} (hs : Sz s) (x : Int) : 0 ≤ x % W s ∧ x % W s < W s ∧ W s ≤ 4294967296 := by
  rcases W_cases hs with h | h | h <;> rw [h] <;> omega

theorem sg_of_mod {s : Int} (hs : Sz s) (n : Int) : sg (n % W s) s = sg n s := by
  unfold sg
  rcases W_cases hs with h | h | h <;> rw [h] <;> simp

theorem ng_of_mod {s : Int} (hs : Sz s) (n : Int) : ng (n % W s) s = ng n s := by
  unfold ng
  rcases W_cases hs with h | h | h <;> rw [h] <;> simp

theorem zr_of_mod {s : Int} (hs : Sz s) (n : Int) : zr (n % W s) s = zr n s := by
  unfold zr
  rcases W_cases hs with h | h | h <;> rw [h] <;> simp

/-- a number with a sign is that of its rest just if it fits -/
theorem sg_ft {s : Int} (hs : Sz s) (n : Int) : (sg n s != n) = !ft n s := by
  have : (sg n s = n) ↔ (-(W s / 2) ≤ n ∧ n < W s / 2) := by
    unfold sg
    rcases W_cases hs with h | h | h <;> rw [h] <;> split <;> omega
  unfold ft
  by_cases h : sg n s = n
  · simp only [h, bne_self_eq_false, decide_eq_true (this.1 h), Bool.not_true]
  · rw [decide_eq_false (fun k => h (this.2 k))]; simp [h]

theorem ng_sg {s : Int} (hs : Sz s) (x : Int) : ng x s = decide (sg x s < 0) := by
  unfold ng sg
  rcases W_cases hs with h | h | h <;> rw [h] <;> split <;> simp only [decide_eq_decide] <;> omega

theorem ex_pos {x s : Int} (hs : Sz s) (h : ng x s = true) : ex x s = 4294967296 - W s + x % W s := by
  unfold ng at h; unfold ex sg
  have h := of_decide_eq_true h
  rw [if_pos h]
  rcases W_cases hs with k | k | k <;> rw [k] at h ⊢ <;> omega

theorem ex_neg {x s : Int} (hs : Sz s) (h : ng x s = false) : ex x s = x % W s := by
  unfold ng at h; unfold ex sg
  have h := of_decide_eq_false h
  rw [if_neg h]
  rcases W_cases hs with k | k | k <;> rw [k] at h ⊢ <;> omega

theorem top_ng {x s : Int} (hs : Sz s) (h : U x) : (bits .and .u32 x (W s / 2) != 0) = ng x s := by
  rw [and_top hs h]; unfold ng
  by_cases k : W s / 2 ≤ x % W s
  · rw [if_pos k, decide_eq_true k]; rcases W_cases hs with j | j | j <;> rw [j] <;> rfl
  · rw [if_neg k, decide_eq_false k]; rfl

/-- what stands beyond a size, set -/
theorem or_high {x s : Int} (hs : Sz s) (h : U x) : bits .or .u32 x (bits .xor .u32 4294967295 (W s - 1)) = 4294967296 - W s + x % W s := by
  obtain ⟨h0, h1⟩ := h
  have key : ∀ (n i : Nat), n < 4294967296 → i ≤ 32 → n ||| (4294967296 - 2 ^ i) = 4294967296 - 2 ^ i + n % 2 ^ i := by
    intro n i hn hi
    have hp : 2 ^ 32 = 2 ^ (32 - i) * 2 ^ i := by rw [← Nat.pow_add]; congr 1; omega
    have e : 4294967296 - 2 ^ i = (2 ^ (32 - i) - 1) * 2 ^ i := by
      rw [Nat.sub_mul, ← hp]; omega
    have hlt : n % 2 ^ i < 2 ^ i := Nat.mod_lt _ (Nat.two_pow_pos i)
    rw [← nat_join i (4294967296 - 2 ^ i) (n % 2 ^ i) (by rw [e]; exact Nat.mul_mod_left _ _) hlt]
    apply Nat.eq_of_testBit_eq
    intro j
    rw [Nat.testBit_or, Nat.testBit_or, e, Nat.testBit_mul_two_pow, Nat.testBit_mod_two_pow, Nat.testBit_two_pow_sub_one]
    by_cases hj : i ≤ j
    · by_cases hk : j - i < 32 - i
      · simp [hj, hk]
      · have : n.testBit j = false := Nat.testBit_lt_two_pow (Nat.lt_of_lt_of_le (by omega : n < 2 ^ 32) (Nat.pow_le_pow_right (by omega) (by omega)))
        simp [this]
    · have hj' : j < i := by omega
      simp [hj, hj']
  rcases hs with rfl | rfl | rfl
  · have := key x.toNat 8 (by omega) (by omega)
    rw [W1, u32_xor _ _ (by omega) (by omega) (by omega) (by omega), u32_or _ _ h0 h1 (by decide) (by decide)]
    show ((x.toNat ||| (4294967296 - 2 ^ 8) : Nat) : Int) = _
    rw [this]; omega
  · have := key x.toNat 16 (by omega) (by omega)
    rw [W2, u32_xor _ _ (by omega) (by omega) (by omega) (by omega), u32_or _ _ h0 h1 (by decide) (by decide)]
    show ((x.toNat ||| (4294967296 - 2 ^ 16) : Nat) : Int) = _
    rw [this]; omega
  · have := key x.toNat 32 (by omega) (by omega)
    rw [W4, u32_xor _ _ (by omega) (by omega) (by omega) (by omega), u32_or _ _ h0 h1 (by decide) (by decide)]
    show ((x.toNat ||| (4294967296 - 2 ^ 32) : Nat) : Int) = _
    rw [this]; omega

/-- the 32 bits of ex, as a number with a sign -/
theorem i32_ex {s : Int} (hs : Sz s) (x : Int) : IntKind.i32.wrap (ex x s) = sg x s := by
  have := sg_32 hs x
  unfold ex
  simp [IntKind.wrap, IntKind.bits, IntKind.signed]
  omega

theorem mul_62 {x y : Int} (hx : -2147483648 ≤ x ∧ x < 2147483648) (hy : -2147483648 ≤ y ∧ y < 2147483648) : -4611686018427387904 ≤ x * y ∧ x * y ≤ 4611686018427387904 := by
  have h : (x * y).natAbs ≤ 2147483648 * 2147483648 := by
    rw [Int.natAbs_mul]; exact Nat.mul_le_mul (by omega) (by omega)
  omega

theorem tdiv_32 {x y : Int} (hx : -2147483648 ≤ x ∧ x < 2147483648) : -2147483648 ≤ x.tdiv y ∧ x.tdiv y ≤ 2147483648 := by
  have h : (x.tdiv y).natAbs ≤ 2147483648 := by
    rw [Int.natAbs_tdiv]; exact Nat.le_trans (Nat.div_le_self _ _) (by omega)
  omega

theorem mod_mod {s : Int} (hs : Sz s) (n : Int) : n % 4294967296 % W s = n % W s := by
  rcases W_cases hs with h | h | h <;> rw [h] <;> omega

theorem mod_self {s : Int} (hs : Sz s) (n : Int) : n % W s % W s = n % W s := by
  rcases W_cases hs with h | h | h <;> rw [h] <;> omega

end Go.Proofs.Ytpimfoejlfmimaa.Cs
