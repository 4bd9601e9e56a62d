/- Plain arithmetic of shifts, turns and fields: no program in sight. -/
import Derived.Test.YtfhhlieacmkheaaGBit
namespace Go.Proofs.Ytfhhlieacmkheaa.Cs

/-- a bit of a number -/
def bi (x : Int) (i : Nat) : Bool := x / 2 ^ i % 2 == 1

theorem pw (k : Nat) : (0 : Int) < 2 ^ k := Int.pow_pos (by omega)
theorem pw_le {a b : Nat} (h : a ≤ b) : (2 : Int) ^ a ≤ 2 ^ b := by
  have := Nat.pow_le_pow_right (n := 2) (by omega) h
  exact_mod_cast this
theorem bi_nat (n i : Nat) : bi (n : Int) i = n.testBit i := by
  have e : ((n : Int) / 2 ^ i % 2) = ((n / 2 ^ i % 2 : Nat) : Int) := by simp
  unfold bi
  rw [Nat.testBit_eq_decide_div_mod_eq, e, Bool.eq_iff_iff]
  simp only [beq_iff_eq, decide_eq_true_eq]
  omega
theorem bi_toNat {x : Int} (h : 0 ≤ x) (i : Nat) : bi x i = x.toNat.testBit i := by
  obtain ⟨n, rfl⟩ := Int.eq_ofNat_of_zero_le h
  exact bi_nat n i
theorem bi_ext {x y : Int} (hx : 0 ≤ x) (hy : 0 ≤ y) (h : ∀ i, bi x i = bi y i) : x = y := by
  obtain ⟨m, rfl⟩ := Int.eq_ofNat_of_zero_le hx
  obtain ⟨n, rfl⟩ := Int.eq_ofNat_of_zero_le hy
  congr 1
  exact Nat.eq_of_testBit_eq fun i => by rw [← bi_nat, ← bi_nat]; exact h i
theorem bi_div (x : Int) (n i : Nat) : bi (x / 2 ^ n) i = bi x (n + i) := by
  unfold bi
  rw [Int.ediv_ediv_of_nonneg (Int.le_of_lt (pw n)), ← Int.pow_add]
theorem bi_mul (x : Int) (n i : Nat) : bi (x * 2 ^ n) i = (decide (n ≤ i) && bi x (i - n)) := by
  by_cases h : n ≤ i
  · obtain ⟨j, rfl⟩ := Nat.exists_eq_add_of_le h
    rw [← bi_div, Int.mul_ediv_cancel _ (Int.ne_of_gt (pw n)), Nat.add_sub_cancel_left]
    simp
  · obtain ⟨j, rfl⟩ : ∃ j, n = i + 1 + j := ⟨n - (i + 1), by omega⟩
    have e : x * 2 ^ (i + 1 + j) = x * 2 ^ j * 2 * 2 ^ i := by
      rw [Int.pow_add, Int.pow_succ]
      simp only [Int.mul_assoc, Int.mul_comm, Int.mul_left_comm]
    unfold bi
    rw [e, Int.mul_ediv_cancel _ (Int.ne_of_gt (pw i))]
    simp [h]
theorem bi_mod (x : Int) (k i : Nat) : bi (x % 2 ^ k) i = (decide (i < k) && bi x i) := by
  have hp := pw k
  by_cases h : i < k
  · obtain ⟨j, rfl⟩ : ∃ j, k = i + 1 + j := ⟨k - (i + 1), by omega⟩
    have e : x % 2 ^ (i + 1 + j) = x + 2 ^ i * (2 * -(2 ^ j * (x / 2 ^ (i + 1 + j)))) := by
      have := Int.mul_ediv_add_emod x (2 ^ (i + 1 + j))
      have e2 : (2 : Int) ^ i * (2 * -(2 ^ j * (x / 2 ^ (i + 1 + j)))) = -(2 ^ (i + 1 + j) * (x / 2 ^ (i + 1 + j))) := by
        generalize x / 2 ^ (i + 1 + j) = q
        rw [Int.pow_add, Int.pow_succ]
        simp only [Int.mul_neg, Int.mul_assoc]
      omega
    unfold bi
    rw [e, Int.add_mul_ediv_left _ _ (Int.ne_of_gt (pw i))]
    simp [h]
  · have h0 := Int.emod_nonneg x (Int.ne_of_gt hp)
    have h1 := Int.emod_lt_of_pos x hp
    have h2 : x % 2 ^ k < 2 ^ i := Int.lt_of_lt_of_le h1 (pw_le (Nat.le_of_not_lt h))
    unfold bi
    rw [Int.ediv_eq_zero_of_lt h0 h2]
    simp [h]
theorem bi_lt {x : Int} {k i : Nat} (h0 : 0 ≤ x) (h1 : x < 2 ^ k) (h : k ≤ i) : bi x i = false := by
  rw [← Int.emod_eq_of_lt h0 h1, bi_mod]
  simp [Nat.not_lt.2 h]
theorem bi_zero (i : Nat) : bi 0 i = false := by unfold bi; simp
theorem bi_ones (k i : Nat) : bi (2 ^ k - 1) i = decide (i < k) := by
  have e : (2 : Int) ^ k - 1 = ((2 ^ k - 1 : Nat) : Int) := by
    have := Nat.two_pow_pos k
    rw [Int.natCast_sub this]; simp
  rw [e, bi_nat, Nat.testBit_two_pow_sub_one]
theorem U_pow {x : Int} (h : U x) : 0 ≤ x ∧ x < 2 ^ 32 := h
/-- bits of the number with its sign -/
theorem bi_sg {x : Int} (h : U x) (i : Nat) : bi (sg x 4) i = if i < 32 then bi x i else bi x 31 := by
  have h0 := h.1
  have h1 := h.2
  have hm : sg x 4 % 2 ^ 32 = x % 2 ^ 32 := sg_mod (.inr (.inr rfl)) x
  have hx : x % 2 ^ 32 = x := Int.emod_eq_of_lt h0 h1
  by_cases hi : i < 32
  · rw [if_pos hi]
    have := bi_mod (sg x 4) 32 i
    rw [hm, hx] at this
    rw [this, decide_eq_true hi, Bool.true_and]
  · rw [if_neg hi]
    have hd : sg x 4 / 2 ^ i = if 2147483648 ≤ x then -1 else 0 := by
      have hp : (2147483648 : Int) ≤ 2 ^ i := pw_le (by omega : 31 ≤ i)
      unfold sg
      rw [W4]
      have hx' : x % 4294967296 = x := hx
      rw [hx']
      have e : (4294967296 : Int) / 2 = 2147483648 := rfl
      rw [e]
      generalize (2 : Int) ^ i = p at *
      split
      · have hb := Int.mul_ediv_add_emod (x - 4294967296) p
        have hr := Int.emod_nonneg (x - 4294967296) (by omega : p ≠ 0)
        have hr2 := Int.emod_lt_of_pos (x - 4294967296) (by omega : 0 < p)
        rw [Int.ediv_eq_iff_of_pos (by omega)]
        omega
      · exact Int.ediv_eq_zero_of_lt (by omega) (by omega)
    unfold bi
    rw [hd]
    have e : (2 : Int) ^ 31 = 2147483648 := rfl
    rw [e]
    split
    · rw [show x / 2147483648 = 1 by omega]; rfl
    · rw [show x / 2147483648 = 0 by omega]

/-- turned up by k places -/
def rt (x : Int) (k : Nat) : Int := (((x * 2 ^ k % 4294967296).toNat ||| (x / 2 ^ (32 - k)).toNat : Nat) : Int)
theorem rt_parts {x : Int} (h : U x) {k : Nat} (hk : k ≤ 32) : 0 ≤ x / 2 ^ (32 - k) ∧ x / 2 ^ (32 - k) < 2 ^ k := by
  refine ⟨Int.ediv_nonneg h.1 (Int.le_of_lt (pw _)), ?_⟩
  refine Int.ediv_lt_of_lt_mul (pw _) ?_
  rw [← Int.pow_add, show k + (32 - k) = 32 by omega]
  exact h.2
theorem rt_bi {x : Int} (h : U x) {k : Nat} (hk : k < 32) (i : Nat) : bi (rt x k) i = (decide (i < 32) && bi x ((i + (32 - k)) % 32)) := by
  have hp := rt_parts h (Nat.le_of_lt hk)
  have hm : 0 ≤ x * 2 ^ k % 4294967296 := by omega
  unfold rt
  rw [bi_nat, Nat.testBit_or, ← bi_toNat hm, ← bi_toNat hp.1, bi_div]
  have e : (4294967296 : Int) = 2 ^ 32 := rfl
  rw [e, bi_mod, bi_mul]
  by_cases hi : i < 32
  · by_cases hki : k ≤ i
    · rw [bi_lt (U_pow h).1 (U_pow h).2 (by omega : 32 ≤ 32 - k + i), show (i + (32 - k)) % 32 = i - k by omega]
      simp [hi, hki]
    · rw [show (i + (32 - k)) % 32 = 32 - k + i by omega]
      simp [hi, hki]
  · rw [bi_lt (U_pow h).1 (U_pow h).2 (by omega : 32 ≤ 32 - k + i)]
    simp [hi]
theorem rt_U {x : Int} (h : U x) {k : Nat} (hk : k ≤ 32) : U (rt x k) := by
  have hp := rt_parts h hk
  have : (2 : Int) ^ k ≤ 4294967296 := pw_le hk
  have hl : (x * 2 ^ k % 4294967296).toNat ||| (x / 2 ^ (32 - k)).toNat < 2 ^ 32 := Nat.or_lt_two_pow (by omega) (by omega)
  unfold rt
  exact ⟨by omega, by omega⟩
theorem rt_rt {x : Int} (h : U x) {a b : Nat} (ha : a < 32) (hb : b < 32) : rt (rt x a) b = rt x ((a + b) % 32) := by
  have hu := rt_U h (Nat.le_of_lt ha)
  refine bi_ext (rt_U hu (Nat.le_of_lt hb)).1 (rt_U h (by omega)).1 fun i => ?_
  rw [rt_bi hu hb, rt_bi h ha, rt_bi h (Nat.mod_lt _ (by omega))]
  by_cases hi : i < 32
  · have e : ((i + (32 - b)) % 32 + (32 - a)) % 32 = (i + (32 - (a + b) % 32)) % 32 := by omega
    rw [e]
    simp [hi, Nat.mod_lt]
  · simp [hi]
theorem rt_0 {x : Int} (h : U x) : rt x 0 = x := by
  refine bi_ext (rt_U h (by omega)).1 h.1 fun i => ?_
  rw [rt_bi h (by omega)]
  by_cases hi : i < 32
  · rw [show (i + (32 - 0)) % 32 = i by omega]; simp [hi]
  · rw [bi_lt (U_pow h).1 (U_pow h).2 (by omega : 32 ≤ i)]; simp [hi]
theorem rt_1 {x : Int} (h : U x) : x * 2 % 4294967296 + x / 2147483648 = rt x 1 := by
  have h0 := h.1
  have h1 := h.2
  unfold rt
  rw [nat_join 1 _ _ (by omega) (by omega)]
  have e1 : (2 : Int) ^ 1 = 2 := rfl
  have e2 : (2 : Int) ^ (32 - 1) = 2147483648 := rfl
  rw [e1, e2]
  omega
theorem rt_step {x : Int} (h : U x) {k : Nat} (hk : k < 31) : rt x k * 2 % 4294967296 + rt x k / 2147483648 = rt x (k + 1) := by
  rw [rt_1 (rt_U h (by omega)), rt_rt h (by omega) (by omega), Nat.mod_eq_of_lt (by omega)]

/-- how many of the first n bits are set -/
def cnt (x : Int) : Nat → Int
  | 0 => 0
  | n + 1 => cnt x n + bt (bi x n)
theorem cnt_succ (x : Int) (n : Nat) : cnt x (n + 1) = cnt x n + bt (bi x n) := rfl
theorem cnt_zero (x : Int) : cnt x 0 = 0 := rfl
theorem cnt_bound (x : Int) (n : Nat) : 0 ≤ cnt x n ∧ cnt x n ≤ n := by
  induction n with
  | zero => exact ⟨by simp [cnt], by simp [cnt]⟩
  | succ n ih =>
    have := bt_cases (bi x n)
    simp only [cnt]
    omega
theorem cnt_rt {x : Int} (h : U x) {k : Nat} (hk : k < 32) : cnt (rt x k) 32 = cnt x 32 := by
  have low : ∀ i, i ≤ k → cnt (rt x k) i = cnt x (32 - k + i) - cnt x (32 - k) := by
    intro i hi
    induction i with
    | zero => simp [cnt]
    | succ i ih =>
      have e := ih (by omega)
      rw [cnt_succ, e, rt_bi h hk, show (i + (32 - k)) % 32 = 32 - k + i by omega, show 32 - k + (i + 1) = 32 - k + i + 1 by omega, cnt_succ, decide_eq_true (by omega : i < 32), Bool.true_and]
      omega
  have high : ∀ i, k + i ≤ 32 → cnt (rt x k) (k + i) = cnt x 32 - cnt x (32 - k) + cnt x i := by
    intro i hi
    induction i with
    | zero =>
      have e := low k (Nat.le_refl _)
      rw [show 32 - k + k = 32 by omega] at e
      rw [Nat.add_zero, cnt_zero, e]; omega
    | succ i ih =>
      have e := ih (by omega)
      rw [show k + (i + 1) = k + i + 1 by omega, cnt_succ (rt x k), cnt_succ x i, e, rt_bi h hk, show (k + i + (32 - k)) % 32 = i by omega, decide_eq_true (by omega : k + i < 32), Bool.true_and]
      omega
  have e := high (32 - k) (by omega)
  rw [show k + (32 - k) = 32 by omega] at e
  rw [e]; omega

end Go.Proofs.Ytfhhlieacmkheaa.Cs
