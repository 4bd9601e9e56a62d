import Derived.Test.YteohkobdmkbcpaaGreatDoorGBit

/- Plain arithmetic of shifts, turns and fields: no program in sight. -/
namespace Go.Proofs.YteohkobdmkbcpaaGreatDoor.Bt.Sh

/-- a bit of a number -/
def bi (x : Int) (i : Nat) : Bool := x / 2 ^ i % 2 == 1

theorem pw (k : Nat) : (0 : Int) < 2 ^ k := Int.pow_pos (by omega)
theorem pw_le {a b : Nat} (h : a ≤ b) : (2 : Int) ^ a ≤ 2 ^ b := by
  have := Nat.pow_le_pow_right (n := 2) (by omega) h
  exact_mod_cast this
theorem bi_nat (n i : Nat) : bi (n : Int) i = n.testBit i := by
  have e : ((n : Int) / 2 ^ i % 2) = ((n / 2 ^ i % 2 : Nat) : Int) := by simp
  unfold bi
  rw [Nat.testBit_eq_decide_div_mod_eq, e, Bool.eq_iff_iff]
  simp only [beq_iff_eq, decide_eq_true_eq]
  omega
theorem bi_toNat {x : Int} (h : 0 ≤ x) (i : Nat) : bi x i = x.toNat.testBit i := by
  obtain ⟨n, rfl⟩ := Int.eq_ofNat_of_zero_le h
  exact bi_nat n i
theorem bi_ext {x y : Int} (hx : 0 ≤ x) (hy : 0 ≤ y) (h : ∀ i, bi x i = bi y i) : x = y := by
  obtain ⟨m, rfl⟩ := Int.eq_ofNat_of_zero_le hx
  obtain ⟨n, rfl⟩ := Int.eq_ofNat_of_zero_le hy
  congr 1
  exact Nat.eq_of_testBit_eq fun i => by rw [← bi_nat, ← bi_nat]; exact h i
theorem bi_div (x : Int) (n i : Nat) : bi (x / 2 ^ n) i = bi x (n + i) := by
  unfold bi
  rw [Int.ediv_ediv_of_nonneg (Int.le_of_lt (pw n)), ← Int.pow_add]
theorem bi_mul (x : Int) (n i : Nat) : bi (x * 2 ^ n) i = (decide (n ≤ i) && bi x (i - n)) := by
  by_cases h : n ≤ i
  · obtain ⟨j, rfl⟩ := Nat.exists_eq_add_of_le h
    rw [← bi_div, Int.mul_ediv_cancel _ (Int.ne_of_gt (pw n)), Nat.add_sub_cancel_left]
    simp
  · obtain ⟨j, rfl⟩ : ∃ j, n = i + 1 + j := ⟨n - (i + 1), by omega⟩
    have e : x * 2 ^ (i + 1 + j) = x * 2 ^ j * 2 * 2 ^ i := by
      rw [Int.pow_add, Int.pow_succ]
      simp only [Int.mul_assoc, Int.mul_comm, Int.mul_left_comm]
    unfold bi
    rw [e, Int.mul_ediv_cancel _ (Int.ne_of_gt (pw i))]
    simp [h]
theorem bi_mod (x : Int) (k i : Nat) : bi (x % 2 ^ k) i = (decide (i < k) && bi x i) := by
  have hp := pw k
  by_cases h : i < k
  · obtain ⟨j, rfl⟩ : ∃ j, k = i + 1 + j := ⟨k - (i + 1), by omega⟩
    have e : x % 2 ^ (i + 1 + j) = x + 2 ^ i * (2 * -(2 ^ j * (x / 2 ^ (i + 1 + j)))) := by
      have := Int.mul_ediv_add_emod x (2 ^ (i + 1 + j))
      have e2 : (2 : Int) ^ i * (2 * -(2 ^ j * (x / 2 ^ (i + 1 + j)))) = -(2 ^ (i + 1 + j) * (x / 2 ^ (i + 1 + j))) := by
        generalize x / 2 ^ (i + 1 + j) = q
        rw [Int.pow_add, Int.pow_succ]
        simp only [Int.mul_neg, Int.mul_assoc]
      omega
    unfold bi
    rw [e, Int.add_mul_ediv_left _ _ (Int.ne_of_gt (pw i))]
    simp [h]
  · have h0 := Int.emod_nonneg x (Int.ne_of_gt hp)
    have h1 := Int.emod_lt_of_pos x hp
    have h2 : x % 2 ^ k < 2 ^ i := Int.lt_of_lt_of_le h1 (pw_le (Nat.le_of_not_lt h))
    unfold bi
    rw [Int.ediv_eq_zero_of_lt h0 h2]
    simp [h]
theorem bi_lt {x : Int} {k i : Nat} (h0 : 0 ≤ x) (h1 : x < 2 ^ k) (h : k ≤ i) : bi x i = false := by
  rw [← Int.emod_eq_of_lt h0 h1, bi_mod]
  simp [Nat.not_lt.2 h]
theorem bi_zero (i : Nat) : bi 0 i = false := by unfold bi; simp
theorem bi_ones (k i : Nat) : bi (2 ^ k - 1) i = decide (i < k) := by
  have e : (2 : Int) ^ k - 1 = ((2 ^ k - 1 : Nat) : Int) := by
    have := Nat.two_pow_pos k
    rw [Int.natCast_sub this]; simp
  rw [e, bi_nat, Nat.testBit_two_pow_sub_one]
theorem U_pow {x : Int} (h : U x) : 0 ≤ x ∧ x < 2 ^ 32 := h
/-- bits of the number with its sign -/
theorem bi_sg {x : Int} (h : U x) (i : Nat) : bi (sg x 4) i = if i < 32 then bi x i else bi x 31 := by
  have h0 := h.1
  have h1 := h.2
  have hm : sg x 4 % 2 ^ 32 = x % 2 ^ 32 := sg_mod (.inr (.inr rfl)) x
  have hx : x % 2 ^ 32 = x := Int.emod_eq_of_lt h0 h1
  by_cases hi : i < 32
  · rw [if_pos hi]
    have := bi_mod (sg x 4) 32 i
    rw [hm, hx] at this
    rw [this, decide_eq_true hi, Bool.true_and]
  · rw [if_neg hi]
    have hd : sg x 4 / 2 ^ i = if 2147483648 ≤ x then -1 else 0 := by
      have hp : (2147483648 : Int) ≤ 2 ^ i := pw_le (by omega : 31 ≤ i)
      unfold sg
      rw [W4]
      have hx' : x % 4294967296 = x := hx
      rw [hx']
      have e : (4294967296 : Int) / 2 = 2147483648 := rfl
      rw [e]
      generalize (2 : Int) ^ i = p at *
      split
      · have hb := Int.mul_ediv_add_emod (x - 4294967296) p
        have hr := Int.emod_nonneg (x - 4294967296) (by omega : p ≠ 0)
        have hr2 := Int.emod_lt_of_pos (x - 4294967296) (by omega : 0 < p)
        rw [Int.ediv_eq_iff_of_pos (by omega)]
        omega
      · exact Int.ediv_eq_zero_of_lt (by omega) (by omega)
    unfold bi
    rw [hd]
    have e : (2 : Int) ^ 31 = 2147483648 := rfl
    rw [e]
    split
    · rw [show x / 2147483648 = 1 by omega]; rfl
    · rw [show x / 2147483648 = 0 by omega]

/-- turned up by k places -/
def rt (x : Int) (k : Nat) : Int := (((x * 2 ^ k % 4294967296).toNat ||| (x / 2 ^ (32 - k)).toNat : Nat) : Int)
theorem rt_parts {x : Int} (h : U x) {k : Nat} (hk : k ≤ 32) : 0 ≤ x / 2 ^ (32 - k) ∧ x / 2 ^ (32 - k) < 2 ^ k := by
  refine ⟨Int.ediv_nonneg h.1 (Int.le_of_lt (pw _)), ?_⟩
  refine Int.ediv_lt_of_lt_mul (pw _) ?_
  rw [← Int.pow_add, show k + (32 - k) = 32 by omega]
  exact h.2
theorem rt_bi {x : Int} (h : U x) {k : Nat} (hk : k < 32) (i : Nat) : bi (rt x k) i = (decide (i < 32) && bi x ((i + (32 - k)) % 32)) := by
  have hp := rt_parts h (Nat.le_of_lt hk)
  have hm : 0 ≤ x * 2 ^ k % 4294967296 := by omega
  unfold rt
  rw [bi_nat, Nat.testBit_or, ← bi_toNat hm, ← bi_toNat hp.1, bi_div]
  have e : (4294967296 : Int) = 2 ^ 32 := rfl
  rw [e, bi_mod, bi_mul]
  by_cases hi : i < 32
  · by_cases hki : k ≤ i
    · rw [bi_lt (U_pow h).1 (U_pow h).2 (by omega : 32 ≤ 32 - k + i), show (i + (32 - k)) % 32 = i - k by omega]
      simp [hi, hki]
    · rw [show (i + (32 - k)) % 32 = 32 - k + i by omega]
      simp [hi, hki]
  · rw [bi_lt (U_pow h).1 (U_pow h).2 (by omega : 32 ≤ 32 - k + i)]
    simp [hi]
theorem rt_U {x : Int} (h : U x) {k : Nat} (hk : k ≤ 32) : U (rt x k) := by
  have hp := rt_parts h hk
  have : (2 : Int) ^ k ≤ 4294967296 := pw_le hk
  have hl : (x * 2 ^ k % 4294967296).toNat ||| (x / 2 ^ (32 - k)).toNat < 2 ^ 32 := Nat.or_lt_two_pow (by omega) (by omega)
  unfold rt
  exact ⟨by omega, by omega⟩
theorem rt_rt {x : Int} (h : U x) {a b : Nat} (ha : a < 32) (hb : b < 32) : rt (rt x a) b = rt x ((a + b) % 32) := by
  have hu := rt_U h (Nat.le_of_lt ha)
  refine bi_ext (rt_U hu (Nat.le_of_lt hb)).1 (rt_U h (by omega)).1 fun i => ?_
  rw [rt_bi hu hb, rt_bi h ha, rt_bi h (Nat.mod_lt _ (by omega))]
  by_cases hi : i < 32
  · have e : ((i + (32 - b)) % 32 + (32 - a)) % 32 = (i + (32 - (a + b) % 32)) % 32 := by omega
    rw [e]
    simp [hi, Nat.mod_lt]
  · simp [hi]
theorem rt_0 {x : Int} (h : U x) : rt x 0 = x := by
  refine bi_ext (rt_U h (by omega)).1 h.1 fun i => ?_
  rw [rt_bi h (by omega)]
  by_cases hi : i < 32
  · rw [show (i + (32 - 0)) % 32 = i by omega]; simp [hi]
  · rw [bi_lt (U_pow h).1 (U_pow h).2 (by omega : 32 ≤ i)]; simp [hi]
theorem rt_1 {x : Int} (h : U x) : x * 2 % 4294967296 + x / 2147483648 = rt x 1 := by
  have h0 := h.1
  have h1 := h.2
  unfold rt
  rw [nat_join 1 _ _ (by omega) (by omega)]
  have e1 : (2 : Int) ^ 1 = 2 := rfl
  have e2 : (2 : Int) ^ (32 - 1) = 2147483648 := rfl
  rw [e1, e2]
  omega
theorem rt_step {x : Int} (h : U x) {k : Nat} (hk : k < 31) : rt x k * 2 % 4294967296 + rt x k / 2147483648 = rt x (k + 1) := by
  rw [rt_1 (rt_U h (by omega)), rt_rt h (by omega) (by omega), Nat.mod_eq_of_lt (by omega)]

/-- how many of the first n bits are set -/
def cnt (x : Int) : Nat → Int
  | 0 => 0
  | n + 1 => cnt x n + bt (bi x n)
theorem cnt_succ (x : Int) (n : Nat) : cnt x (n + 1) = cnt x n + bt (bi x n) := rfl
theorem cnt_zero (x : Int) : cnt x 0 = 0 := rfl
theorem cnt_bound (x : Int) (n : Nat) : 0 ≤ cnt x n ∧ cnt x n ≤ n := by
  induction n with
  | zero => exact ⟨by simp [cnt], by simp [cnt]⟩
  | succ n ih =>
    have := bt_cases (bi x n)
    simp only [cnt]
    omega
theorem cnt_rt {x : Int} (h : U x) {k : Nat} (hk : k < 32) : cnt (rt x k) 32 = cnt x 32 := by
  have low : ∀ i, i ≤ k → cnt (rt x k) i = cnt x (32 - k + i) - cnt x (32 - k) := by
    intro i hi
    induction i with
    | zero => simp [cnt]
    | succ i ih =>
      have e := ih (by omega)
      rw [cnt_succ, e, rt_bi h hk, show (i + (32 - k)) % 32 = 32 - k + i by omega, show 32 - k + (i + 1) = 32 - k + i + 1 by omega, cnt_succ, decide_eq_true (by omega : i < 32), Bool.true_and]
      omega
  have high : ∀ i, k + i ≤ 32 → cnt (rt x k) (k + i) = cnt x 32 - cnt x (32 - k) + cnt x i := by
    intro i hi
    induction i with
    | zero =>
      have e := low k (Nat.le_refl _)
      rw [show 32 - k + k = 32 by omega] at e
      rw [Nat.add_zero, cnt_zero, e]; omega
    | succ i ih =>
      have e := ih (by omega)
      rw [show k + (i + 1) = k + i + 1 by omega, cnt_succ (rt x k), cnt_succ x i, e, rt_bi h hk, show (k + i + (32 - k)) % 32 = i by omega, decide_eq_true (by omega : k + i < 32), Bool.true_and]
      omega
  have e := high (32 - k) (by omega)
  rw [show k + (32 - k) = 32 by omega] at e
  rw [e]; omega

end Go.Proofs.YteohkobdmkbcpaaGreatDoor.Bt.Sh

/- Plain arithmetic of shifts and fields, more: no program in sight. -/
namespace Go.Proofs.YteohkobdmkbcpaaGreatDoor.Bt.Sh

theorem z4 : Sz 4 := .inr (.inr rfl)
theorem z1 : Sz 1 := .inl rfl

/-- shifted up by k, with a sign -/
def up (v : Int) (k : Nat) : Int := sg (v * 2 ^ k) 4
/-- what doesn't fit -/
def ov (v : Int) (k : Nat) : Bool := !ft (v * 2 ^ k) 4

theorem ft_iff (n : Int) : ft n 4 = true ↔ (-2147483648 ≤ n ∧ n < 2147483648) := by
  unfold ft; rw [W4, decide_eq_true_iff]; omega
theorem ft_not (n : Int) : ft n 4 = false ↔ (n < -2147483648 ∨ 2147483648 ≤ n) := by
  unfold ft; rw [W4, decide_eq_false_iff_not]; omega
theorem sg_fit {n : Int} (h : ft n 4 = true) : sg n 4 = n := by
  have := sg_ft z4 n
  rw [h] at this; simpa using this
theorem sg_mul2 (n : Int) : sg (2 * sg n 4) 4 = sg (2 * n) 4 := by
  rw [← sg_of_mod z4 (2 * sg n 4), ← sg_of_mod z4 (2 * n)]
  have := sg_mod z4 n
  rw [W4] at *
  congr 1; omega
theorem up_0 {v : Int} (h : -2147483648 ≤ v ∧ v < 2147483648) : up v 0 = v := by
  unfold up
  rw [show v * 2 ^ 0 = v by simp]
  exact sg_fit ((ft_iff v).2 h)
theorem ov_0 {v : Int} (h : -2147483648 ≤ v ∧ v < 2147483648) : ov v 0 = false := by
  unfold ov
  rw [show v * 2 ^ 0 = v by simp, (ft_iff v).2 h]; rfl
theorem pow_one_more (v : Int) (k : Nat) : v * 2 ^ (k + 1) = 2 * (v * 2 ^ k) := by
  rw [Int.pow_succ, ← Int.mul_assoc, Int.mul_comm]
theorem up_step (v : Int) (k : Nat) : sg (2 * up v k) 4 = up v (k + 1) := by
  unfold up
  rw [pow_one_more, sg_mul2]
theorem up_fit {v : Int} {k : Nat} (h : ft (2 * up v k) 4 = true) : 2 * up v k = up v (k + 1) := by
  rw [← up_step, sg_fit h]
theorem ov_step (v : Int) (k : Nat) : ov v (k + 1) = (ov v k || !ft (2 * up v k) 4) := by
  unfold ov up
  rw [pow_one_more]
  cases h : ft (v * 2 ^ k) 4
  · rw [ft_not] at h
    have : ft (2 * (v * 2 ^ k)) 4 = false := by rw [ft_not]; omega
    rw [this]; rfl
  · rw [sg_fit h]; rfl
theorem up_32 (v : Int) (k : Nat) (h : 32 ≤ k) : up v k = 0 := by
  unfold up
  rw [← sg_of_mod z4]
  obtain ⟨j, rfl⟩ := Nat.exists_eq_add_of_le h
  rw [Int.pow_add, ← Int.mul_assoc, Int.mul_comm v, Int.mul_assoc, show (2 : Int) ^ 32 = W 4 from rfl, Int.mul_emod_right]
  rfl
theorem ov_32 {v : Int} (h : v ≠ 0) {k : Nat} (hk : 32 ≤ k) : ov v k = true := by
  unfold ov
  have hp : (4294967296 : Int) ≤ 2 ^ k := pw_le hk
  generalize (2 : Int) ^ k = p at *
  have : ft (v * p) 4 = false := by
    rw [ft_not]
    rcases Int.lt_or_gt_of_ne h with h | h
    · left
      have : v * p ≤ -1 * p := Int.mul_le_mul_of_nonneg_right (by omega) (by omega)
      omega
    · right
      have : 1 * p ≤ v * p := Int.mul_le_mul_of_nonneg_right (by omega) (by omega)
      omega
  rw [this]; rfl
theorem ov_zero (k : Nat) : ov 0 k = false := by
  unfold ov; rw [Int.zero_mul]; rfl
/-- what was shifted up and is shifted down again is another number just if it didn't fit -/
theorem back_ov (v : Int) {k : Nat} (hk : k ≤ 32) : (up v k / 2 ^ k != v) = ov v k := by
  have hp := pw k
  have hp2 : (2 : Int) ^ k ≤ 4294967296 := pw_le hk
  unfold up ov
  cases h : ft (v * 2 ^ k) 4
  · have hm := sg_mod z4 (v * 2 ^ k)
    have hb := sg_ft z4 (v * 2 ^ k)
    rw [h] at hb
    have hb : sg (v * 2 ^ k) 4 ≠ v * 2 ^ k := by simpa using hb
    rw [W4] at hm
    have : ¬ sg (v * 2 ^ k) 4 / 2 ^ k = v := by
      intro he
      rw [Int.ediv_eq_iff_of_pos hp] at he
      have e2 : (v + 1) * 2 ^ k = v * 2 ^ k + 2 ^ k := by rw [Int.add_mul, Int.one_mul]
      generalize (2 : Int) ^ k = p at *
      generalize sg (v * p) 4 = s at *
      generalize v * p = t at *
      omega
    simp [this]
  · rw [sg_fit h, Int.mul_ediv_cancel _ (Int.ne_of_gt hp)]
    simp
theorem up_min (v : Int) (k : Nat) : up v (min k 32) = up v k := by
  by_cases h : k ≤ 32
  · rw [Nat.min_eq_left h]
  · rw [Nat.min_eq_right (by omega), up_32 v 32 (by omega), up_32 v k (by omega)]
theorem ov_min (v : Int) (k : Nat) : ov v (min k 32) = ov v k := by
  by_cases h : k ≤ 32
  · rw [Nat.min_eq_left h]
  · rw [Nat.min_eq_right (by omega)]
    by_cases hv : v = 0
    · subst hv; rw [ov_zero, ov_zero]
    · rw [ov_32 hv (by omega), ov_32 hv (by omega)]
/-- shifted down by k -/
theorem dn_min {v : Int} (h : -2147483648 ≤ v ∧ v < 2147483648) (k : Nat) : v / 2 ^ min k 32 = v / 2 ^ k := by
  by_cases hk : k ≤ 32
  · rw [Nat.min_eq_left hk]
  · rw [Nat.min_eq_right (by omega)]
    have hp : (4294967296 : Int) ≤ 2 ^ k := pw_le (by omega : 32 ≤ k)
    have e : (2 : Int) ^ 32 = 4294967296 := rfl
    rw [e]
    generalize (2 : Int) ^ k = p at *
    by_cases hv : 0 ≤ v
    · rw [Int.ediv_eq_zero_of_lt hv (by omega), Int.ediv_eq_zero_of_lt hv (by omega)]
    · have : ∀ q : Int, 4294967296 ≤ q → v / q = -1 := fun q hq => by
        rw [Int.ediv_eq_iff_of_pos (by omega)]; omega
      rw [this _ hp, this _ (by omega)]
theorem dn_step (v : Int) (k : Nat) : v / 2 ^ (k + 1) = v / 2 ^ k / 2 := by
  rw [Int.pow_succ, Int.ediv_ediv_of_nonneg (Int.le_of_lt (pw k))]
theorem dn_bound {v : Int} (h : -2147483648 ≤ v ∧ v < 2147483648) (k : Nat) : -2147483648 ≤ v / 2 ^ k ∧ v / 2 ^ k < 2147483648 := by
  induction k with
  | zero => simpa using h
  | succ k ih => rw [dn_step]; omega
theorem up_bound (v : Int) (k : Nat) : -2147483648 ≤ up v k ∧ up v k < 2147483648 := sg_32 z4 _

/-- what Ash answers: the number with a sign, and whether it didn't fit -/
def av (n v : Int) : Int := if n < 0 then v / 2 ^ (-n).toNat else up v n.toNat
def ao (n v : Int) : Bool := if n < 0 then false else ov v n.toNat
theorem av_bound {n v : Int} (h : -2147483648 ≤ v ∧ v < 2147483648) : -2147483648 ≤ av n v ∧ av n v < 2147483648 := by
  unfold av; split
  · exact dn_bound h _
  · exact up_bound _ _
theorem av_step {n v d : Int} (h : n < 0 ∧ d = -1 ∨ 0 ≤ n ∧ d = 1) : av d (av n v) = av (n + d) v := by
  rcases h with ⟨hn, rfl⟩ | ⟨hn, rfl⟩
  · unfold av
    rw [if_pos (by omega), if_pos hn, if_pos (by omega), show (-(n + -1)).toNat = (-n).toNat + 1 by omega, dn_step]
    rfl
  · unfold av
    rw [if_neg (by omega), if_neg (by omega), if_neg (by omega), show (n + 1).toNat = n.toNat + 1 by omega, ← up_step]
    unfold up
    rw [show (1 : Int).toNat = 0 + 1 from rfl, pow_one_more]
    simp
theorem ao_step {n v d : Int} (h : n < 0 ∧ d = -1 ∨ 0 ≤ n ∧ d = 1) : ao (n + d) v = (ao n v || ao d (av n v)) := by
  rcases h with ⟨hn, rfl⟩ | ⟨hn, rfl⟩
  · unfold ao
    rw [if_pos (by omega), if_pos hn, if_pos (by omega)]; rfl
  · unfold ao av
    rw [if_neg (by omega), if_neg (by omega), if_neg (by omega), if_neg (by omega), show (n + 1).toNat = n.toNat + 1 by omega, ov_step]
    congr 1
    unfold ov
    rw [show (1 : Int).toNat = 0 + 1 from rfl, pow_one_more]
    simp

/-- how many bytes bits take -/
def sp (a s : Int) : Int := if s < 1 then 0 else (a % 8 + s + 7) / 8

/-- the number of d bits from j on -/
def hi (f : Nat → Bool) (j : Nat) : Nat → Int
  | 0 => 0
  | d + 1 => bt (f j) + 2 * hi f (j + 1) d
theorem hi_succ (f : Nat → Bool) (j d : Nat) : hi f j (d + 1) = bt (f j) + 2 * hi f (j + 1) d := rfl
theorem hi_bound (f : Nat → Bool) (d : Nat) : ∀ j, 0 ≤ hi f j d ∧ hi f j d < 2 ^ d := by
  induction d with
  | zero => intro j; exact ⟨by simp [hi], by simp [hi]⟩
  | succ d ih =>
    intro j
    have := ih (j + 1)
    have hb := bt_cases (f j)
    rw [hi_succ, Int.pow_succ]
    omega
theorem bi_hi (f : Nat → Bool) (d : Nat) : ∀ j i, bi (hi f j d) i = (decide (i < d) && f (j + i)) := by
  induction d with
  | zero => intro j i; simp [hi, bi_zero]
  | succ d ih =>
    intro j i
    rw [hi_succ]
    cases i with
    | zero =>
      unfold bi
      have hb : bt (f j) = if f j then 1 else 0 := rfl
      rw [show (bt (f j) + 2 * hi f (j + 1) d) / 2 ^ 0 % 2 = bt (f j) by have := bt_cases (f j); simp; omega, hb]
      cases f j <;> simp
    | succ i =>
      have e : (bt (f j) + 2 * hi f (j + 1) d) / 2 ^ 1 = hi f (j + 1) d := by
        have := bt_cases (f j); have e : (2 : Int) ^ 1 = 2 := rfl; rw [e]; omega
      rw [show i + 1 = 1 + i by omega, ← bi_div, e, ih]
      rw [show j + 1 + i = j + (1 + i) by omega]
      congr 1
      rw [decide_eq_decide]; omega
theorem hi_congr {f g : Nat → Bool} {d : Nat} (h : ∀ i, i < d → f i = g i) : hi f 0 d = hi g 0 d := by
  refine bi_ext (hi_bound f d 0).1 (hi_bound g d 0).1 fun i => ?_
  rw [bi_hi, bi_hi]
  by_cases hi : i < d
  · simp [hi, h i hi]
  · simp [hi]
/-- a number that has these bits is the number of them -/
theorem hi_eq {x : Int} {f : Nat → Bool} {d : Nat} (h0 : 0 ≤ x) (h1 : x < 2 ^ d) (h : ∀ i, i < d → bi x i = f i) : x = hi f 0 d := by
  refine bi_ext h0 (hi_bound f d 0).1 fun i => ?_
  rw [bi_hi]
  by_cases hi : i < d
  · simp [hi, h i hi]
  · rw [bi_lt h0 h1 (by omega)]; simp [hi]

/-- the bits of a field -/
def xb (r : Int) (a s : Nat) (g : Bool) (i : Nat) : Bool := decide (i < 32) && (if i < s then bi r (a + i) else g && decide (0 < s) && bi r (a + s - 1))
def ev (r : Int) (a s : Nat) (g : Bool) : Int := hi (xb r a s g) 0 64
/-- the bits of a row with a field in it -/
def ib (r : Int) (a s : Nat) (x : Int) (i : Nat) : Bool := if a ≤ i ∧ i < a + s then bi x (i - a) else bi r i
def iv (r : Int) (a s : Nat) (x : Int) : Int := hi (ib r a s x) 0 64

theorem ev_bi (r : Int) (a s : Nat) (g : Bool) (i : Nat) : bi (ev r a s g) i = xb r a s g i := by
  unfold ev
  rw [bi_hi, Nat.zero_add]
  by_cases h : i < 64
  · simp [h]
  · unfold xb; simp [h, show ¬ i < 32 by omega]
theorem ev_U (r : Int) (a s : Nat) (g : Bool) : U (ev r a s g) := by
  have h0 := (hi_bound (xb r a s g) 64 0).1
  have e : ev r a s g = ev r a s g % 2 ^ 32 := by
    refine bi_ext h0 (Int.emod_nonneg _ (by decide)) fun i => ?_
    rw [bi_mod, ev_bi]
    by_cases h : i < 32
    · simp [h]
    · unfold xb; simp [h]
  refine ⟨h0, ?_⟩
  rw [e]; exact Int.emod_lt_of_pos _ (by decide)
theorem iv_bi (r : Int) (a s : Nat) (x : Int) (i : Nat) : bi (iv r a s x) i = (decide (i < 64) && ib r a s x i) := by
  unfold iv
  rw [bi_hi, Nat.zero_add]
/-- a row fits its 64 bits -/
def V (x : Int) : Prop := 0 ≤ x ∧ x < 18446744073709551616
theorem iv_V (r : Int) (a s : Nat) (x : Int) : V (iv r a s x) := hi_bound _ 64 0
theorem V_hi {x : Int} (h : V x) {i : Nat} (hi : 64 ≤ i) : bi x i = false := bi_lt (k := 64) h.1 h.2 hi

/-- the program's way: a field without a sign, with a sign -/
theorem ext_plain (r : Int) {a s : Nat} (hs : s ≤ 32) : r / 2 ^ a % 4294967296 * 2 ^ (32 - s) % 4294967296 / 2 ^ (32 - s) = ev r a s false := by
  have hp := pw (32 - s)
  have h0 : 0 ≤ r / 2 ^ a % 4294967296 * 2 ^ (32 - s) % 4294967296 := by omega
  refine bi_ext (Int.ediv_nonneg h0 (by omega)) (ev_U r a s false).1 fun i => ?_
  rw [show (4294967296 : Int) = 2 ^ 32 from rfl, ev_bi, bi_div, bi_mod, bi_mul, bi_mod, bi_div]
  unfold xb
  rw [show 32 - s + i - (32 - s) = i by omega, show (decide (32 - s + i < 32)) = decide (i < s) by rw [decide_eq_decide]; omega]
  by_cases h1 : i < s
  · simp [h1]
  · simp [h1]
theorem ext_signed (r : Int) {a s : Nat} (hs : s ≤ 32) : sg (r / 2 ^ a % 4294967296 * 2 ^ (32 - s) % 4294967296) 4 / 2 ^ (32 - s) % 4294967296 = ev r a s true := by
  have hU : U (r / 2 ^ a % 4294967296 * 2 ^ (32 - s) % 4294967296) := ⟨by omega, by omega⟩
  refine bi_ext (by omega) (ev_U r a s true).1 fun i => ?_
  rw [show (4294967296 : Int) = 2 ^ 32 from rfl] at *
  rw [ev_bi, bi_mod, bi_div, bi_sg hU]
  have h31 : bi (r / 2 ^ a % 2 ^ 32 * 2 ^ (32 - s) % 2 ^ 32) 31 = (decide (0 < s) && bi r (a + s - 1)) := by
    rw [bi_mod, bi_mul, bi_mod, bi_div]
    by_cases h : 0 < s
    · rw [show a + (31 - (32 - s)) = a + s - 1 by omega]
      simp [h, show 32 - s ≤ 31 by omega, show 31 - (32 - s) < 32 by omega]
    · simp [h, show ¬ 32 - s ≤ 31 by omega]
  unfold xb
  by_cases h1 : i < s
  · rw [if_pos (by omega), if_pos h1, bi_mod, bi_mul, bi_mod, bi_div, show 32 - s + i - (32 - s) = i by omega]
    simp [show 32 - s + i < 32 by omega]
  · rw [if_neg (by omega), if_neg h1, h31]
    simp

/-- the program's way: a field put into a row -/
theorem ins_plain {r x : Int} (hr : V r) {a s : Nat} (ha : a < 32) (hs : s ≤ 32) :
    bits .or .u64 (bits .andNot .u64 r (4294967295 * 2 ^ (32 - s) % 4294967296 / 2 ^ (32 - s) * 2 ^ a % 18446744073709551616)) (bits .and .u64 (x * 2 ^ a % 18446744073709551616) (4294967295 * 2 ^ (32 - s) % 4294967296 / 2 ^ (32 - s) * 2 ^ a % 18446744073709551616)) = iv r a s x := by
  have hf : ∀ i, bi (4294967295 * 2 ^ (32 - s) % 4294967296 / 2 ^ (32 - s) * 2 ^ a % 18446744073709551616) i = decide (a ≤ i ∧ i < a + s) := fun i => by
    rw [show (18446744073709551616 : Int) = 2 ^ 64 from rfl, show (4294967296 : Int) = 2 ^ 32 from rfl, show (4294967295 : Int) = 2 ^ 32 - 1 from rfl, bi_mod, bi_mul, bi_div, bi_mod, bi_mul, bi_ones]
    simp only [← Bool.decide_and]
    rw [decide_eq_decide]
    omega
  have hF : V (4294967295 * 2 ^ (32 - s) % 4294967296 / 2 ^ (32 - s) * 2 ^ a % 18446744073709551616) := ⟨by omega, by omega⟩
  generalize (4294967295 : Int) * 2 ^ (32 - s) % 4294967296 / 2 ^ (32 - s) * 2 ^ a % 18446744073709551616 = F at *
  have hX : V (x * 2 ^ a % 18446744073709551616) := ⟨by omega, by omega⟩
  rw [u64_andNot _ _ hr.1 hr.2 hF.1 hF.2, u64_and _ _ hX.1 hX.2 hF.1 hF.2]
  have h1 := hr.2
  have h2 := hr.1
  have h3 := hF.2
  have h4 := hF.1
  have a1 : r.toNat &&& (18446744073709551615 - F.toNat) ≤ r.toNat := Nat.and_le_left
  have a2 : (x * 2 ^ a % 18446744073709551616).toNat &&& F.toNat ≤ F.toNat := Nat.and_le_right
  rw [u64_or_nat _ _ (by omega) (by omega)]
  refine bi_ext (by omega) (iv_V r a s x).1 fun i => ?_
  rw [bi_nat, Nat.testBit_or, Nat.testBit_and, Nat.testBit_and, ← bi_toNat hX.1, ← bi_toNat h4, ← bi_toNat h2, hf, iv_bi]
  have e : 18446744073709551615 - F.toNat = 2 ^ 64 - (F.toNat + 1) := by omega
  rw [e, Nat.testBit_two_pow_sub_succ (by omega), ← bi_toNat h4, hf]
  rw [show (18446744073709551616 : Int) = 2 ^ 64 from rfl, bi_mod, bi_mul]
  unfold ib
  by_cases hi : i < 64
  · by_cases hw : a ≤ i ∧ i < a + s
    · simp [hi, hw]
    · simp [hi, hw]
  · rw [V_hi hr (by omega)]
    simp [hi]

end Go.Proofs.YteohkobdmkbcpaaGreatDoor.Bt.Sh

/- Contracts of package shift. -/
namespace Go.Proofs.YteohkobdmkbcpaaGreatDoor.Bt.Sh
open Go.RowKit

/-- a count's byte -/
def B (c : Int) : Prop := 0 ≤ c ∧ c < 256

theorem wrap8 {c : Int} (h : B c) : wrap64 (IntKind.i8.wrap c) = sg c 1 := by
  have h0 := h.1
  have h1 := h.2
  unfold sg
  rw [W1]
  have : IntKind.i8.wrap c = if 128 ≤ c then c - 256 else c := by
    simp [IntKind.wrap, IntKind.bits, IntKind.signed]
    split <;> omega
  rw [this]
  unfold wrap64
  split <;> split <;> omega
theorem w32_sg {x : Int} : wrap32 x = sg x 4 := by
  unfold wrap32 sg
  rw [W4]; split <;> omega
theorem sign_ng (x : Int) : decide (wrap32 x < 0) = ng x 4 := by rw [ng_sg z4, w32_sg]
theorem sign_zr {x : Int} (h : U x) : (x == 0) = zr x 4 := by
  have h0 := h.1
  have h1 := h.2
  unfold zr
  rw [W4, Int.emod_eq_of_lt h0 h1]

set_option maxHeartbeats 400000 in
set_option maxRecDepth 100000 in
theorem places_any (c : Int) (hc : B c) (w : World) :
    Calls Tryz.prog 225 #[.int .u8 c] w fun e w' => e = .returned (.int .i64 (sg c 1)) ∧ w = w' := by
  go_enter Tryz.func225, Tryz.ntmps225
  go_wp2
  go_ret
  exact ⟨ret_int (wrap8 hc), rfl⟩

/-- the lowest bits of a number that has a sign -/
theorem and_low (n : Int) {k : Nat} (hk : k < 32) : bits .and .i64 n ((2 ^ k - 1 : Nat) : Int) = n % 2 ^ k := by
  have hp : 2 ^ k ≤ 2 ^ 31 := Nat.pow_le_pow_right (by omega) (by omega)
  have hq := Nat.two_pow_pos k
  have hm : (BitVec.ofInt 64 ((2 ^ k - 1 : Nat) : Int)).toNat = 2 ^ k - 1 := by
    rw [BitVec.toNat_ofInt]; omega
  have hd : ((2 : Int) ^ k) ∣ ((2 ^ 64 : Nat) : Int) := ⟨2 ^ (64 - k), by
    rw [← Int.pow_add, show k + (64 - k) = 64 by omega]; rfl⟩
  have hr := Int.emod_nonneg n (Int.ne_of_gt (pw k))
  have hr2 := Int.emod_lt_of_pos n (pw k)
  have hp2 : (2 : Int) ^ k ≤ 2147483648 := pw_le (by omega : k ≤ 31)
  have e : (((BitVec.ofInt 64 n &&& BitVec.ofInt 64 ((2 ^ k - 1 : Nat) : Int)).toNat : Nat) : Int) = n % 2 ^ k := by
    rw [BitVec.toNat_and, hm, Nat.and_two_pow_sub_one_eq_mod, BitVec.toNat_ofInt, Int.natCast_emod, Int.toNat_of_nonneg (by omega), Int.natCast_pow]
    exact Int.emod_emod_of_dvd n hd
  show IntKind.i64.wrap (((BitVec.ofInt 64 n &&& BitVec.ofInt 64 ((2 ^ k - 1 : Nat) : Int)).toNat : Nat) : Int) = _
  rw [e, IntKind.wrap_i64]
  omega
theorem and7 (a : Int) : bits .and .i64 a 7 = a % 8 := and_low a (k := 3) (by omega)
theorem and31 (a : Int) : bits .and .i64 a 31 = a % 32 := and_low a (k := 5) (by omega)

set_option maxHeartbeats 400000 in
set_option maxRecDepth 100000 in
theorem above_any (s : Int) (h0 : 0 ≤ s) (h1 : s ≤ 32) (w : World) :
    Calls Tryz.prog 229 #[.int .i64 s] w fun e w' => e = .returned (.int .u64 (32 - s)) ∧ w = w' := by
  go_enter Tryz.func229, Tryz.ntmps229
  go_wp2
  go_ret
  exact ⟨rfl, rfl⟩

set_option maxHeartbeats 400000 in
set_option maxRecDepth 100000 in
theorem psigns_any (x : Int) (hx : U x) (w : World) :
    Calls Tryz.prog 226 #[.int .u32 x] w fun e w' => e = .returned (.agg #[.bool (ng x 4), .bool (zr x 4), .bool false, .bool false]) ∧ Below w.heap.size w w' := by
  have H1 := Lib.hid (sign_ng x)
  have H2 := Lib.hid (sign_zr hx)
  go_enter Tryz.func226, Tryz.ntmps226
  go_wp2
  rw [H1.out, H2.out]
  exact bodyPost_ret (v := .agg #[.bool (ng x 4), .bool (zr x 4), .bool false, .bool false]) (by simp [results, Tryz.results226, go_sem]) rfl ⟨rfl, (Below.refl _ _).alloc (Nat.le_refl _) _⟩

theorem rt_or {x j : Int} (hx : U x) (h0 : 0 ≤ j) (h1 : j < 32) : bits .or .u32 (x * 2 ^ j.toNat % 4294967296) (x / 2 ^ (32 - j).toNat) = rt x j.toNat := by
  obtain ⟨k, rfl⟩ := Int.eq_ofNat_of_zero_le h0
  have e : (32 - (k : Int)).toNat = 32 - k := by omega
  rw [e]
  have hp := rt_parts hx (k := k) (by omega)
  have hk : (2 : Int) ^ k ≤ 4294967296 := pw_le (by omega : k ≤ 32)
  rw [u32_or _ _ (by omega) (by omega) hp.1 (by omega)]
  rfl

set_option maxHeartbeats 400000 in
set_option maxRecDepth 100000 in
theorem rotl_any (x k : Int) (hx : U x) (w : World) :
    Calls Tryz.prog 227 #[.int .u32 x, .int .i64 k] w fun e w' => e = .returned (.int .u32 (rt x (k % 32).toNat)) ∧ w = w' := by
  have hm : bits .and .u64 (IntKind.u64.wrap k) 31 = k % 32 := by
    rw [IntKind.wrap_u64, u64_and _ _ (by omega) (by omega) (by omega) (by omega)]
    show (((k % 18446744073709551616).toNat &&& 31 : Nat) : Int) = _
    rw [nat_mask5]; omega
  have hj0 : 0 ≤ k % 32 := by omega
  have hj1 : k % 32 < 32 := by omega
  generalize k % 32 = j at *
  go_enter Tryz.func227, Tryz.ntmps227
  go_wp2
  go_ret
  exact ⟨ret_int (rt_or hx hj0 hj1), rfl⟩

theorem bcell {W w1 : World} (hb : Below W.heap.size W w1) : (∀ b o, b < W.heap.size → w1.cell? ⟨b, o, none⟩ = W.cell? ⟨b, o, none⟩) ∧ (∀ b o, b < W.heap.size → w1.frozen? ⟨b, o, none⟩ = W.frozen? ⟨b, o, none⟩) :=
  ⟨fun b o h => hb.cell (p := ⟨b, o, none⟩) h, fun b o h => hb.frozen (p := ⟨b, o, none⟩) h⟩
theorem U_mod (x : Int) : U (x % 4294967296) := ⟨by omega, by omega⟩
/-- what Rot turns by -/
def ro (c : Int) : Nat := (sg c 1 % 32).toNat
theorem ro_lt (c : Int) : ro c < 32 := by unfold ro; omega

set_option maxHeartbeats 400000 in
set_option maxRecDepth 100000 in
theorem rot_any (c x : Int) (q : Bool) (hc : B c) (hx : U x) (w : World) :
    Calls Tryz.prog 184 #[.int .u8 c, .int .u32 x, .bool q] w fun e w' => e = .returned (.tuple #[.int .u32 (rt x (ro c)), .agg #[.bool (ng (rt x (ro c)) 4), .bool (zr (rt x (ro c)) 4), .bool false, .bool q]]) ∧ Below w.heap.size w w' := by
  have hy : U (rt x (ro c)) := rt_U hx (Nat.le_of_lt (ro_lt c))
  have K1 := fun w => Lib.hid (places_any c hc w)
  have K2 := fun w => Lib.hid (rotl_any x (sg c 1) hx w)
  have K3 := fun w => Lib.hid (psigns_any (rt x (ro c)) hy w)
  generalize (ng (rt x (ro c)) 4) = p1 at *
  generalize (zr (rt x (ro c)) 4) = p2 at *
  have e : rt x (sg c 1 % 32).toNat = rt x (ro c) := rfl
  rw [e] at K2
  clear e
  generalize rt x (ro c) = y at *
  generalize sg c 1 = n at *
  clear hc hx
  go_enter Tryz.func184, Tryz.ntmps184
  go_wp2_with (first | (go_at_call 225; refine (K1 _).out.mono ?_; rintro e w' ⟨rfl, rfl⟩) | (go_at_call 227; refine (K2 _).out.mono ?_; rintro e w' ⟨rfl, rfl⟩) | fail)
  refine (K3 _).out.mono ?_
  rintro e w1 ⟨rfl, hb1⟩
  obtain ⟨hc, hf⟩ := bcell hb1
  have hz : w.heap.size < w1.heap.size := by have := hb1.size; simp at this; omega
  go_wp2
  go_region
  go_wp2
  exact bodyPost_ret (v := .tuple #[.int .u32 y, .agg #[.bool p1, .bool p2, .bool false, .bool q]]) (by simp [results, Tryz.results184, go_sem, hc, hz]) rfl ⟨rfl, by
    refine Below.drew (Below.alloc ?_ (by simp; omega) _)
    iterate 4 refine Below.setCell ?_ (by simp) _
    exact ((Below.refl _ _).alloc (Nat.le_refl _) _).trans (hb1.mono (by simp))⟩

set_option maxHeartbeats 400000 in
set_option maxRecDepth 100000 in
theorem ash_down (c x : Int) (hc : B c) (hn : sg c 1 < 0) (w : World) :
    Calls Tryz.prog 183 #[.int .u8 c, .int .u32 x] w fun e w' => e = .returned (.tuple #[.int .u32 (av (sg c 1) (sg x 4) % 4294967296), .agg #[.bool (ng (av (sg c 1) (sg x 4)) 4), .bool (zr (av (sg c 1) (sg x 4)) 4), .bool (ao (sg c 1) (sg x 4)), .bool false]]) ∧ Below w.heap.size w w' := by
  have hs := sg_bound z1 c
  have hv := sg_32 z4 x
  have hs1 : -128 ≤ sg c 1 := hs.1
  have K1 := fun w => Lib.hid (places_any c hc w)
  have k3 := psigns_any (av (sg c 1) (sg x 4) % 4294967296) (U_mod _)
  rw [show (4294967296 : Int) = W 4 from rfl, ng_of_mod z4, zr_of_mod z4] at k3
  have K3 := fun w => Lib.hid (k3 w)
  have HO := Lib.hid (show ao (sg c 1) (sg x 4) = false by unfold ao; rw [if_pos hn])
  have HV := Lib.hid (show wrap32 x / 2 ^ min (-(sg c 1)).toNat 32 = av (sg c 1) (sg x 4) by unfold av; rw [if_pos hn, w32_sg, dn_min hv])
  generalize (av (sg c 1) (sg x 4)) = y at *
  generalize (ao (sg c 1) (sg x 4)) = o at *
  generalize ng y 4 = p1 at *
  generalize zr y 4 = p2 at *
  generalize sg c 1 = n at *
  clear hs hc k3 hv
  obtain ⟨m, rfl⟩ : ∃ m, n = -m := ⟨-n, by omega⟩
  rw [Int.neg_neg] at HV
  have hm0 : 0 < m := by omega
  have hm2 : 0 ≤ m := by omega
  have hm1 : m ≤ 128 := by omega
  clear hn hs1
  go_enter Tryz.func183, Tryz.ntmps183
  go_wp2_with (first | (go_at_call 225; refine (K1 _).out.mono ?_; rintro e w' ⟨rfl, rfl⟩) | fail)
  rw [HV.out]
  refine (K3 _).out.mono ?_
  rintro e w1 ⟨rfl, hb1⟩
  obtain ⟨hc, hf⟩ := bcell hb1
  have hz : w.heap.size < w1.heap.size := by have := hb1.size; simp at this; omega
  go_wp2
  exact bodyPost_ret (v := .tuple #[.int .u32 (y % 4294967296), .agg #[.bool p1, .bool p2, .bool o, .bool false]]) (by simp [results, Tryz.results183, go_sem, hc, HO.out]) rfl ⟨rfl, by
    iterate 4 refine Below.setCell ?_ (by simp) _
    exact ((Below.refl _ _).alloc (Nat.le_refl _) _).trans (hb1.mono (by simp))⟩

set_option maxHeartbeats 400000 in
set_option maxRecDepth 100000 in
theorem ash_up (c x : Int) (hc : B c) (hn : 0 ≤ sg c 1) (w : World) :
    Calls Tryz.prog 183 #[.int .u8 c, .int .u32 x] w fun e w' => e = .returned (.tuple #[.int .u32 (av (sg c 1) (sg x 4) % 4294967296), .agg #[.bool (ng (av (sg c 1) (sg x 4)) 4), .bool (zr (av (sg c 1) (sg x 4)) 4), .bool (ao (sg c 1) (sg x 4)), .bool false]]) ∧ Below w.heap.size w w' := by
  have hs := sg_bound z1 c
  have hv := sg_32 z4 x
  have hs1 : sg c 1 < 128 := hs.2
  have K1 := fun w => Lib.hid (places_any c hc w)
  have k3 := psigns_any (av (sg c 1) (sg x 4) % 4294967296) (U_mod _)
  rw [show (4294967296 : Int) = W 4 from rfl, ng_of_mod z4, zr_of_mod z4] at k3
  have K3 := fun w => Lib.hid (k3 w)
  have HV := Lib.hid (show wrap32 (wrap32 x * 2 ^ min (sg c 1).toNat 32) = av (sg c 1) (sg x 4) by
    unfold av; rw [if_neg (by omega), w32_sg, w32_sg]; exact up_min _ _)
  have HO := Lib.hid (show (av (sg c 1) (sg x 4) / 2 ^ min (sg c 1).toNat 32 != wrap32 x) = ao (sg c 1) (sg x 4) by
    unfold av ao; rw [if_neg (by omega), if_neg (by omega), w32_sg, ← up_min, back_ov _ (by omega), ov_min])
  generalize (av (sg c 1) (sg x 4)) = y at *
  generalize (ao (sg c 1) (sg x 4)) = o at *
  generalize ng y 4 = p1 at *
  generalize zr y 4 = p2 at *
  generalize sg c 1 = n at *
  clear hs hc k3 hv
  go_enter Tryz.func183, Tryz.ntmps183
  go_wp2_with (first | (go_at_call 225; refine (K1 _).out.mono ?_; rintro e w' ⟨rfl, rfl⟩) | fail)
  rw [HV.out]
  refine (K3 _).out.mono ?_
  rintro e w1 ⟨rfl, hb1⟩
  obtain ⟨hc, hf⟩ := bcell hb1
  have hz : w.heap.size < w1.heap.size := by have := hb1.size; simp at this; omega
  go_wp2
  rw [HO.out]
  go_region
  go_wp2
  exact bodyPost_ret (v := .tuple #[.int .u32 (y % 4294967296), .agg #[.bool p1, .bool p2, .bool o, .bool false]]) (by simp [results, Tryz.results183, go_sem, hc, hz]) rfl ⟨rfl, by
    refine Below.drew (Below.alloc ?_ (by simp; omega) _)
    iterate 4 refine Below.setCell ?_ (by simp) _
    exact ((Below.refl _ _).alloc (Nat.le_refl _) _).trans (hb1.mono (by simp))⟩

theorem ash_any (c x : Int) (hc : B c) (w : World) :
    Calls Tryz.prog 183 #[.int .u8 c, .int .u32 x] w fun e w' => e = .returned (.tuple #[.int .u32 (av (sg c 1) (sg x 4) % 4294967296), .agg #[.bool (ng (av (sg c 1) (sg x 4)) 4), .bool (zr (av (sg c 1) (sg x 4)) 4), .bool (ao (sg c 1) (sg x 4)), .bool false]]) ∧ Below w.heap.size w w' := by
  by_cases h : sg c 1 < 0
  · exact ash_down c x hc h w
  · exact ash_up c x hc (by omega) w

set_option maxHeartbeats 400000 in
set_option maxRecDepth 100000 in
theorem span_any (a s : Int) (hs : s ≤ 32) (w : World) :
    Calls Tryz.prog 228 #[.int .i64 a, .int .i64 s] w fun e w' => e = .returned (.int .i64 (sp a s)) ∧ w = w' := by
  have h7 : bits .and .i64 a 7 = a % 8 := and7 a
  by_cases h : s < 1
  · have HE := Lib.hid (show sp a s = 0 by unfold sp; rw [if_pos h])
    go_enter Tryz.func228, Tryz.ntmps228
    go_wp2
    go_ret
    exact ⟨ret_int HE.out.symm, rfl⟩
  · have HE := Lib.hid (show sp a s = (a % 8 + s + 7) / 8 by unfold sp; rw [if_neg h])
    have hm := Int.emod_nonneg a (by omega : (8 : Int) ≠ 0)
    have hm2 := Int.emod_lt_of_pos a (by omega : (0 : Int) < 8)
    generalize a % 8 = r at *
    go_enter Tryz.func228, Tryz.ntmps228
    go_wp2
    go_ret
    exact ⟨ret_int HE.out.symm, rfl⟩

set_option maxHeartbeats 400000 in
set_option maxRecDepth 100000 in
theorem extract_any (r a s : Int) (g : Bool) (hs0 : 0 ≤ s) (hs : s ≤ 32) (w : World) :
    Calls Tryz.prog 217 #[.int .u64 r, .int .i64 a, .int .i64 s, .bool g] w fun e w' => e = .returned (.int .u32 (ev r (a % 32).toNat s.toNat g)) ∧ w = w' := by
  have h31 : bits .and .i64 a 31 = a % 32 := and31 a
  have hm := Int.emod_nonneg a (by omega : (32 : Int) ≠ 0)
  have hm2 := Int.emod_lt_of_pos a (by omega : (0 : Int) < 32)
  have KA := fun w => Lib.hid (above_any s hs0 hs w)
  generalize a % 32 = j at *
  have hn : (32 - s).toNat = 32 - s.toNat := by omega
  have HP := Lib.hid (show r / 2 ^ j.toNat % 4294967296 * 2 ^ (32 - s).toNat % 4294967296 / 2 ^ (32 - s).toNat = ev r j.toNat s.toNat false by
    rw [hn]; exact ext_plain r (by omega))
  have HS := Lib.hid (show wrap32 (r / 2 ^ j.toNat % 4294967296 * 2 ^ (32 - s).toNat % 4294967296) / 2 ^ (32 - s).toNat % 4294967296 = ev r j.toNat s.toNat true by
    rw [hn, w32_sg]; exact ext_signed r (by omega))
  clear hn
  cases g
  · go_enter Tryz.func217, Tryz.ntmps217
    go_wp2_with (first | (go_at_call 229; refine (KA _).out.mono ?_; rintro e w' ⟨rfl, rfl⟩) | fail)
    go_ret
    exact ⟨ret_int HP.out, rfl⟩
  · go_enter Tryz.func217, Tryz.ntmps217
    go_wp2_with (first | (go_at_call 229; refine (KA _).out.mono ?_; rintro e w' ⟨rfl, rfl⟩) | fail)
    go_ret
    exact ⟨ret_int HS.out, rfl⟩

theorem ins_prog {r x j s : Int} (hr : V r) (hj0 : 0 ≤ j) (hj1 : j < 32) (hs0 : 0 ≤ s) (hs : s ≤ 32) :
    bits .or .u64 (bits .andNot .u64 r (IntKind.u64.wrap (IntKind.u64.wrap (4294967295 * 2 ^ (32 - s).toNat % 4294967296 / 2 ^ (32 - s).toNat) * 2 ^ j.toNat))) (bits .and .u64 (IntKind.u64.wrap (x * 2 ^ j.toNat)) (IntKind.u64.wrap (IntKind.u64.wrap (4294967295 * 2 ^ (32 - s).toNat % 4294967296 / 2 ^ (32 - s).toNat) * 2 ^ j.toNat))) = iv r j.toNat s.toNat x := by
  have hn : (32 - s).toNat = 32 - s.toNat := by omega
  have hp := pw (32 - s.toNat)
  have h0 : 0 ≤ (4294967295 : Int) * 2 ^ (32 - s.toNat) % 4294967296 := by omega
  have h1 : (4294967295 : Int) * 2 ^ (32 - s.toNat) % 4294967296 < 4294967296 := by omega
  have hd := Int.ediv_le_self (2 ^ (32 - s.toNat)) h0
  have hd0 := Int.ediv_nonneg h0 (Int.le_of_lt hp)
  have e : IntKind.u64.wrap (4294967295 * 2 ^ (32 - s.toNat) % 4294967296 / 2 ^ (32 - s.toNat)) = 4294967295 * 2 ^ (32 - s.toNat) % 4294967296 / 2 ^ (32 - s.toNat) := by
    rw [IntKind.wrap_u64]; exact Int.emod_eq_of_lt hd0 (by omega)
  rw [hn, e, IntKind.wrap_u64, IntKind.wrap_u64]
  exact ins_plain hr (by omega) (by omega)

set_option maxHeartbeats 400000 in
set_option maxRecDepth 100000 in
theorem insert_any (r a s x : Int) (hr : V r) (hx : U x) (hs0 : 0 ≤ s) (hs : s ≤ 32) (w : World) :
    Calls Tryz.prog 188 #[.int .u64 r, .int .i64 a, .int .i64 s, .int .u32 x] w fun e w' => e = .returned (.int .u64 (iv r (a % 32).toNat s.toNat x)) ∧ w = w' := by
  have h31 : bits .and .i64 a 31 = a % 32 := and31 a
  have hm := Int.emod_nonneg a (by omega : (32 : Int) ≠ 0)
  have hm2 := Int.emod_lt_of_pos a (by omega : (0 : Int) < 32)
  have KA := fun w => Lib.hid (above_any s hs0 hs w)
  have hx0 := hx.1
  have hx1 := hx.2
  generalize a % 32 = j at *
  have HI := Lib.hid (ins_prog (x := x) hr hm hm2 hs0 hs)
  go_enter Tryz.func188, Tryz.ntmps188
  go_wp2_with (first | (go_at_call 229; refine (KA _).out.mono ?_; rintro e w' ⟨rfl, rfl⟩) | fail)
  go_ret
  exact ⟨ret_int HI.out, rfl⟩

end Go.Proofs.YteohkobdmkbcpaaGreatDoor.Bt.Sh
