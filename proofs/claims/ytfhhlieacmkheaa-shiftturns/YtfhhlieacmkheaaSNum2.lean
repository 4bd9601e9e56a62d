/- Plain arithmetic of shifts and fields, more: no program in sight. -/
import Derived.Test.YtfhhlieacmkheaaSNum
namespace Go.Proofs.Ytfhhlieacmkheaa.Cs

theorem z4 : Sz 4 := .inr (.inr rfl)
theorem z1 : Sz 1 := .inl rfl

/-- shifted up by k, with a sign -/
def up (v : Int) (k : Nat) : Int := sg (v * 2 ^ k) 4
/-- what doesn't fit -/
def ov (v : Int) (k : Nat) : Bool := !ft (v * 2 ^ k) 4

theorem ft_iff (n : Int) : ft n 4 = true ↔ (-2147483648 ≤ n ∧ n < 2147483648) := by
  unfold ft; rw [W4, decide_eq_true_iff]; omega
theorem ft_not (n : Int) : ft n 4 = false ↔ (n < -2147483648 ∨ 2147483648 ≤ n) := by
  unfold ft; rw [W4, decide_eq_false_iff_not]; omega
theorem sg_fit {n : Int} (h : ft n 4 = true) : sg n 4 = n := by
  have := sg_ft z4 n
  rw [h] at this; simpa using this
theorem sg_mul2 (n : Int) : sg (2 * sg n 4) 4 = sg (2 * n) 4 := by
  rw [← sg_of_mod z4 (2 * sg n 4), ← sg_of_mod z4 (2 * n)]
  have := sg_mod z4 n
  rw [W4] at *
  congr 1; omega
theorem up_0 {v : Int} (h : -2147483648 ≤ v ∧ v < 2147483648) : up v 0 = v := by
  unfold up
  rw [show v * 2 ^ 0 = v by simp]
  exact sg_fit ((ft_iff v).2 h)
theorem ov_0 {v : Int} (h : -2147483648 ≤ v ∧ v < 2147483648) : ov v 0 = false := by
  unfold ov
  rw [show v * 2 ^ 0 = v by simp, (ft_iff v).2 h]; rfl
theorem pow_one_more (v : Int) (k : Nat) : v * 2 ^ (k + 1) = 2 * (v * 2 ^ k) := by
  rw [Int.pow_succ, ← Int.mul_assoc, Int.mul_comm]
theorem up_step (v : Int) (k : Nat) : sg (2 * up v k) 4 = up v (k + 1) := by
  unfold up
  rw [pow_one_more, sg_mul2]
theorem up_fit {v : Int} {k : Nat} (h : ft (2 * up v k) 4 = true) : 2 * up v k = up v (k + 1) := by
  rw [← up_step, sg_fit h]
theorem ov_step (v : Int) (k : Nat) : ov v (k + 1) = (ov v k || !ft (2 * up v k) 4) := by
  unfold ov up
  rw [pow_one_more]
  cases h : ft (v * 2 ^ k) 4
  · rw [ft_not] at h
    have : ft (2 * (v * 2 ^ k)) 4 = false := by rw [ft_not]; omega
    rw [this]; rfl
  · rw [sg_fit h]; rfl
theorem up_32 (v : Int) (k : Nat) (h : 32 ≤ k) : up v k = 0 := by
  unfold up
  rw [← sg_of_mod z4]
  obtain ⟨j, rfl⟩ := Nat.exists_eq_add_of_le h
  rw [Int.pow_add, ← Int.mul_assoc, Int.mul_comm v, Int.mul_assoc, show (2 : Int) ^ 32 = W 4 from rfl, Int.mul_emod_right]
  rfl
theorem ov_32 {v : Int} (h : v ≠ 0) {k : Nat} (hk : 32 ≤ k) : ov v k = true := by
  unfold ov
  have hp : (4294967296 : Int) ≤ 2 ^ k := pw_le hk
  generalize (2 : Int) ^ k = p at *
  have : ft (v * p) 4 = false := by
    rw [ft_not]
    rcases Int.lt_or_gt_of_ne h with h | h
    · left
      have : v * p ≤ -1 * p := Int.mul_le_mul_of_nonneg_right (by omega) (by omega)
      omega
    · right
      have : 1 * p ≤ v * p := Int.mul_le_mul_of_nonneg_right (by omega) (by omega)
      omega
  rw [this]; rfl
theorem ov_zero (k : Nat) : ov 0 k = false := by
  unfold ov; rw [Int.zero_mul]; rfl
/-- what was shifted up and is shifted down again is another number just if it didn't fit -/
theorem back_ov (v : Int) {k : Nat} (hk : k ≤ 32) : (up v k / 2 ^ k != v) = ov v k := by
  have hp := pw k
  have hp2 : (2 : Int) ^ k ≤ 4294967296 := pw_le hk
  unfold up ov
  cases h : ft (v * 2 ^ k) 4
  · have hm := sg_mod z4 (v * 2 ^ k)
    have hb := sg_ft z4 (v * 2 ^ k)
    rw [h] at hb
    have hb : sg (v * 2 ^ k) 4 ≠ v * 2 ^ k := by simpa using hb
    rw [W4] at hm
    have : ¬ sg (v * 2 ^ k) 4 / 2 ^ k = v := by
      intro he
      rw [Int.ediv_eq_iff_of_pos hp] at he
      have e2 : (v + 1) * 2 ^ k = v * 2 ^ k + 2 ^ k := by rw [Int.add_mul, Int.one_mul]
      generalize (2 : Int) ^ k = p at *
      generalize sg (v * p) 4 = s at *
      generalize v * p = t at *
      omega
    simp [this]
  · rw [sg_fit h, Int.mul_ediv_cancel _ (Int.ne_of_gt hp)]
    simp
theorem up_min (v : Int) (k : Nat) : up v (min k 32) = up v k := by
  by_cases h : k ≤ 32
  · rw [Nat.min_eq_left h]
  · rw [Nat.min_eq_right (by omega), up_32 v 32 (by omega), up_32 v k (by omega)]
theorem ov_min (v : Int) (k : Nat) : ov v (min k 32) = ov v k := by
  by_cases h : k ≤ 32
  · rw [Nat.min_eq_left h]
  · rw [Nat.min_eq_right (by omega)]
    by_cases hv : v = 0
    · subst hv; rw [ov_zero, ov_zero]
    · rw [ov_32 hv (by omega), ov_32 hv (by omega)]
/-- shifted down by k -/
theorem dn_min {v : Int} (h : -2147483648 ≤ v ∧ v < 2147483648) (k : Nat) : v / 2 ^ min k 32 = v / 2 ^ k := by
  by_cases hk : k ≤ 32
  · rw [Nat.min_eq_left hk]
  · rw [Nat.min_eq_right (by omega)]
    have hp : (4294967296 : Int) ≤ 2 ^ k := pw_le (by omega : 32 ≤ k)
    have e : (2 : Int) ^ 32 = 4294967296 := rfl
    rw [e]
    generalize (2 : Int) ^ k = p at *
    by_cases hv : 0 ≤ v
    · rw [Int.ediv_eq_zero_of_lt hv (by omega), Int.ediv_eq_zero_of_lt hv (by omega)]
    · have : ∀ q : Int, 4294967296 ≤ q → v / q = -1 := fun q hq => by
        rw [Int.ediv_eq_iff_of_pos (by omega)]; omega
      rw [this _ hp, this _ (by omega)]
theorem dn_step (v : Int) (k : Nat) : v / 2 ^ (k + 1) = v / 2 ^ k / 2 := by
  rw [Int.pow_succ, Int.ediv_ediv_of_nonneg (Int.le_of_lt (pw k))]
theorem dn_bound {v : Int} (h : -2147483648 ≤ v ∧ v < 2147483648) (k : Nat) : -2147483648 ≤ v / 2 ^ k ∧ v / 2 ^ k < 2147483648 := by
  induction k with
  | zero => simpa using h
  | succ k ih => rw [dn_step]; omega
theorem up_bound (v : Int) (k : Nat) : -2147483648 ≤ up v k ∧ up v k < 2147483648 := sg_32 z4 _

/-- what Ash answers: the number with a sign, and whether it didn't fit -/
def av (n v : Int) : Int := if n < 0 then v / 2 ^ (-n).toNat else up v n.toNat
def ao (n v : Int) : Bool := if n < 0 then false else ov v n.toNat
theorem av_bound {n v : Int} (h : -2147483648 ≤ v ∧ v < 2147483648) : -2147483648 ≤ av n v ∧ av n v < 2147483648 := by
  unfold av; split
  · exact dn_bound h _
  · exact up_bound _ _
theorem av_step {n v d : Int} (h : n < 0 ∧ d = -1 ∨ 0 ≤ n ∧ d = 1) : av d (av n v) = av (n + d) v := by
  rcases h with ⟨hn, rfl⟩ | ⟨hn, rfl⟩
  · unfold av
    rw [if_pos (by omega), if_pos hn, if_pos (by omega), show (-(n + -1)).toNat = (-n).toNat + 1 by omega, dn_step]
    rfl
  · unfold av
    rw [if_neg (by omega), if_neg (by omega), if_neg (by omega), show (n + 1).toNat = n.toNat + 1 by omega, ← up_step]
    unfold up
    rw [show (1 : Int).toNat = 0 + 1 from rfl, pow_one_more]
    simp
theorem ao_step {n v d : Int} (h : n < 0 ∧ d = -1 ∨ 0 ≤ n ∧ d = 1) : ao (n + d) v = (ao n v || ao d (av n v)) := by
  rcases h with ⟨hn, rfl⟩ | ⟨hn, rfl⟩
  · unfold ao
    rw [if_pos (by omega), if_pos hn, if_pos (by omega)]; rfl
  · unfold ao av
    rw [if_neg (by omega), if_neg (by omega), if_neg (by omega), if_neg (by omega), show (n + 1).toNat = n.toNat + 1 by omega, ov_step]
    congr 1
    unfold ov
    rw [show (1 : Int).toNat = 0 + 1 from rfl, pow_one_more]
    simp

/-- how many bytes bits take -/
def sp (a s : Int) : Int := if s < 1 then 0 else (a % 8 + s + 7) / 8

/-- the number of d bits from j on -/
def hi (f : Nat → Bool) (j : Nat) : Nat → Int
  | 0 => 0
  | d + 1 => bt (f j) + 2 * hi f (j + 1) d
theorem hi_succ (f : Nat → Bool) (j d : Nat) : hi f j (d + 1) = bt (f j) + 2 * hi f (j + 1) d := rfl
theorem hi_bound (f : Nat → Bool) (d : Nat) : ∀ j, 0 ≤ hi f j d ∧ hi f j d < 2 ^ d := by
  induction d with
  | zero => intro j; exact ⟨by simp [hi], by simp [hi]⟩
  | succ d ih =>
    intro j
    have := ih (j + 1)
    have hb := bt_cases (f j)
    rw [hi_succ, Int.pow_succ]
    omega
theorem bi_hi (f : Nat → Bool) (d : Nat) : ∀ j i, bi (hi f j d) i = (decide (i < d) && f (j + i)) := by
  induction d with
  | zero => intro j i; simp [hi, bi_zero]
  | succ d ih =>
    intro j i
    rw [hi_succ]
    cases i with
    | zero =>
      unfold bi
      have hb : bt (f j) = if f j then 1 else 0 := rfl
      rw [show (bt (f j) + 2 * hi f (j + 1) d) / 2 ^ 0 % 2 = bt (f j) by have := bt_cases (f j); simp; omega, hb]
      cases f j <;> simp
    | succ i =>
      have e : (bt (f j) + 2 * hi f (j + 1) d) / 2 ^ 1 = hi f (j + 1) d := by
        have := bt_cases (f j); have e : (2 : Int) ^ 1 = 2 := rfl; rw [e]; omega
      rw [show i + 1 = 1 + i by omega, ← bi_div, e, ih]
      rw [show j + 1 + i = j + (1 + i) by omega]
      congr 1
      rw [decide_eq_decide]; omega
theorem hi_congr {f g : Nat → Bool} {d : Nat} (h : ∀ i, i < d → f i = g i) : hi f 0 d = hi g 0 d := by
  refine bi_ext (hi_bound f d 0).1 (hi_bound g d 0).1 fun i => ?_
  rw [bi_hi, bi_hi]
  by_cases hi : i < d
  · simp [hi, h i hi]
  · simp [hi]
/-- a number that has these bits is the number of them -/
theorem hi_eq {x : Int} {f : Nat → Bool} {d : Nat} (h0 : 0 ≤ x) (h1 : x < 2 ^ d) (h : ∀ i, i < d → bi x i = f i) : x = hi f 0 d := by
  refine bi_ext h0 (hi_bound f d 0).1 fun i => ?_
  rw [bi_hi]
  by_cases hi : i < d
  · simp [hi, h i hi]
  · rw [bi_lt h0 h1 (by omega)]; simp [hi]

/-- the bits of a field -/
def xb (r : Int) (a s : Nat) (g : Bool) (i : Nat) : Bool := decide (i < 32) && (if i < s then bi r (a + i) else g && decide (0 < s) && bi r (a + s - 1))
def ev (r : Int) (a s : Nat) (g : Bool) : Int := hi (xb r a s g) 0 64
/-- the bits of a row with a field in it -/
def ib (r : Int) (a s : Nat) (x : Int) (i : Nat) : Bool := if a ≤ i ∧ i < a + s then bi x (i - a) else bi r i
def iv (r : Int) (a s : Nat) (x : Int) : Int := hi (ib r a s x) 0 64

theorem ev_bi (r : Int) (a s : Nat) (g : Bool) (i : Nat) : bi (ev r a s g) i = xb r a s g i := by
  unfold ev
  rw [bi_hi, Nat.zero_add]
  by_cases h : i < 64
  · simp [h]
  · unfold xb; simp [h, show ¬ i < 32 by omega]
theorem ev_U (r : Int) (a s : Nat) (g : Bool) : U (ev r a s g) := by
  have h0 := (hi_bound (xb r a s g) 64 0).1
  have e : ev r a s g = ev r a s g % 2 ^ 32 := by
    refine bi_ext h0 (Int.emod_nonneg _ (by decide)) fun i => ?_
    rw [bi_mod, ev_bi]
    by_cases h : i < 32
    · simp [h]
    · unfold xb; simp [h]
  refine ⟨h0, ?_⟩
  rw [e]; exact Int.emod_lt_of_pos _ (by decide)
theorem iv_bi (r : Int) (a s : Nat) (x : Int) (i : Nat) : bi (iv r a s x) i = (decide (i < 64) && ib r a s x i) := by
  unfold iv
  rw [bi_hi, Nat.zero_add]
/-- a row fits its 64 bits -/
def V (x : Int) : Prop := 0 ≤ x ∧ x < 18446744073709551616
theorem iv_V (r : Int) (a s : Nat) (x : Int) : V (iv r a s x) := hi_bound _ 64 0
theorem V_hi {x : Int} (h : V x) {i : Nat} (hi : 64 ≤ i) : bi x i = false := bi_lt (k := 64) h.1 h.2 hi

/-- the program's way: a field without a sign, with a sign -/
theorem ext_plain (r : Int) {a s : Nat} (hs : s ≤ 32) : r / 2 ^ a % 4294967296 * 2 ^ (32 - s) % 4294967296 / 2 ^ (32 - s) = ev r a s false := by
  have hp := pw (32 - s)
  have h0 : 0 ≤ r / 2 ^ a % 4294967296 * 2 ^ (32 - s) % 4294967296 := by omega
  refine bi_ext (Int.ediv_nonneg h0 (by omega)) (ev_U r a s false).1 fun i => ?_
  rw [show (4294967296 : Int) = 2 ^ 32 from rfl, ev_bi, bi_div, bi_mod, bi_mul, bi_mod, bi_div]
  unfold xb
  rw [show 32 - s + i - (32 - s) = i by omega, show (decide (32 - s + i < 32)) = decide (i < s) by rw [decide_eq_decide]; omega]
  by_cases h1 : i < s
  · simp [h1]
  · simp [h1]
theorem ext_signed (r : Int) {a s : Nat} (hs : s ≤ 32) : sg (r / 2 ^ a % 4294967296 * 2 ^ (32 - s) % 4294967296) 4 / 2 ^ (32 - s) % 4294967296 = ev r a s true := by
  have hU : U (r / 2 ^ a % 4294967296 * 2 ^ (32 - s) % 4294967296) := ⟨by omega, by omega⟩
  refine bi_ext (by omega) (ev_U r a s true).1 fun i => ?_
  rw [show (4294967296 : Int) = 2 ^ 32 from rfl] at *
  rw [ev_bi, bi_mod, bi_div, bi_sg hU]
  have h31 : bi (r / 2 ^ a % 2 ^ 32 * 2 ^ (32 - s) % 2 ^ 32) 31 = (decide (0 < s) && bi r (a + s - 1)) := by
    rw [bi_mod, bi_mul, bi_mod, bi_div]
    by_cases h : 0 < s
    · rw [show a + (31 - (32 - s)) = a + s - 1 by omega]
      simp [h, show 32 - s ≤ 31 by omega, show 31 - (32 - s) < 32 by omega]
    · simp [h, show ¬ 32 - s ≤ 31 by omega]
  unfold xb
  by_cases h1 : i < s
  · rw [if_pos (by omega), if_pos h1, bi_mod, bi_mul, bi_mod, bi_div, show 32 - s + i - (32 - s) = i by omega]
    simp [show 32 - s + i < 32 by omega]
  · rw [if_neg (by omega), if_neg h1, h31]
    simp

/-- the program's way: a field put into a row -/
theorem ins_plain {r x : Int} (hr : V r) {a s : Nat} (ha : a < 32) (hs : s ≤ 32) :
    bits .or .u64 (bits .andNot .u64 r (4294967295 * 2 ^ (32 - s) % 4294967296 / 2 ^ (32 - s) * 2 ^ a % 18446744073709551616)) (bits .and .u64 (x * 2 ^ a % 18446744073709551616) (4294967295 * 2 ^ (32 - s) % 4294967296 / 2 ^ (32 - s) * 2 ^ a % 18446744073709551616)) = iv r a s x := by
  have hf : ∀ i, bi (4294967295 * 2 ^ (32 - s) % 4294967296 / 2 ^ (32 - s) * 2 ^ a % 18446744073709551616) i = decide (a ≤ i ∧ i < a + s) := fun i => by
    rw [show (18446744073709551616 : Int) = 2 ^ 64 from rfl, show (4294967296 : Int) = 2 ^ 32 from rfl, show (4294967295 : Int) = 2 ^ 32 - 1 from rfl, bi_mod, bi_mul, bi_div, bi_mod, bi_mul, bi_ones]
    simp only [← Bool.decide_and]
    rw [decide_eq_decide]
    omega
  have hF : V (4294967295 * 2 ^ (32 - s) % 4294967296 / 2 ^ (32 - s) * 2 ^ a % 18446744073709551616) := ⟨by omega, by omega⟩
  generalize (4294967295 : Int) * 2 ^ (32 - s) % 4294967296 / 2 ^ (32 - s) * 2 ^ a % 18446744073709551616 = F at *
  have hX : V (x * 2 ^ a % 18446744073709551616) := ⟨by omega, by omega⟩
  rw [u64_andNot _ _ hr.1 hr.2 hF.1 hF.2, u64_and _ _ hX.1 hX.2 hF.1 hF.2]
  have h1 := hr.2
  have h2 := hr.1
  have h3 := hF.2
  have h4 := hF.1
  have a1 : r.toNat &&& (18446744073709551615 - F.toNat) ≤ r.toNat := Nat.and_le_left
  have a2 : (x * 2 ^ a % 18446744073709551616).toNat &&& F.toNat ≤ F.toNat := Nat.and_le_right
  rw [u64_or_nat _ _ (by omega) (by omega)]
  refine bi_ext (by omega) (iv_V r a s x).1 fun i => ?_
  rw [bi_nat, Nat.testBit_or, Nat.testBit_and, Nat.testBit_and, ← bi_toNat hX.1, ← bi_toNat h4, ← bi_toNat h2, hf, iv_bi]
  have e : 18446744073709551615 - F.toNat = 2 ^ 64 - (F.toNat + 1) := by omega
  rw [e, Nat.testBit_two_pow_sub_succ (by omega), ← bi_toNat h4, hf]
  rw [show (18446744073709551616 : Int) = 2 ^ 64 from rfl, bi_mod, bi_mul]
  unfold ib
  by_cases hi : i < 64
  · by_cases hw : a ≤ i ∧ i < a + s
    · simp [hi, hw]
    · simp [hi, hw]
  · rw [V_hi hr (by omega)]
    simp [hi]

end Go.Proofs.Ytfhhlieacmkheaa.Cs
