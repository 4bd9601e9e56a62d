/- Plain arithmetic of numbers of one, two and four bytes: no program in sight. -/
import Derived.Laws.BitsAllLaws
namespace Go.Proofs.Ytpimfoejlfmimaa.Cs

/-- one of the three sizes -/
def Sz (s : Int) : Prop := s = 1 ∨ s = 2 ∨ s = 4
/-- how many numbers a size has -/
def W (s : Int) : Int := if s = 1 then 256 else if s = 2 then 65536 else 4294967296
/-- a number's rest, with its sign -/
def sg (x s : Int) : Int := if W s / 2 ≤ x % W s then x % W s - W s else x % W s
/-- a number fits its 32 bits -/
def U (x : Int) : Prop := 0 ≤ x ∧ x < 4294967296

theorem W1 : W 1 = 256 := rfl
theorem W2 : W 2 = 65536 := rfl
theorem W4 : W 4 = 4294967296 := rfl

theorem and_mask {x s : Int} (hs : Sz s) (h : U x) : bits .and .u32 x (W s - 1) = x % W s := by
  obtain ⟨h0, h1⟩ := h
  rcases hs with rfl | rfl | rfl
  · rw [W1, u32_and _ _ h0 h1 (by omega) (by omega)]
    show ((x.toNat &&& 255 : Nat) : Int) = _
    rw [nat_mask8]; omega
  · rw [W2, u32_and _ _ h0 h1 (by omega) (by omega)]
    show ((x.toNat &&& 65535 : Nat) : Int) = _
    rw [nat_mask16]; omega
  · rw [W4, u32_and _ _ h0 h1 (by omega) (by omega)]
    show ((x.toNat &&& 4294967295 : Nat) : Int) = _
    rw [show (4294967295 : Nat) = 2 ^ 32 - 1 from rfl, Nat.and_two_pow_sub_one_eq_mod]; omega

theorem and_top {x s : Int} (hs : Sz s) (h : U x) : bits .and .u32 x (W s / 2) = if W s / 2 ≤ x % W s then W s / 2 else 0 := by
  obtain ⟨h0, h1⟩ := h
  rcases hs with rfl | rfl | rfl
  · rw [W1, u32_and _ _ h0 h1 (by omega) (by omega)]
    show ((x.toNat &&& 2 ^ 7 : Nat) : Int) = _
    rw [nat_bit]; split <;> omega
  · rw [W2, u32_and _ _ h0 h1 (by omega) (by omega)]
    show ((x.toNat &&& 2 ^ 15 : Nat) : Int) = _
    rw [nat_bit]; split <;> omega
  · rw [W4, u32_and _ _ h0 h1 (by omega) (by omega)]
    show ((x.toNat &&& 2 ^ 31 : Nat) : Int) = _
    rw [nat_bit]; split <;> omega

theorem andNot_mask {x s : Int} (hs : Sz s) (h : U x) : bits .andNot .u32 x (W s - 1) = x - x % W s := by
  obtain ⟨h0, h1⟩ := h
  have key : ∀ (n i : Nat), n < 4294967296 → i ≤ 32 → n &&& (4294967295 - (2 ^ i - 1)) = n - n % 2 ^ i := by
    intro n i hn hi
    have e : 4294967295 - (2 ^ i - 1) = (2 ^ (32 - i) - 1) * 2 ^ i := by
      have hp : 2 ^ 32 = 2 ^ (32 - i) * 2 ^ i := by rw [← Nat.pow_add]; congr 1; omega
      rw [Nat.sub_mul, ← hp]; have := Nat.two_pow_pos i; omega
    have hd : n / 2 ^ i < 2 ^ (32 - i) := by
      rw [Nat.div_lt_iff_lt_mul (Nat.two_pow_pos i), ← Nat.pow_add]
      have : 32 - i + i = 32 := by omega
      rw [this]; omega
    apply Nat.eq_of_testBit_eq
    intro j
    rw [e, Nat.testBit_and]
    have e2 : n - n % 2 ^ i = (n / 2 ^ i) * 2 ^ i := by have := Nat.div_add_mod n (2 ^ i); rw [Nat.mul_comm] at this; omega
    rw [e2, Nat.testBit_mul_two_pow, Nat.testBit_mul_two_pow]
    by_cases hj : i ≤ j
    · simp only [hj, decide_true, Bool.true_and, Nat.testBit_two_pow_sub_one, Nat.testBit_div_two_pow]
      rw [Nat.sub_add_cancel hj]
      by_cases hk : j - i < 32 - i
      · simp [hk]
      · have : n.testBit j = false := Nat.testBit_lt_two_pow (Nat.lt_of_lt_of_le (by omega : n < 2 ^ 32) (Nat.pow_le_pow_right (by omega) (by omega)))
        simp [this]
    · simp [hj]
  rcases hs with rfl | rfl | rfl
  · rw [W1, u32_andNot _ _ h0 h1 (by omega) (by omega)]
    have := key x.toNat 8 (by omega) (by omega)
    show ((x.toNat &&& (4294967295 - (2 ^ 8 - 1)) : Nat) : Int) = _
    rw [this]; omega
  · rw [W2, u32_andNot _ _ h0 h1 (by omega) (by omega)]
    have := key x.toNat 16 (by omega) (by omega)
    show ((x.toNat &&& (4294967295 - (2 ^ 16 - 1)) : Nat) : Int) = _
    rw [this]; omega
  · rw [W4, u32_andNot _ _ h0 h1 (by omega) (by omega)]
    have := key x.toNat 32 (by omega) (by omega)
    show ((x.toNat &&& (4294967295 - (2 ^ 32 - 1)) : Nat) : Int) = _
    rw [this]; omega

/-- two numbers without a common bit, the one above, the other below a power of two -/
theorem or_join (i : Nat) (x y : Int) (hx : U x) (hy0 : 0 ≤ y) (hx2 : x % 2 ^ i = 0) (hy : y < 2 ^ i) (hU : U y) : bits .or .u32 x y = x + y := by
  rw [u32_or _ _ hx.1 hx.2 hU.1 hU.2]
  have e := nat_join i x.toNat y.toNat (by obtain ⟨n, rfl⟩ := Int.eq_ofNat_of_zero_le hx.1; simpa using (by exact_mod_cast hx2 : n % 2 ^ i = 0)) (by obtain ⟨n, rfl⟩ := Int.eq_ofNat_of_zero_le hy0; simpa using (by exact_mod_cast hy : n < 2 ^ i))
  have h1 := hx.1
  rw [e]; omega

theorem or_put {x y s : Int} (hs : Sz s) (hx : U x) : bits .or .u32 (x - x % W s) (y % W s) = x - x % W s + y % W s := by
  obtain ⟨h0, h1⟩ := hx
  rcases hs with rfl | rfl | rfl
  · rw [W1]; exact or_join 8 _ _ ⟨by omega, by omega⟩ (by omega) (by omega) (by omega) ⟨by omega, by omega⟩
  · rw [W2]; exact or_join 16 _ _ ⟨by omega, by omega⟩ (by omega) (by omega) (by omega) ⟨by omega, by omega⟩
  · rw [W4]; exact or_join 32 _ _ ⟨by omega, by omega⟩ (by omega) (by omega) (by omega) ⟨by omega, by omega⟩

end Go.Proofs.Ytpimfoejlfmimaa.Cs
