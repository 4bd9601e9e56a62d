/- Plain arithmetic of what goes bit by bit, and of what is reckoned: no program in sight. -/
import Derived.Test.YtfninhgjejdafaaGBit
namespace Go.Proofs.Ytfninhgjejdafaa.Cs

/-- a bit of a number -/
def bi (x : Int) (i : Nat) : Bool := x / 2 ^ i % 2 == 1

theorem bi_nat (n i : Nat) : bi (n : Int) i = n.testBit i := by
  have e : ((n : Int) / 2 ^ i % 2) = ((n / 2 ^ i % 2 : Nat) : Int) := by simp
  unfold bi
  rw [Nat.testBit_eq_decide_div_mod_eq, e, Bool.eq_iff_iff]
  simp only [beq_iff_eq, decide_eq_true_eq]
  omega
theorem bi_toNat {x : Int} (h : 0 ≤ x) (i : Nat) : bi x i = x.toNat.testBit i := by
  obtain ⟨n, rfl⟩ := Int.eq_ofNat_of_zero_le h
  exact bi_nat n i
theorem bi_ext {x y : Int} (hx : 0 ≤ x) (hy : 0 ≤ y) (h : ∀ i, bi x i = bi y i) : x = y := by
  obtain ⟨m, rfl⟩ := Int.eq_ofNat_of_zero_le hx
  obtain ⟨n, rfl⟩ := Int.eq_ofNat_of_zero_le hy
  congr 1
  exact Nat.eq_of_testBit_eq fun i => by rw [← bi_nat, ← bi_nat]; exact h i
theorem bi_mod {x : Int} (h : 0 ≤ x) (k i : Nat) : bi (x % 2 ^ k) i = (decide (i < k) && bi x i) := by
  obtain ⟨n, rfl⟩ := Int.eq_ofNat_of_zero_le h
  have e : ((n : Int) % 2 ^ k) = ((n % 2 ^ k : Nat) : Int) := by simp
  rw [e, bi_nat, bi_nat, Nat.testBit_mod_two_pow]
theorem bi_high {x : Int} (h : U x) {i : Nat} (hi : 32 ≤ i) : bi x i = false := by
  rw [bi_toNat h.1]
  have h0 := h.1
  have h1 := h.2
  exact Nat.testBit_lt_two_pow (Nat.lt_of_lt_of_le (by omega : x.toNat < 2 ^ 32) (Nat.pow_le_pow_right (by omega) hi))
theorem mod_step {x : Int} (h : 0 ≤ x) (k : Nat) : x % 2 ^ (k + 1) = x % 2 ^ k + if bi x k then 2 ^ k else 0 := by
  obtain ⟨n, rfl⟩ := Int.eq_ofNat_of_zero_le h
  have e : ∀ j : Nat, ((n : Int) % 2 ^ j) = ((n % 2 ^ j : Nat) : Int) := fun j => by simp
  rw [e, e, bi_nat, Nat.mod_pow_succ, Nat.testBit_eq_decide_div_mod_eq]
  have h2 : n / 2 ^ k % 2 = 0 ∨ n / 2 ^ k % 2 = 1 := by omega
  rcases h2 with h2 | h2 <;> rw [h2] <;> simp

/-- how many bits a size has -/
def wd (s : Int) : Nat := (8 * s).toNat
theorem wd_W {s : Int} (hs : Sz s) : (2 : Int) ^ wd s = W s := by
  rcases hs with rfl | rfl | rfl <;> rfl
theorem wd_le {s : Int} (hs : Sz s) : wd s ≤ 32 := by
  rcases hs with rfl | rfl | rfl <;> decide
theorem bi_rest {x s : Int} (hs : Sz s) (h : 0 ≤ x) (i : Nat) : bi (x % W s) i = (decide (i < wd s) && bi x i) := by
  rw [← wd_W hs]; exact bi_mod h _ _

/-- of a bit of both -/
def lgb (op : Int) (p q : Bool) : Bool :=
  if op = 1 then p else if op = 2 then !p else if op = 12 then p || q else if op = 13 then q && !p else if op = 14 then p != q else if op = 15 then p && q else false
/-- of all 32 bits of both -/
def lg (op a b : Int) : Int :=
  if op = 1 then a else if op = 2 then bits .xor .u32 4294967295 a else if op = 12 then bits .or .u32 a b else if op = 13 then bits .andNot .u32 b a else if op = 14 then bits .xor .u32 a b else if op = 15 then bits .and .u32 a b else 0
/-- does it go bit by bit -/
def lgc (op : Int) : Bool := op == 1 || op == 2 || op == 12 || op == 13 || op == 14 || op == 15 || op == 18

theorem xor_U {a b : Int} (ha : U a) (hb : U b) : U (bits .xor .u32 a b) := by
  rw [u32_xor _ _ ha.1 ha.2 hb.1 hb.2]
  have : a.toNat ^^^ b.toNat < 2 ^ 32 := Nat.xor_lt_two_pow (by have := ha.2; omega) (by have := hb.2; omega)
  exact ⟨by omega, by omega⟩
theorem or_U {a b : Int} (ha : U a) (hb : U b) : U (bits .or .u32 a b) := by
  rw [u32_or _ _ ha.1 ha.2 hb.1 hb.2]
  have : a.toNat ||| b.toNat < 2 ^ 32 := Nat.or_lt_two_pow (by have := ha.2; omega) (by have := hb.2; omega)
  exact ⟨by omega, by omega⟩
theorem and_U {a b : Int} (ha : U a) (hb : U b) : U (bits .and .u32 a b) := by
  rw [u32_and _ _ ha.1 ha.2 hb.1 hb.2]
  have : a.toNat &&& b.toNat ≤ a.toNat := Nat.and_le_left
  exact ⟨by omega, by have := ha.2; omega⟩
theorem andNot_U {a b : Int} (ha : U a) (hb : U b) : U (bits .andNot .u32 a b) := by
  rw [u32_andNot _ _ ha.1 ha.2 hb.1 hb.2]
  have : a.toNat &&& (4294967295 - b.toNat) ≤ a.toNat := Nat.and_le_left
  exact ⟨by omega, by have := ha.2; omega⟩

theorem lg_U {op a b : Int} (ha : U a) (hb : U b) : U (lg op a b) := by
  unfold lg
  split
  · exact ha
  split
  · exact xor_U ⟨by omega, by omega⟩ ha
  split
  · exact or_U ha hb
  split
  · exact andNot_U hb ha
  split
  · exact xor_U ha hb
  split
  · exact and_U ha hb
  · exact ⟨by omega, by omega⟩

theorem lg_bi {op a b : Int} (ha : U a) (hb : U b) (i : Nat) (hi : i < 32) : bi (lg op a b) i = lgb op (bi a i) (bi b i) := by
  have hm : bi 4294967295 i = true := by
    show bi ((2 ^ 32 - 1 : Nat) : Int) i = true
    rw [bi_nat, Nat.testBit_two_pow_sub_one]; simp [hi]
  have hx : ∀ {x y : Int}, U x → U y → bi (bits .xor .u32 x y) i = (bi x i != bi y i) := fun {x y} hx hy => by
    rw [u32_xor _ _ hx.1 hx.2 hy.1 hy.2, bi_nat, bi_toNat hx.1, bi_toNat hy.1, Nat.testBit_xor]
  unfold lg lgb
  split
  · rfl
  split
  · rw [hx ⟨by omega, by omega⟩ ha, hm]; cases bi a i <;> rfl
  split
  · rw [u32_or _ _ ha.1 ha.2 hb.1 hb.2, bi_nat, bi_toNat ha.1, bi_toNat hb.1, Nat.testBit_or]
  split
  · rw [u32_andNot _ _ hb.1 hb.2 ha.1 ha.2, bi_nat, bi_toNat ha.1, bi_toNat hb.1, Nat.testBit_and]
    have h1 := ha.2
    have h0 := ha.1
    have e : 4294967295 - a.toNat = 2 ^ 32 - (a.toNat + 1) := by omega
    rw [e, Nat.testBit_two_pow_sub_succ (by omega)]
    simp [hi]
  split
  · exact hx ha hb
  split
  · rw [u32_and _ _ ha.1 ha.2 hb.1 hb.2, bi_nat, bi_toNat ha.1, bi_toNat hb.1, Nat.testBit_and]
  · show bi ((0 : Nat) : Int) i = false
    rw [bi_nat]; simp

/-- the rest of it hangs on the rests alone -/
theorem lg_congr {op a b a' b' s : Int} (hs : Sz s) (ha : U a) (hb : U b) (ha' : U a') (hb' : U b') (h : a % W s = a' % W s) (k : b % W s = b' % W s) : lg op a b % W s = lg op a' b' % W s := by
  have r1 := rest_bound hs (lg op a b)
  have r2 := rest_bound hs (lg op a' b')
  have e : ∀ i, i < wd s → bi a i = bi a' i := fun i hi => by
    have := congrArg (fun x => bi x i) h
    simpa [bi_rest hs ha.1, bi_rest hs ha'.1, hi] using this
  have f : ∀ i, i < wd s → bi b i = bi b' i := fun i hi => by
    have := congrArg (fun x => bi x i) k
    simpa [bi_rest hs hb.1, bi_rest hs hb'.1, hi] using this
  refine bi_ext r1.1 r2.1 fun i => ?_
  rw [bi_rest hs (lg_U ha hb).1, bi_rest hs (lg_U ha' hb').1]
  by_cases hi : i < wd s
  · have hw := wd_le hs
    rw [lg_bi ha hb i (by omega), lg_bi ha' hb' i (by omega), e i hi, f i hi]
  · simp [hi]

end Go.Proofs.Ytfninhgjejdafaa.Cs
