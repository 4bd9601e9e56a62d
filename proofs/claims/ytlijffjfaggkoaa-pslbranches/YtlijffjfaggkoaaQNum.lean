/- Plain arithmetic of the processor's status: no program in sight. -/
import Derived.Test.YtlijffjfaggkoaaPNum
namespace Go.Proofs.Ytlijffjfaggkoaa.Cs

/-- a bit of a number; the level; whether it is the user's -/
def bi (x : Int) (i : Nat) : Bool := x / 2 ^ i % 2 == 1
def ip (x : Int) : Int := x / 65536 % 32
/-- codes as a number; a status with other codes; at another level; a handler's -/
def cd (n z v c : Bool) : Int := wo n 8 + wo z 4 + wo v 2 + wo c 1
def wi (x k : Int) : Int := x - x % 16 + k
def la (x l : Int) : Int := x - ip x * 65536 + l % 32 * 65536
def en (x l : Int) : Int := wo (bi x 24) 4194304 + l % 32 * 65536
/-- bits that a status has; whether one of the first n bits is another one -/
def kn (i : Nat) : Bool := decide (i < 4) || (decide (16 ≤ i) && decide (i ≤ 20)) || i == 22 || i == 24 || i == 27
def rk (x : Int) : Nat → Bool
  | 0 => false
  | n + 1 => rk x n || (!kn n && bi x n)
/-- can it be a status; may one return -/
def gd (x : Int) : Bool := !rk x 32 && (!bi x 24 || (ip x == 0 && bi x 22))
def bk (f t : Int) : Bool := gd t && (bi t 24 || (!bi f 24 && decide (ip t ≤ ip f)))
/-- is a branch taken -/
def br (k : Int) (n z v c : Bool) : Bool :=
  if k = 18 then !z else if k = 19 then z else if k = 20 then !n && !z else if k = 21 then n || z
  else if k = 24 then !n else if k = 25 then n else if k = 26 then !c && !z else if k = 27 then c || z
  else if k = 28 then !v else if k = 29 then v else if k = 30 then !c else if k = 31 then c else false

theorem ip_bound (x : Int) : 0 ≤ ip x ∧ ip x ≤ 31 := by unfold ip; omega
theorem cd_bound (n z v c : Bool) : 0 ≤ cd n z v c ∧ cd n z v c ≤ 15 := by
  unfold cd; cases n <;> cases z <;> cases v <;> cases c <;> simp [wo]
theorem wi_U {x : Int} (h : U x) (n z v c : Bool) : U (wi x (cd n z v c)) := by
  have := cd_bound n z v c
  obtain ⟨h0, h1⟩ := h
  unfold U wi; omega
theorem la_U {x : Int} (h : U x) (l : Int) : U (la x l) := by
  obtain ⟨h0, h1⟩ := h
  unfold U la ip; omega
theorem en_U (x l : Int) : U (en x l) := by
  unfold U en
  rcases wo_or (bi x 24) 4194304 with h | h <;> rw [h] <;> omega
theorem wo_U (b : Bool) : U (wo b 4194304) := by rcases wo_or b 4194304 with h | h <;> rw [h] <;> exact ⟨by omega, by omega⟩

/-! bits -/
theorem nat_field (x i k : Nat) : x &&& ((2 ^ k - 1) * 2 ^ i) = x / 2 ^ i % 2 ^ k * 2 ^ i := by
  apply Nat.eq_of_testBit_eq
  intro j
  rw [Nat.testBit_and, Nat.testBit_mul_two_pow, Nat.testBit_mul_two_pow, Nat.testBit_two_pow_sub_one, Nat.testBit_mod_two_pow, Nat.testBit_div_two_pow]
  by_cases h : i ≤ j
  · simp [h, Bool.and_comm, Nat.sub_add_cancel h]
  · simp [h]
theorem nat_andNot (x m : Nat) (hx : x < 4294967296) (hm : m < 4294967296) : x &&& (4294967295 - m) = x - (x &&& m) := by
  have e : (BitVec.ofNat 32 x &&& ~~~ BitVec.ofNat 32 m) + (BitVec.ofNat 32 x &&& BitVec.ofNat 32 m) = BitVec.ofNat 32 x := by
    rw [BitVec.add_eq_or_of_and_eq_zero]
    · ext i hi; simp only [BitVec.getElem_or, BitVec.getElem_and, BitVec.getElem_not]
      cases (BitVec.ofNat 32 x)[i] <;> cases (BitVec.ofNat 32 m)[i] <;> rfl
    · ext i hi; simp only [BitVec.getElem_and, BitVec.getElem_not, BitVec.getElem_zero]
      cases (BitVec.ofNat 32 x)[i] <;> cases (BitVec.ofNat 32 m)[i] <;> rfl
  have e2 := congrArg BitVec.toNat e
  rw [BitVec.toNat_add, BitVec.toNat_and, BitVec.toNat_and, BitVec.toNat_not, BitVec.toNat_ofNat, BitVec.toNat_ofNat, Nat.mod_eq_of_lt (show x < 2 ^ 32 by omega), Nat.mod_eq_of_lt (show m < 2 ^ 32 by omega)] at e2
  have h1 : x &&& (4294967295 - m) ≤ x := Nat.and_le_left
  have h2 : x &&& m ≤ x := Nat.and_le_left
  rw [show 2 ^ 32 - 1 - m = 4294967295 - m from rfl] at e2
  generalize x &&& (4294967295 - m) = a at *
  generalize x &&& m = b at *
  omega
theorem and_field (x m : Int) (i k : Nat) (hx : U x) (hm : U m) (he : m.toNat = (2 ^ k - 1) * 2 ^ i) : bits .and .u32 x m = x / 2 ^ i % 2 ^ k * 2 ^ i := by
  rw [u32_and _ _ hx.1 hx.2 hm.1 hm.2, he, nat_field]
  have h0 := hx.1
  obtain ⟨n, rfl⟩ := Int.eq_ofNat_of_zero_le h0
  rw [show ((n : Int).toNat) = n from rfl]
  simp
theorem andNot_sub (x m : Int) (hx : U x) (hm : U m) : bits .andNot .u32 x m = x - bits .and .u32 x m := by
  have h0 := hx.1
  have h1 := hx.2
  have h2 := hm.1
  have h3 := hm.2
  rw [u32_andNot _ _ hx.1 hx.2 hm.1 hm.2, u32_and _ _ hx.1 hx.2 hm.1 hm.2, nat_andNot _ _ (by omega) (by omega)]
  have : x.toNat &&& m.toNat ≤ x.toNat := Nat.and_le_left
  omega
theorem and_ipls {x : Int} (hx : U x) : bits .and .u32 x 2031616 = ip x * 65536 := by
  have := and_field x 2031616 16 5 hx ⟨by omega, by omega⟩ (by decide)
  rw [this]; unfold ip; rfl
theorem andNot_ipls {x : Int} (hx : U x) : bits .andNot .u32 x 2031616 = x - ip x * 65536 := by
  rw [andNot_sub _ _ hx ⟨by omega, by omega⟩, and_ipls hx]
theorem andNot_codes {x : Int} (hx : U x) : bits .andNot .u32 x 15 = x - x % 16 := by
  rw [andNot_sub _ _ hx ⟨by omega, by omega⟩]
  have := and_field x 15 0 4 hx ⟨by omega, by omega⟩ (by decide)
  rw [this]; simp
theorem and_bit {x : Int} (hx : U x) (i : Nat) (hi : i < 32) : (bits .and .u32 x (2 ^ i) != 0) = bi x i := by
  have h0 := hx.1
  obtain ⟨n, rfl⟩ := Int.eq_ofNat_of_zero_le h0
  have hp : (2 : Nat) ^ i < 4294967296 := by
    have : 2 ^ i < 2 ^ 32 := Nat.pow_lt_pow_right (by omega) hi
    omega
  have hn : n < 4294967296 := by have := hx.2; omega
  have e := u32_and_nat n (2 ^ i) hn hp
  rw [nat_bit] at e
  have e' : bits .and .u32 (n : Int) (2 ^ i) = ((n / 2 ^ i % 2 * 2 ^ i : Nat) : Int) := by exact_mod_cast e
  rw [e']
  unfold bi
  have e2 : (n : Int) / 2 ^ i % 2 = ((n / 2 ^ i % 2 : Nat) : Int) := by simp
  rw [e2]
  have hp0 := Nat.two_pow_pos i
  have h2 : n / 2 ^ i % 2 = 0 ∨ n / 2 ^ i % 2 = 1 := by omega
  rcases h2 with h | h <;> rw [h]
  · simp
  · rw [Nat.one_mul]
    have : ((2 ^ i : Nat) : Int) ≠ 0 := by omega
    rw [show (((2 ^ i : Nat) : Int) != 0) = true from bne_iff_ne.mpr this]
    rfl
theorem bi_bit (n i : Nat) : bi (n : Int) i = n.testBit i := by
  unfold bi
  have e2 : (n : Int) / 2 ^ i % 2 = ((n / 2 ^ i % 2 : Nat) : Int) := by simp
  rw [e2, Nat.testBit_eq_decide_div_mod_eq]
  rw [Bool.eq_iff_iff]; simp; omega
theorem rk_iff (x : Int) (n : Nat) : rk x n = true ↔ ∃ i, i < n ∧ kn i = false ∧ bi x i = true := by
  induction n with
  | zero => simp [rk]
  | succ n ih =>
    rw [rk, Bool.or_eq_true, ih]
    constructor
    · rintro (⟨i, h1, h2⟩ | h)
      · exact ⟨i, by omega, h2⟩
      · simp at h; exact ⟨n, by omega, h⟩
    · rintro ⟨i, h1, h2, h3⟩
      by_cases h : i = n
      · subst h; right; simp [h2, h3]
      · left; exact ⟨i, by omega, h2, h3⟩
theorem kn_bit : ∀ i, i < 32 → (4294967295 - 157220879).testBit i = !kn i := by decide
theorem and_rest {x : Int} (hx : U x) : (bits .andNot .u32 x 157220879 != 0) = rk x 32 := by
  have h0 := hx.1
  have h1 := hx.2
  rw [u32_andNot _ _ h0 h1 (by omega) (by omega)]
  obtain ⟨n, rfl⟩ := Int.eq_ofNat_of_zero_le h0
  rw [show ((n : Int).toNat) = n from rfl, show (157220879 : Int).toNat = 157220879 from rfl]
  rw [Bool.eq_iff_iff, rk_iff]
  generalize hM : 4294967295 - 157220879 = M
  have hk := kn_bit
  rw [hM] at hk
  have hM32 : M < 2 ^ 32 := by omega
  have hz : (((n &&& M : Nat) : Int) != 0) = true ↔ n &&& M ≠ 0 := by
    constructor
    · intro h e; rw [e] at h; simp at h
    · intro h; simp only [bne_iff_ne]; omega
  rw [hz]
  constructor
  · intro h
    obtain ⟨i, hi⟩ := Nat.exists_testBit_of_ne_zero h
    rw [Nat.testBit_and, Bool.and_eq_true] at hi
    have hi32 : i < 32 := by
      by_cases hl : i < 32
      · exact hl
      · have := Nat.testBit_lt_two_pow (Nat.lt_of_lt_of_le hM32 (Nat.pow_le_pow_right (by omega) (Nat.le_of_not_lt hl)))
        rw [this] at hi; simp at hi
    refine ⟨i, hi32, ?_, ?_⟩
    · have := hk i hi32; rw [hi.2] at this; simpa using this.symm
    · rw [bi_bit]; exact hi.1
  · rintro ⟨i, hi, hk', hb⟩ e
    have := congrArg (fun z => Nat.testBit z i) e
    simp only [Nat.testBit_and, Nat.zero_testBit] at this
    rw [hk i hi, hk', ← bi_bit, hb] at this
    simp at this

/-! codes as a number -/
theorem or_codes (n z v c : Bool) : bits .or .u32 (bits .or .u32 (bits .or .u32 (wo n 8) (wo z 4)) (wo v 2)) (wo c 1) = cd n z v c := by
  cases n <;> cases z <;> cases v <;> cases c <;> decide
theorem or_with {x : Int} (hx : U x) (n z v c : Bool) : bits .or .u32 (x - x % 16) (cd n z v c) = wi x (cd n z v c) := by
  have hb := cd_bound n z v c
  obtain ⟨h0, h1⟩ := hx
  have := or_join 4 (x - x % 16) (cd n z v c) ⟨by omega, by omega⟩ (by omega) (by omega) ⟨by omega, by omega⟩
  rw [this]; rfl
/-- the level, put in -/
theorem and_level (l : Int) : bits .and .u32 (l % 4294967296 * 65536 % 4294967296) 2031616 = l % 32 * 65536 := by
  rw [and_ipls ⟨by omega, by omega⟩]; unfold ip; omega
theorem or_add (a b : Int) (m : Nat) (ha : U a) (hb : U b) (h1 : a.toNat &&& m = 0) (h2 : b.toNat &&& m = b.toNat) : bits .or .u32 a b = a + b := by
  rw [u32_or _ _ ha.1 ha.2 hb.1 hb.2]
  have e : a.toNat &&& b.toNat = 0 := by rw [← h2, Nat.and_comm b.toNat, ← Nat.and_assoc, h1, Nat.zero_and]
  have ea := ha.1
  have eb := hb.1
  have ha1 := ha.2
  have hb1 := hb.2
  have k : (BitVec.ofNat 33 a.toNat) + (BitVec.ofNat 33 b.toNat) = BitVec.ofNat 33 a.toNat ||| BitVec.ofNat 33 b.toNat := by
    apply BitVec.add_eq_or_of_and_eq_zero
    apply BitVec.eq_of_toNat_eq
    rw [BitVec.toNat_and, BitVec.toNat_ofNat, BitVec.toNat_ofNat, Nat.mod_eq_of_lt (by omega), Nat.mod_eq_of_lt (by omega), e]; rfl
  have k2 := congrArg BitVec.toNat k
  rw [BitVec.toNat_add, BitVec.toNat_or, BitVec.toNat_ofNat, BitVec.toNat_ofNat, Nat.mod_eq_of_lt (by omega), Nat.mod_eq_of_lt (by omega), Nat.mod_eq_of_lt (by omega)] at k2
  omega
theorem or_level {x : Int} (hx : U x) (l : Int) : bits .or .u32 (x - ip x * 65536) (l % 32 * 65536) = la x l := by
  obtain ⟨h0, h1⟩ := hx
  have hb := ip_bound x
  have e1 : U (x - ip x * 65536) := by unfold U ip; omega
  have e2 : U (l % 32 * 65536) := by unfold U; omega
  have f1 := and_ipls e1
  have f2 := and_ipls e2
  rw [show ip (x - ip x * 65536) = 0 by unfold ip; omega] at f1
  rw [show ip (l % 32 * 65536) = l % 32 by unfold ip; omega] at f2
  rw [u32_and _ _ e1.1 e1.2 (by omega) (by omega)] at f1
  rw [u32_and _ _ e2.1 e2.2 (by omega) (by omega)] at f2
  rw [or_add _ _ 2031616 e1 e2 (by rw [show (2031616 : Int).toNat = 2031616 from rfl] at f1; omega) (by rw [show (2031616 : Int).toNat = 2031616 from rfl] at f2; omega)]
  rfl
theorem la_was (b : Bool) (l : Int) : la (wo b 4194304) l = wo b 4194304 + l % 32 * 65536 := by
  unfold la ip; cases b <;> simp [wo]
theorem mod32 (l : Int) : (l.tmod 32 + 32).tmod 32 = l % 32 := by
  rw [Int.tmod_eq_emod_of_nonneg (b := 32) (a := l.tmod 32 + 32)]
  · rcases Int.le_total 0 l with h | h
    · rw [Int.tmod_eq_emod_of_nonneg h]; omega
    · obtain ⟨n, rfl⟩ : ∃ n : Int, l = -n := ⟨-l, by omega⟩
      rw [Int.neg_tmod, Int.tmod_eq_emod_of_nonneg (by omega)]; omega
  · have := Int.lt_tmod_of_pos l (b := 32) (by omega); omega

/-! what Back is, as the program has it -/
theorem bk_prog (f t : Int) : (gd t && (bi t 24 || !bi f 24) && decide (ip t ≤ ip f)) = bk f t := by
  unfold bk gd
  have h1 := ip_bound f
  cases bi t 24 <;> cases bi f 24 <;> cases rk t 32 <;> cases bi t 22 <;> by_cases h : ip t = 0 <;> simp [h] <;> omega
theorem bk_level {f t : Int} (h : bk f t = true) : ip t ≤ ip f := by
  rw [← bk_prog] at h
  simp at h; exact h.2
theorem bk_user {f t : Int} (h : bk f t = true) (hf : bi f 24 = true) : bi t 24 = true := by
  rw [← bk_prog] at h
  simp [hf] at h; exact h.1.2

/-! parts beside one another -/
theorem bi_cases (x : Int) (i : Nat) : (bi x i = true ∧ x / 2 ^ i % 2 = 1) ∨ (bi x i = false ∧ x / 2 ^ i % 2 = 0) := by
  unfold bi
  have : x / 2 ^ i % 2 = 0 ∨ x / 2 ^ i % 2 = 1 := by omega
  rcases this with h | h <;> rw [h] <;> simp
theorem cd_bits (n z v c : Bool) (y : Int) (h : y % 16 = cd n z v c) : bi y 3 = n ∧ bi y 2 = z ∧ bi y 1 = v ∧ bi y 0 = c := by
  unfold bi
  rw [show (2 : Int) ^ 3 = 8 from rfl, show (2 : Int) ^ 2 = 4 from rfl, show (2 : Int) ^ 1 = 2 from rfl, show (2 : Int) ^ 0 = 1 from rfl]
  cases n <;> cases z <;> cases v <;> cases c <;> simp [cd, wo] at h <;> simp <;> omega
theorem cd_self (x : Int) : cd (bi x 3) (bi x 2) (bi x 1) (bi x 0) = x % 16 := by
  have a := bi_cases x 3
  have b := bi_cases x 2
  have c := bi_cases x 1
  have d := bi_cases x 0
  rw [show (2 : Int) ^ 3 = 8 from rfl] at a
  rw [show (2 : Int) ^ 2 = 4 from rfl] at b
  rw [show (2 : Int) ^ 1 = 2 from rfl] at c
  rw [show (2 : Int) ^ 0 = 1 from rfl] at d
  unfold cd
  rcases a with ⟨a, a'⟩ | ⟨a, a'⟩ <;> rcases b with ⟨b, b'⟩ | ⟨b, b'⟩ <;> rcases c with ⟨c, c'⟩ | ⟨c, c'⟩ <;> rcases d with ⟨d, d'⟩ | ⟨d, d'⟩ <;> rw [a, b, c, d] <;> simp [wo] <;> omega
end Go.Proofs.Ytlijffjfaggkoaa.Cs
