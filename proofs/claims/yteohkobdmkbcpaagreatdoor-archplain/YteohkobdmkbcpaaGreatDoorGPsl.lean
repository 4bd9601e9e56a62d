import Derived.Laws.BitsAllLaws
import Derived.Laws.Bits128
import Derived.WalkKit
import Derived.Deep.QuietTactic
import Derived.BigQuiet
import Derived.Test.YteohkobdmkbcpaaGreatDoorRows
import Derived.WalkLawsBesides
import Derived.Outline
import Derived.Lib.Hide
import Derived.OpenShut
import Derived.RegionTactic
import Derived.ChangeAlike
import Derived.Deep.LoopGhost
import Derived.Deep.CutRange
import Derived.ChangeSame

/- Plain arithmetic of entries of page tables: no program in sight. -/
namespace Go.Proofs.YteohkobdmkbcpaaGreatDoor.Ps

/-- a number fits its 32 bits -/
def U (x : Int) : Prop := 0 ≤ x ∧ x < 4294967296
/-- an entry's protection, its two bits, and what may be done -/
def pr (x : Int) : Int := x / 134217728 % 4
def iv (x : Int) : Bool := x / 2147483648 % 2 == 1
def im (x : Int) : Bool := x / 67108864 % 2 == 1
def lst (u w : Bool) : Int := if u then (if w then 3 else 2) else 1
def my (x : Int) (u w : Bool) : Bool := decide (lst u w ≤ pr x)
/-- where a byte lies -/
def pl (x va : Int) : Int := x % 2097152 * 512 + va % 512
/-- a bit's worth -/
def wo (b : Bool) (n : Int) : Int := if b then n else 0
/-- an entry of its parts -/
def mk (v : Bool) (p : Int) (m : Bool) (f : Int) : Int := wo v 2147483648 + p % 4 * 134217728 + wo m 67108864 + f % 2097152

theorem pr_bound (x : Int) : 0 ≤ pr x ∧ pr x ≤ 3 := by unfold pr; omega
theorem pl_U (x va : Int) : U (pl x va) := by unfold U pl; omega
theorem wo_or (b : Bool) (n : Int) : wo b n = n ∨ wo b n = 0 := by cases b <;> simp [wo]
theorem mk_U (v : Bool) (p : Int) (m : Bool) (f : Int) : U (mk v p m f) := by
  unfold U mk
  rcases wo_or v 2147483648 with h | h <;> rcases wo_or m 67108864 with k | k <;> rw [h, k] <;> omega

theorem and_frames {x : Int} (h : U x) : bits .and .u32 x 2097151 = x % 2097152 := by
  obtain ⟨h0, h1⟩ := h
  rw [u32_and _ _ h0 h1 (by omega) (by omega)]
  show ((x.toNat &&& 2097151 : Nat) : Int) = _
  rw [nat_mask21]; omega
theorem and_three {x : Int} (h0 : 0 ≤ x) (h1 : x < 4294967296) : bits .and .u32 x 3 = x % 4 := by
  rw [u32_and _ _ h0 h1 (by omega) (by omega)]
  show ((x.toNat &&& 3 : Nat) : Int) = _
  rw [nat_mask2]; omega
theorem and_valid {x : Int} (h : U x) : (bits .and .u32 x 2147483648 != 0) = iv x := by
  obtain ⟨h0, h1⟩ := h
  rw [u32_and _ _ h0 h1 (by omega) (by omega)]
  show ((((x.toNat &&& 2 ^ 31 : Nat) : Int)) != 0) = _
  rw [nat_bit]
  unfold iv
  have : x / 2147483648 % 2 = 1 ∨ x / 2147483648 % 2 = 0 := by omega
  rcases this with h | h
  · rw [h, show x.toNat / 2 ^ 31 % 2 = 1 by omega]; rfl
  · rw [h, show x.toNat / 2 ^ 31 % 2 = 0 by omega]; rfl
theorem and_modified {x : Int} (h : U x) : (bits .and .u32 x 67108864 != 0) = im x := by
  obtain ⟨h0, h1⟩ := h
  rw [u32_and _ _ h0 h1 (by omega) (by omega)]
  show ((((x.toNat &&& 2 ^ 26 : Nat) : Int)) != 0) = _
  rw [nat_bit]
  unfold im
  have : x / 67108864 % 2 = 1 ∨ x / 67108864 % 2 = 0 := by omega
  rcases this with h | h
  · rw [h, show x.toNat / 2 ^ 26 % 2 = 1 by omega]; rfl
  · rw [h, show x.toNat / 2 ^ 26 % 2 = 0 by omega]; rfl
theorem i64_and3 (n : Int) : bits .and .i64 n 3 = n % 4 := by
  have h3 : (BitVec.ofInt 64 3).toNat = 2 ^ 2 - 1 := by decide
  have key : (BitVec.ofInt 64 n &&& BitVec.ofInt 64 3).toNat = (n % ((2 ^ 64 : Nat) : Int)).toNat % 2 ^ 2 := by
    rw [BitVec.toNat_and, BitVec.toNat_ofInt, h3, Nat.and_two_pow_sub_one_eq_mod]
  show IntKind.i64.wrap ((BitVec.ofInt 64 n &&& BitVec.ofInt 64 3).toNat : Nat) = n % 4
  rw [key, IntKind.wrap_i64]
  omega

/-- two numbers without a common bit, the one above, the other below a power of two -/
theorem or_join (i : Nat) (x y : Int) (hx : U x) (hx2 : x % 2 ^ i = 0) (hy : y < 2 ^ i) (hU : U y) : bits .or .u32 x y = x + y := by
  rw [u32_or _ _ hx.1 hx.2 hU.1 hU.2]
  have hy0 := hU.1
  have e := nat_join i x.toNat y.toNat (by obtain ⟨n, rfl⟩ := Int.eq_ofNat_of_zero_le hx.1; simpa using (by exact_mod_cast hx2 : n % 2 ^ i = 0)) (by obtain ⟨n, rfl⟩ := Int.eq_ofNat_of_zero_le hy0; simpa using (by exact_mod_cast hy : n < 2 ^ i))
  have h1 := hx.1
  rw [e]; omega
theorem or_comm32 (x y : Int) : bits .or .u32 x y = bits .or .u32 y x := by simp only [bits, BitVec.or_comm]
theorem or_one (i : Nat) (x : Int) (hi : i < 32) (hx : U x) (h : x / 2 ^ i % 2 = 0) : bits .or .u32 x (2 ^ i) = x + 2 ^ i := by
  obtain ⟨n, rfl⟩ := Int.eq_ofNat_of_zero_le hx.1
  have hn : n < 4294967296 := by have := hx.2; omega
  have hp : 2 ^ i < 4294967296 := by
    have : 2 ^ i < 2 ^ 32 := Nat.pow_lt_pow_right (by omega) hi
    omega
  have h2 : n / 2 ^ i % 2 = 0 := by exact_mod_cast h
  have e : n ||| 2 ^ i = n + 2 ^ i := by
    have hp0 := Nat.two_pow_pos i
    have hL : n % 2 ^ i < 2 ^ i := Nat.mod_lt _ hp0
    have hsp : n = n / 2 ^ (i + 1) * 2 ^ (i + 1) + n % 2 ^ i := by
      have e1 := Nat.div_add_mod n (2 ^ i)
      have e2 := Nat.div_add_mod (n / 2 ^ i) 2
      rw [h2, Nat.div_div_eq_div_mul, ← Nat.pow_succ, Nat.add_zero] at e2
      rw [← e2] at e1
      rw [Nat.pow_succ, Nat.mul_comm (n / (2 ^ i * 2)), Nat.mul_assoc]
      exact e1.symm
    generalize hH : n / 2 ^ (i + 1) * 2 ^ (i + 1) = H at hsp
    generalize hl : n % 2 ^ i = L at hsp hL
    have hH0 : H % 2 ^ (i + 1) = 0 := by rw [← hH]; exact Nat.mul_mod_left _ _
    have hH1 : H % 2 ^ i = 0 := by rw [← hH, Nat.pow_succ, Nat.mul_comm (2 ^ i) 2, ← Nat.mul_assoc]; exact Nat.mul_mod_left _ _
    have j1 := nat_join i H L hH1 hL
    have j2 := nat_join i (2 ^ i) L (Nat.mod_self _) hL
    have j3 := nat_join (i + 1) H (2 ^ i + L) hH0 (by rw [Nat.pow_succ]; omega)
    rw [hsp, ← j1, Nat.or_assoc, Nat.or_comm L, j2, j3, j1]; omega
  have := u32_or_nat n (2 ^ i) hn hp
  rw [e] at this
  exact_mod_cast this

theorem make_one {p f : Int} (hf : U f) : bits .or .u32 (p % 4 * 134217728) (f % 2097152) = p % 4 * 134217728 + f % 2097152 := by
  obtain ⟨h0, h1⟩ := hf
  exact or_join 21 _ _ ⟨by omega, by omega⟩ (by omega) (by omega) ⟨by omega, by omega⟩
theorem make_valid {p f : Int} : bits .or .u32 (p % 4 * 134217728 + f % 2097152) 2147483648 = 2147483648 + p % 4 * 134217728 + f % 2097152 := by
  have := or_one 31 (p % 4 * 134217728 + f % 2097152) (by omega) ⟨by omega, by omega⟩ (by omega)
  rw [show (2 : Int) ^ 31 = 2147483648 from rfl] at this
  rw [this]; omega
theorem make_modified {v : Bool} {p f : Int} : bits .or .u32 (wo v 2147483648 + p % 4 * 134217728 + f % 2097152) 67108864 = wo v 2147483648 + p % 4 * 134217728 + 67108864 + f % 2097152 := by
  have hw := wo_or v 2147483648
  have := or_one 26 (wo v 2147483648 + p % 4 * 134217728 + f % 2097152) (by omega) ⟨by omega, by omega⟩ (by omega)
  rw [show (2 : Int) ^ 26 = 67108864 from rfl] at this
  rw [this]; omega

/-! what is made has its parts -/
theorem mk_frame (v : Bool) (p : Int) (m : Bool) (f : Int) : mk v p m f % 2097152 = f % 2097152 := by
  unfold mk
  rcases wo_or v 2147483648 with h | h <;> rcases wo_or m 67108864 with k | k <;> rw [h, k] <;> omega
theorem mk_pr (v : Bool) (p : Int) (m : Bool) (f : Int) : pr (mk v p m f) = p % 4 := by
  unfold mk pr
  rcases wo_or v 2147483648 with h | h <;> rcases wo_or m 67108864 with k | k <;> rw [h, k] <;> omega
theorem mk_iv (v : Bool) (p : Int) (m : Bool) (f : Int) : iv (mk v p m f) = v := by
  unfold mk iv
  rcases wo_or m 67108864 with k | k <;> rw [k] <;> cases v <;> simp [wo] <;> omega
theorem mk_im (v : Bool) (p : Int) (m : Bool) (f : Int) : im (mk v p m f) = m := by
  unfold mk im
  rcases wo_or v 2147483648 with k | k <;> rw [k] <;> cases m <;> simp [wo] <;> omega
theorem four_mod {p : Int} : (p.tmod 4 + 4).tmod 4 = p % 4 := by
  rw [Int.tmod_eq_emod_of_nonneg (b := 4) (a := p.tmod 4 + 4)]
  · rcases Int.le_total 0 p with h | h
    · rw [Int.tmod_eq_emod_of_nonneg h]; omega
    · obtain ⟨n, rfl⟩ : ∃ n : Int, p = -n := ⟨-p, by omega⟩
      rw [Int.neg_tmod, Int.tmod_eq_emod_of_nonneg (by omega)]; omega
  · have := Int.lt_tmod_of_pos p (b := 4) (by omega); omega

/-! bits that say nothing -/
theorem part_xor (a b i k : Nat) (h : b / 2 ^ i % 2 ^ k = 0) : (a ^^^ b) / 2 ^ i % 2 ^ k = a / 2 ^ i % 2 ^ k := by
  rw [Nat.xor_div_two_pow, Nat.xor_mod_two_pow, h, Nat.xor_zero]
theorem part_and (y m i k : Nat) (h : m / 2 ^ i % 2 ^ k = 0) : (y &&& m) / 2 ^ i % 2 ^ k = 0 := by
  rw [Nat.and_div_two_pow, Nat.and_mod_two_pow, h, Nat.and_zero]
theorem xor_U {x y : Int} (hx : U x) (hy : U y) : U (bits .xor .u32 x y) := by
  rw [u32_xor _ _ hx.1 hx.2 hy.1 hy.2]
  have h1 := hx.1
  have h2 := hx.2
  have h3 := hy.1
  have h4 := hy.2
  have := Nat.xor_lt_two_pow (x := x.toNat) (y := y.toNat) (n := 32) (by omega) (by omega)
  exact ⟨by omega, by omega⟩
theorem and_U {x y : Int} (hx : U x) (hy : U y) : U (bits .and .u32 x y) := by
  rw [u32_and _ _ hx.1 hx.2 hy.1 hy.2]
  have h1 := hx.1
  have h2 := hx.2
  have := Nat.and_le_left (n := x.toNat) (m := y.toNat)
  exact ⟨by omega, by omega⟩
/-- of what a second number has no bits of, nothing is changed -/
theorem xor_part (x y : Int) (i k : Nat) (hx : U x) (hy : U y) (h : y.toNat / 2 ^ i % 2 ^ k = 0) : bits .xor .u32 x y / 2 ^ i % 2 ^ k = x / 2 ^ i % 2 ^ k := by
  rw [u32_xor _ _ hx.1 hx.2 hy.1 hy.2]
  have := part_xor x.toNat y.toNat i k h
  have hx1 := hx.1
  obtain ⟨n, rfl⟩ := Int.eq_ofNat_of_zero_le hx1
  rw [show ((n : Int).toNat) = n from rfl] at this ⊢
  exact_mod_cast this
theorem and_part (y m : Int) (i k : Nat) (hy : U y) (hm : U m) (h : m.toNat / 2 ^ i % 2 ^ k = 0) : (bits .and .u32 y m).toNat / 2 ^ i % 2 ^ k = 0 := by
  rw [u32_and _ _ hy.1 hy.2 hm.1 hm.2]
  exact part_and y.toNat m.toNat i k h

/-- the same entry, but for bits that say nothing -/
theorem same_parts {x y : Int} (hx : U x) (hy : U y) :
    let z := bits .xor .u32 x (bits .and .u32 y 1675624448)
    U z ∧ z % 2097152 = x % 2097152 ∧ pr z = pr x ∧ iv z = iv x ∧ im z = im x := by
  intro z
  have hm : U 1675624448 := ⟨by omega, by omega⟩
  have hn := and_U hy hm
  have P : ∀ i k : Nat, (1675624448 : Int).toNat / 2 ^ i % 2 ^ k = 0 → z / 2 ^ i % 2 ^ k = x / 2 ^ i % 2 ^ k :=
    fun i k h => xor_part x _ i k hx hn (and_part y _ i k hy hm h)
  refine ⟨xor_U hx hn, ?_, ?_, ?_, ?_⟩
  · have := P 0 21 (by decide)
    rw [show (2 : Int) ^ 0 = 1 from rfl, show (2 : Int) ^ 21 = 2097152 from rfl, Int.ediv_one, Int.ediv_one] at this
    exact this
  · exact P 27 2 (by decide)
  · have := P 31 1 (by decide)
    unfold iv
    rw [show z / 2147483648 % 2 = x / 2147483648 % 2 from this]
  · have := P 26 1 (by decide)
    unfold im
    rw [show z / 67108864 % 2 = x / 67108864 % 2 from this]
theorem same_rights {x : Int} (hx : U x) :
    let z := bits .xor .u32 (bits .xor .u32 x 2147483648) 67108864
    U z ∧ pr z = pr x := by
  intro z
  have hv : U 2147483648 := ⟨by omega, by omega⟩
  have hm : U 67108864 := ⟨by omega, by omega⟩
  have h1 := xor_U hx hv
  have e1 := xor_part x _ 27 2 hx hv (by decide)
  have e2 := xor_part _ _ 27 2 h1 hm (by decide)
  exact ⟨xor_U h1 hm, e2.trans e1⟩

/-! rights -/
theorem my_read {x : Int} (u : Bool) (h : my x u true = true) : my x u false = true := by
  unfold my lst at *; cases u <;> simp at * <;> omega
theorem my_kernel {x : Int} (w : Bool) (h : my x true w = true) : my x false w = true := by
  unfold my lst at *; cases w <;> simp at * <;> omega
theorem my_eq {x z : Int} (h : pr z = pr x) (u w : Bool) : my z u w = my x u w := by unfold my; rw [h]
theorem pl_eq {x z : Int} (h : z % 2097152 = x % 2097152) (va : Int) : pl z va = pl x va := by unfold pl; rw [h]
end Go.Proofs.YteohkobdmkbcpaaGreatDoor.Ps

/- Plain arithmetic of the processor's status: no program in sight. -/
namespace Go.Proofs.YteohkobdmkbcpaaGreatDoor.Ps

/-- a bit of a number; the level; whether it is the user's -/
def bi (x : Int) (i : Nat) : Bool := x / 2 ^ i % 2 == 1
def ip (x : Int) : Int := x / 65536 % 32
/-- codes as a number; a status with other codes; at another level; a handler's -/
def cd (n z v c : Bool) : Int := wo n 8 + wo z 4 + wo v 2 + wo c 1
def wi (x k : Int) : Int := x - x % 16 + k
def la (x l : Int) : Int := x - ip x * 65536 + l % 32 * 65536
def en (x l : Int) : Int := wo (bi x 24) 4194304 + l % 32 * 65536
/-- bits that a status has; whether one of the first n bits is another one -/
def kn (i : Nat) : Bool := decide (i < 4) || (decide (16 ≤ i) && decide (i ≤ 20)) || i == 22 || i == 24 || i == 27
def rk (x : Int) : Nat → Bool
  | 0 => false
  | n + 1 => rk x n || (!kn n && bi x n)
/-- can it be a status; may one return -/
def gd (x : Int) : Bool := !rk x 32 && (!bi x 24 || (ip x == 0 && bi x 22))
def bk (f t : Int) : Bool := gd t && (bi t 24 || (!bi f 24 && decide (ip t ≤ ip f)))
/-- is a branch taken -/
def br (k : Int) (n z v c : Bool) : Bool :=
  if k = 18 then !z else if k = 19 then z else if k = 20 then !n && !z else if k = 21 then n || z
  else if k = 24 then !n else if k = 25 then n else if k = 26 then !c && !z else if k = 27 then c || z
  else if k = 28 then !v else if k = 29 then v else if k = 30 then !c else if k = 31 then c else false

theorem ip_bound (x : Int) : 0 ≤ ip x ∧ ip x ≤ 31 := by unfold ip; omega
theorem cd_bound (n z v c : Bool) : 0 ≤ cd n z v c ∧ cd n z v c ≤ 15 := by
  unfold cd; cases n <;> cases z <;> cases v <;> cases c <;> simp [wo]
theorem wi_U {x : Int} (h : U x) (n z v c : Bool) : U (wi x (cd n z v c)) := by
  have := cd_bound n z v c
  obtain ⟨h0, h1⟩ := h
  unfold U wi; omega
theorem la_U {x : Int} (h : U x) (l : Int) : U (la x l) := by
  obtain ⟨h0, h1⟩ := h
  unfold U la ip; omega
theorem en_U (x l : Int) : U (en x l) := by
  unfold U en
  rcases wo_or (bi x 24) 4194304 with h | h <;> rw [h] <;> omega
theorem wo_U (b : Bool) : U (wo b 4194304) := by rcases wo_or b 4194304 with h | h <;> rw [h] <;> exact ⟨by omega, by omega⟩

/-! bits -/
theorem nat_field (x i k : Nat) : x &&& ((2 ^ k - 1) * 2 ^ i) = x / 2 ^ i % 2 ^ k * 2 ^ i := by
  apply Nat.eq_of_testBit_eq
  intro j
  rw [Nat.testBit_and, Nat.testBit_mul_two_pow, Nat.testBit_mul_two_pow, Nat.testBit_two_pow_sub_one, Nat.testBit_mod_two_pow, Nat.testBit_div_two_pow]
  by_cases h : i ≤ j
  · simp [h, Bool.and_comm, Nat.sub_add_cancel h]
  · simp [h]
theorem nat_andNot (x m : Nat) (hx : x < 4294967296) (hm : m < 4294967296) : x &&& (4294967295 - m) = x - (x &&& m) := by
  have e : (BitVec.ofNat 32 x &&& ~~~ BitVec.ofNat 32 m) + (BitVec.ofNat 32 x &&& BitVec.ofNat 32 m) = BitVec.ofNat 32 x := by
    rw [BitVec.add_eq_or_of_and_eq_zero]
    · ext i hi; simp only [BitVec.getElem_or, BitVec.getElem_and, BitVec.getElem_not]
      cases (BitVec.ofNat 32 x)[i] <;> cases (BitVec.ofNat 32 m)[i] <;> rfl
    · ext i hi; simp only [BitVec.getElem_and, BitVec.getElem_not, BitVec.getElem_zero]
      cases (BitVec.ofNat 32 x)[i] <;> cases (BitVec.ofNat 32 m)[i] <;> rfl
  have e2 := congrArg BitVec.toNat e
  rw [BitVec.toNat_add, BitVec.toNat_and, BitVec.toNat_and, BitVec.toNat_not, BitVec.toNat_ofNat, BitVec.toNat_ofNat, Nat.mod_eq_of_lt (show x < 2 ^ 32 by omega), Nat.mod_eq_of_lt (show m < 2 ^ 32 by omega)] at e2
  have h1 : x &&& (4294967295 - m) ≤ x := Nat.and_le_left
  have h2 : x &&& m ≤ x := Nat.and_le_left
  rw [show 2 ^ 32 - 1 - m = 4294967295 - m from rfl] at e2
  generalize x &&& (4294967295 - m) = a at *
  generalize x &&& m = b at *
  omega
theorem and_field (x m : Int) (i k : Nat) (hx : U x) (hm : U m) (he : m.toNat = (2 ^ k - 1) * 2 ^ i) : bits .and .u32 x m = x / 2 ^ i % 2 ^ k * 2 ^ i := by
  rw [u32_and _ _ hx.1 hx.2 hm.1 hm.2, he, nat_field]
  have h0 := hx.1
  obtain ⟨n, rfl⟩ := Int.eq_ofNat_of_zero_le h0
  rw [show ((n : Int).toNat) = n from rfl]
  simp
theorem andNot_sub (x m : Int) (hx : U x) (hm : U m) : bits .andNot .u32 x m = x - bits .and .u32 x m := by
  have h0 := hx.1
  have h1 := hx.2
  have h2 := hm.1
  have h3 := hm.2
  rw [u32_andNot _ _ hx.1 hx.2 hm.1 hm.2, u32_and _ _ hx.1 hx.2 hm.1 hm.2, nat_andNot _ _ (by omega) (by omega)]
  have : x.toNat &&& m.toNat ≤ x.toNat := Nat.and_le_left
  omega
theorem and_ipls {x : Int} (hx : U x) : bits .and .u32 x 2031616 = ip x * 65536 := by
  have := and_field x 2031616 16 5 hx ⟨by omega, by omega⟩ (by decide)
  rw [this]; unfold ip; rfl
theorem andNot_ipls {x : Int} (hx : U x) : bits .andNot .u32 x 2031616 = x - ip x * 65536 := by
  rw [andNot_sub _ _ hx ⟨by omega, by omega⟩, and_ipls hx]
theorem andNot_codes {x : Int} (hx : U x) : bits .andNot .u32 x 15 = x - x % 16 := by
  rw [andNot_sub _ _ hx ⟨by omega, by omega⟩]
  have := and_field x 15 0 4 hx ⟨by omega, by omega⟩ (by decide)
  rw [this]; simp
theorem and_bit {x : Int} (hx : U x) (i : Nat) (hi : i < 32) : (bits .and .u32 x (2 ^ i) != 0) = bi x i := by
  have h0 := hx.1
  obtain ⟨n, rfl⟩ := Int.eq_ofNat_of_zero_le h0
  have hp : (2 : Nat) ^ i < 4294967296 := by
    have : 2 ^ i < 2 ^ 32 := Nat.pow_lt_pow_right (by omega) hi
    omega
  have hn : n < 4294967296 := by have := hx.2; omega
  have e := u32_and_nat n (2 ^ i) hn hp
  rw [nat_bit] at e
  have e' : bits .and .u32 (n : Int) (2 ^ i) = ((n / 2 ^ i % 2 * 2 ^ i : Nat) : Int) := by exact_mod_cast e
  rw [e']
  unfold bi
  have e2 : (n : Int) / 2 ^ i % 2 = ((n / 2 ^ i % 2 : Nat) : Int) := by simp
  rw [e2]
  have hp0 := Nat.two_pow_pos i
  have h2 : n / 2 ^ i % 2 = 0 ∨ n / 2 ^ i % 2 = 1 := by omega
  rcases h2 with h | h <;> rw [h]
  · simp
  · rw [Nat.one_mul]
    have : ((2 ^ i : Nat) : Int) ≠ 0 := by omega
    rw [show (((2 ^ i : Nat) : Int) != 0) = true from bne_iff_ne.mpr this]
    rfl
theorem bi_bit (n i : Nat) : bi (n : Int) i = n.testBit i := by
  unfold bi
  have e2 : (n : Int) / 2 ^ i % 2 = ((n / 2 ^ i % 2 : Nat) : Int) := by simp
  rw [e2, Nat.testBit_eq_decide_div_mod_eq]
  rw [Bool.eq_iff_iff]; simp; omega
theorem rk_iff (x : Int) (n : Nat) : rk x n = true ↔ ∃ i, i < n ∧ kn i = false ∧ bi x i = true := by
  induction n with
  | zero => simp [rk]
  | succ n ih =>
    rw [rk, Bool.or_eq_true, ih]
    constructor
    · rintro (⟨i, h1, h2⟩ | h)
      · exact ⟨i, by omega, h2⟩
      · simp at h; exact ⟨n, by omega, h⟩
    · rintro ⟨i, h1, h2, h3⟩
      by_cases h : i = n
      · subst h; right; simp [h2, h3]
      · left; exact ⟨i, by omega, h2, h3⟩
theorem kn_bit : ∀ i, i < 32 → (4294967295 - 157220879).testBit i = !kn i := by decide
theorem and_rest {x : Int} (hx : U x) : (bits .andNot .u32 x 157220879 != 0) = rk x 32 := by
  have h0 := hx.1
  have h1 := hx.2
  rw [u32_andNot _ _ h0 h1 (by omega) (by omega)]
  obtain ⟨n, rfl⟩ := Int.eq_ofNat_of_zero_le h0
  rw [show ((n : Int).toNat) = n from rfl, show (157220879 : Int).toNat = 157220879 from rfl]
  rw [Bool.eq_iff_iff, rk_iff]
  generalize hM : 4294967295 - 157220879 = M
  have hk := kn_bit
  rw [hM] at hk
  have hM32 : M < 2 ^ 32 := by omega
  have hz : (((n &&& M : Nat) : Int) != 0) = true ↔ n &&& M ≠ 0 := by
    constructor
    · intro h e; rw [e] at h; simp at h
    · intro h; simp only [bne_iff_ne]; omega
  rw [hz]
  constructor
  · intro h
    obtain ⟨i, hi⟩ := Nat.exists_testBit_of_ne_zero h
    rw [Nat.testBit_and, Bool.and_eq_true] at hi
    have hi32 : i < 32 := by
      by_cases hl : i < 32
      · exact hl
      · have := Nat.testBit_lt_two_pow (Nat.lt_of_lt_of_le hM32 (Nat.pow_le_pow_right (by omega) (Nat.le_of_not_lt hl)))
        rw [this] at hi; simp at hi
    refine ⟨i, hi32, ?_, ?_⟩
    · have := hk i hi32; rw [hi.2] at this; simpa using this.symm
    · rw [bi_bit]; exact hi.1
  · rintro ⟨i, hi, hk', hb⟩ e
    have := congrArg (fun z => Nat.testBit z i) e
    simp only [Nat.testBit_and, Nat.zero_testBit] at this
    rw [hk i hi, hk', ← bi_bit, hb] at this
    simp at this

/-! codes as a number -/
theorem or_codes (n z v c : Bool) : bits .or .u32 (bits .or .u32 (bits .or .u32 (wo n 8) (wo z 4)) (wo v 2)) (wo c 1) = cd n z v c := by
  cases n <;> cases z <;> cases v <;> cases c <;> decide
theorem or_with {x : Int} (hx : U x) (n z v c : Bool) : bits .or .u32 (x - x % 16) (cd n z v c) = wi x (cd n z v c) := by
  have hb := cd_bound n z v c
  obtain ⟨h0, h1⟩ := hx
  have := or_join 4 (x - x % 16) (cd n z v c) ⟨by omega, by omega⟩ (by omega) (by omega) ⟨by omega, by omega⟩
  rw [this]; rfl
/-- the level, put in -/
theorem and_level (l : Int) : bits .and .u32 (l % 4294967296 * 65536 % 4294967296) 2031616 = l % 32 * 65536 := by
  rw [and_ipls ⟨by omega, by omega⟩]; unfold ip; omega
theorem or_add (a b : Int) (m : Nat) (ha : U a) (hb : U b) (h1 : a.toNat &&& m = 0) (h2 : b.toNat &&& m = b.toNat) : bits .or .u32 a b = a + b := by
  rw [u32_or _ _ ha.1 ha.2 hb.1 hb.2]
  have e : a.toNat &&& b.toNat = 0 := by rw [← h2, Nat.and_comm b.toNat, ← Nat.and_assoc, h1, Nat.zero_and]
  have ea := ha.1
  have eb := hb.1
  have ha1 := ha.2
  have hb1 := hb.2
  have k : (BitVec.ofNat 33 a.toNat) + (BitVec.ofNat 33 b.toNat) = BitVec.ofNat 33 a.toNat ||| BitVec.ofNat 33 b.toNat := by
    apply BitVec.add_eq_or_of_and_eq_zero
    apply BitVec.eq_of_toNat_eq
    rw [BitVec.toNat_and, BitVec.toNat_ofNat, BitVec.toNat_ofNat, Nat.mod_eq_of_lt (by omega), Nat.mod_eq_of_lt (by omega), e]; rfl
  have k2 := congrArg BitVec.toNat k
  rw [BitVec.toNat_add, BitVec.toNat_or, BitVec.toNat_ofNat, BitVec.toNat_ofNat, Nat.mod_eq_of_lt (by omega), Nat.mod_eq_of_lt (by omega), Nat.mod_eq_of_lt (by omega)] at k2
  omega
theorem or_level {x : Int} (hx : U x) (l : Int) : bits .or .u32 (x - ip x * 65536) (l % 32 * 65536) = la x l := by
  obtain ⟨h0, h1⟩ := hx
  have hb := ip_bound x
  have e1 : U (x - ip x * 65536) := by unfold U ip; omega
  have e2 : U (l % 32 * 65536) := by unfold U; omega
  have f1 := and_ipls e1
  have f2 := and_ipls e2
  rw [show ip (x - ip x * 65536) = 0 by unfold ip; omega] at f1
  rw [show ip (l % 32 * 65536) = l % 32 by unfold ip; omega] at f2
  rw [u32_and _ _ e1.1 e1.2 (by omega) (by omega)] at f1
  rw [u32_and _ _ e2.1 e2.2 (by omega) (by omega)] at f2
  rw [or_add _ _ 2031616 e1 e2 (by rw [show (2031616 : Int).toNat = 2031616 from rfl] at f1; omega) (by rw [show (2031616 : Int).toNat = 2031616 from rfl] at f2; omega)]
  rfl
theorem la_was (b : Bool) (l : Int) : la (wo b 4194304) l = wo b 4194304 + l % 32 * 65536 := by
  unfold la ip; cases b <;> simp [wo]
theorem mod32 (l : Int) : (l.tmod 32 + 32).tmod 32 = l % 32 := by
  rw [Int.tmod_eq_emod_of_nonneg (b := 32) (a := l.tmod 32 + 32)]
  · rcases Int.le_total 0 l with h | h
    · rw [Int.tmod_eq_emod_of_nonneg h]; omega
    · obtain ⟨n, rfl⟩ : ∃ n : Int, l = -n := ⟨-l, by omega⟩
      rw [Int.neg_tmod, Int.tmod_eq_emod_of_nonneg (by omega)]; omega
  · have := Int.lt_tmod_of_pos l (b := 32) (by omega); omega

/-! what Back is, as the program has it -/
theorem bk_prog (f t : Int) : (gd t && (bi t 24 || !bi f 24) && decide (ip t ≤ ip f)) = bk f t := by
  unfold bk gd
  have h1 := ip_bound f
  cases bi t 24 <;> cases bi f 24 <;> cases rk t 32 <;> cases bi t 22 <;> by_cases h : ip t = 0 <;> simp [h] <;> omega
theorem bk_level {f t : Int} (h : bk f t = true) : ip t ≤ ip f := by
  rw [← bk_prog] at h
  simp at h; exact h.2
theorem bk_user {f t : Int} (h : bk f t = true) (hf : bi f 24 = true) : bi t 24 = true := by
  rw [← bk_prog] at h
  simp [hf] at h; exact h.1.2

/-! parts beside one another -/
theorem bi_cases (x : Int) (i : Nat) : (bi x i = true ∧ x / 2 ^ i % 2 = 1) ∨ (bi x i = false ∧ x / 2 ^ i % 2 = 0) := by
  unfold bi
  have : x / 2 ^ i % 2 = 0 ∨ x / 2 ^ i % 2 = 1 := by omega
  rcases this with h | h <;> rw [h] <;> simp
theorem cd_bits (n z v c : Bool) (y : Int) (h : y % 16 = cd n z v c) : bi y 3 = n ∧ bi y 2 = z ∧ bi y 1 = v ∧ bi y 0 = c := by
  unfold bi
  rw [show (2 : Int) ^ 3 = 8 from rfl, show (2 : Int) ^ 2 = 4 from rfl, show (2 : Int) ^ 1 = 2 from rfl, show (2 : Int) ^ 0 = 1 from rfl]
  cases n <;> cases z <;> cases v <;> cases c <;> simp [cd, wo] at h <;> simp <;> omega
theorem cd_self (x : Int) : cd (bi x 3) (bi x 2) (bi x 1) (bi x 0) = x % 16 := by
  have a := bi_cases x 3
  have b := bi_cases x 2
  have c := bi_cases x 1
  have d := bi_cases x 0
  rw [show (2 : Int) ^ 3 = 8 from rfl] at a
  rw [show (2 : Int) ^ 2 = 4 from rfl] at b
  rw [show (2 : Int) ^ 1 = 2 from rfl] at c
  rw [show (2 : Int) ^ 0 = 1 from rfl] at d
  unfold cd
  rcases a with ⟨a, a'⟩ | ⟨a, a'⟩ <;> rcases b with ⟨b, b'⟩ | ⟨b, b'⟩ <;> rcases c with ⟨c, c'⟩ | ⟨c, c'⟩ <;> rcases d with ⟨d, d'⟩ | ⟨d, d'⟩ <;> rw [a, b, c, d] <;> simp [wo] <;> omega
end Go.Proofs.YteohkobdmkbcpaaGreatDoor.Ps

/- Regions whose order is left open, and whose operations read, call, and lay blocks of their own, walked once: the class of worlds 'nothing that was there has turned'. -/
namespace Go.Proofs.YteohkobdmkbcpaaGreatDoor.Ps
open Go.RowKit

/-- a world in which all of w is as it was -/
structure Later (w : World) where
  v : World
  h : Below w.heap.size w v

instance (w : World) : Inhabited (Later w) := ⟨⟨w, Below.refl _ _⟩⟩

theorem wp_region_later {P : Program} {id : Nat} {Q : Exit → Act → World → Prop} {a : Act} {w : World} {l : List Oper} (hm : P.follows .mixedOrders = true) (hB : Region.lexB .any l.toArray = true)
    (h : wpQuiet P l.toArray (fun w' => ∃ p : Later w, w' = p.v) (fun a' => ∀ w', (∃ p : Later w, w' = p.v) → Q .normal a' w') l a) : (Code.region id l.toArray true).wp P Q a w :=
  wp_region_quiet (C := fun w' => ∃ p : Later w, w' = p.v) hm hB ⟨⟨w.drew, (Below.refl _ _).drew⟩, rfl⟩ (by simpa using h)

/-- a callee that lays blocks of its own -/
theorem later_of {P : Program} {f : FuncId} {args : Array Value} {w : World} {p : Later w} {v : Value}
    (h : Calls P f args p.v fun e w' => e = .returned v ∧ Below p.v.heap.size p.v w') : Calls P f args p.v fun e w'' => e = .returned v ∧ ∃ q : Later w, w'' = q.v :=
  h.mono fun _ w' ⟨he, hb⟩ => ⟨he, ⟨w', p.h.trans (hb.mono p.h.size)⟩, rfl⟩

/-- a callee that lays none -/
theorem later_same {P : Program} {f : FuncId} {args : Array Value} {w : World} {p : Later w} {v : Value}
    (h : Calls P f args p.v fun e w' => e = .returned v ∧ p.v = w') : Calls P f args p.v fun e w'' => e = .returned v ∧ ∃ q : Later w, w'' = q.v :=
  h.mono fun _ _ ⟨he, hw⟩ => ⟨he, p, hw.symm⟩

/-- a cell that is there is there later -/
theorem later_cell {w : World} {b o : Nat} {v : Value} (e : w.cell? ⟨b, o, none⟩ = some v) (p : Later w) : p.v.cell? ⟨b, o, none⟩ = some v := by
  have hlt : b < w.heap.size := by
    by_cases hb : b < w.heap.size
    · exact hb
    · exfalso; simp [World.cell?, Array.getElem?_eq_none (Nat.le_of_not_lt hb)] at e
  rw [p.h.cell (p := ⟨b, o, none⟩) hlt]; exact e

end Go.Proofs.YteohkobdmkbcpaaGreatDoor.Ps

/- Contracts of package psl. -/
namespace Go.Proofs.YteohkobdmkbcpaaGreatDoor.Ps
open Go.RowKit

theorem ret_int {k : IntKind} {a b : Int} (h : a = b) : Ending.returned (.int k a) = .returned (.int k b) := by rw [h]
theorem ret_bool {a b : Bool} (h : a = b) : Ending.returned (.bool a) = .returned (.bool b) := by rw [h]
theorem U_of {x : Int} (h : (Lit.int .u32 x).wf = true) : U x := by
  have := bounds_u32 h
  exact ⟨by omega, by omega⟩
theorem below2 {w w1 w2 : World} (h : Below w.heap.size w w1) (k : Below w1.heap.size w1 w2) : Below w.heap.size w w2 := h.trans (k.mono h.size)
theorem below3 {w w1 w2 : World} {o : Obj} (h : Below w.heap.size w w1) (k : Below (w1.alloc o).heap.size (w1.alloc o) w2) : Below w.heap.size w w2 := below2 (h.alloc h.size o) k

set_option maxHeartbeats 400000 in
set_option maxRecDepth 100000 in
theorem flags_any (x : Int) (hx : U x) (w : World) :
    Calls Tryz.prog 167 #[.int .u32 x] w fun e w' => e = .returned (.agg #[.bool (bi x 3), .bool (bi x 2), .bool (bi x 1), .bool (bi x 0)]) ∧ Below w.heap.size w w' := by
  have H0 := Lib.hid (and_bit hx 0 (by omega))
  have H1 := Lib.hid (and_bit hx 1 (by omega))
  have H2 := Lib.hid (and_bit hx 2 (by omega))
  have H3 := Lib.hid (and_bit hx 3 (by omega))
  go_enter Tryz.func167, Tryz.ntmps167
  go_wp2
  rw [← H0.out, ← H1.out, ← H2.out, ← H3.out]
  exact bodyPost_ret (v := .agg #[.bool (bits .and .u32 x (2 ^ 3) != 0), .bool (bits .and .u32 x (2 ^ 2) != 0), .bool (bits .and .u32 x (2 ^ 1) != 0), .bool (bits .and .u32 x (2 ^ 0) != 0)]) (by simp [results, Tryz.results167, go_sem]) rfl ⟨rfl, (Below.refl _ _).alloc (Nat.le_refl _) _⟩

set_option maxHeartbeats 400000 in
set_option maxRecDepth 100000 in
theorem ipl_any (x : Int) (hx : U x) (w : World) :
    Calls Tryz.prog 34 #[.int .u32 x] w fun e w' => e = .returned (.int .i64 (ip x)) ∧ w = w' := by
  have H := Lib.hid (and_ipls hx)
  have hb := ip_bound x
  go_enter Tryz.func34, Tryz.ntmps34
  go_wp2
  go_ret
  refine ⟨ret_int ?_, rfl⟩
  rw [H.out]
  unfold wrap64; omega

set_option maxHeartbeats 400000 in
set_option maxRecDepth 100000 in
theorem user_any (x : Int) (hx : U x) (w : World) :
    Calls Tryz.prog 73 #[.int .u32 x] w fun e w' => e = .returned (.bool (bi x 24)) ∧ w = w' := by
  have H := Lib.hid (and_bit hx 24 (by omega))
  go_enter Tryz.func73, Tryz.ntmps73
  go_wp2
  go_ret
  exact ⟨ret_bool H.out, rfl⟩

set_option maxHeartbeats 400000 in
set_option maxRecDepth 100000 in
theorem only_any (b : Bool) (n : Int) (w : World) :
    Calls Tryz.prog 76 #[.bool b, .int .u32 n] w fun e w' => e = .returned (.int .u32 (wo b n)) ∧ w = w' := by
  cases b
  all_goals
    go_enter Tryz.func76, Tryz.ntmps76
    go_wp2
    go_ret
    exact ⟨rfl, rfl⟩

set_option maxHeartbeats 400000 in
set_option maxRecDepth 100000 in
theorem codes_any (n z v c : Bool) (w : World) :
    Calls Tryz.prog 250 #[.agg #[.bool n, .bool z, .bool v, .bool c]] w fun e w' => e = .returned (.int .u32 (cd n z v c)) ∧ Below w.heap.size w w' := by
  have H := Lib.hid (or_codes n z v c)
  go_enter Tryz.func250, Tryz.ntmps250
  go_wp2
  generalize hW : w.alloc (.cells #[.bool n, .bool z, .bool v, .bool c] 39) = W
  have b1 : Below w.heap.size w W := by rw [← hW]; exact (Below.refl _ _).alloc (Nat.le_refl _) _
  have f0 : W.cell? ⟨w.heap.size, 0, none⟩ = some (.bool n) := by rw [← hW]; simp [go_sem]
  have f1 : W.cell? ⟨w.heap.size, 1, none⟩ = some (.bool z) := by rw [← hW]; simp [go_sem]
  have f2 : W.cell? ⟨w.heap.size, 2, none⟩ = some (.bool v) := by rw [← hW]; simp [go_sem]
  have f3 : W.cell? ⟨w.heap.size, 3, none⟩ = some (.bool c) := by rw [← hW]; simp [go_sem]
  clear hW
  replace f0 := later_cell f0
  replace f1 := later_cell f1
  replace f2 := later_cell f2
  replace f3 := later_cell f3
  refine wp_region_later (by kernel_rfl) (by kernel_rfl) ?_
  repeat (go_big_quiet_step (exact later_same (only_any _ _ _)))
  refine wpQuiet_nil ?_
  rintro _ ⟨⟨w4, hb4⟩, rfl⟩
  go_wp2
  go_ret
  exact ⟨ret_int H.out, below2 b1 hb4⟩

set_option maxHeartbeats 400000 in
set_option maxRecDepth 100000 in
theorem with_any (x : Int) (n z v c : Bool) (hx : U x) (w : World) :
    Calls Tryz.prog 215 #[.int .u32 x, .agg #[.bool n, .bool z, .bool v, .bool c]] w fun e w' => e = .returned (.int .u32 (wi x (cd n z v c))) ∧ Below w.heap.size w w' := by
  have H := Lib.hid (andNot_codes hx)
  have H2 := Lib.hid (or_with hx n z v c)
  go_enter Tryz.func215, Tryz.ntmps215
  go_wp2_with fail
  refine (codes_any _ _ _ _ _).mono ?_
  rintro e w1 ⟨rfl, hb1⟩
  go_wp2
  go_ret
  refine ⟨ret_int ?_, below2 ((Below.refl _ _).alloc (Nat.le_refl _) _) hb1⟩
  rw [H.out, H2.out]

set_option maxHeartbeats 400000 in
set_option maxRecDepth 100000 in
theorem at_any (x l : Int) (hx : U x) (w : World) :
    Calls Tryz.prog 75 #[.int .u32 x, .int .i64 l] w fun e w' => e = .returned (.int .u32 (la x l)) ∧ w = w' := by
  have H1 := Lib.hid (andNot_ipls hx)
  have H2 := Lib.hid (and_level l)
  have H3 := Lib.hid (or_level hx l)
  go_enter Tryz.func75, Tryz.ntmps75
  go_wp2
  go_ret
  refine ⟨ret_int ?_, rfl⟩
  rw [H1.out, H2.out, H3.out]

set_option maxHeartbeats 400000 in
set_option maxRecDepth 100000 in
theorem enter_any (x l : Int) (hx : U x) (w : World) :
    Calls Tryz.prog 53 #[.int .u32 x, .int .i64 l] w fun e w' => e = .returned (.int .u32 (en x l)) ∧ w = w' := by
  have H := Lib.hid (la_was (bi x 24) l)
  go_enter Tryz.func53, Tryz.ntmps53
  go_wp2_with (first
    | (go_at_call 73; refine (user_any _ hx _).mono ?_; rintro e w' ⟨rfl, rfl⟩)
    | (go_at_call 76; refine (only_any _ _ _).mono ?_; rintro e w' ⟨rfl, rfl⟩)
    | (go_at_call 75; refine (at_any _ _ (wo_U _) _).mono ?_; rintro e w' ⟨rfl, rfl⟩))
  go_ret
  exact ⟨ret_int H.out, rfl⟩
end Go.Proofs.YteohkobdmkbcpaaGreatDoor.Ps

/- Contracts of package psl: Good, Back, Branch; what each law asks first. -/
namespace Go.Proofs.YteohkobdmkbcpaaGreatDoor.Ps
open Go.RowKit

set_option maxHeartbeats 400000 in
set_option maxRecDepth 100000 in
theorem good_any (x : Int) (hx : U x) (w : World) :
    Calls Tryz.prog 213 #[.int .u32 x] w fun e w' => e = .returned (.bool (gd x)) ∧ w = w' := by
  have HR := and_rest hx
  have HW := and_bit hx 22 (by omega)
  have C := Lib.hid (user_any x hx)
  have I := Lib.hid (ipl_any x hx)
  have HG := Lib.hid (show gd x = (!rk x 32 && (!bi x 24 || (ip x == 0 && bi x 22))) from rfl)
  rw [show (2 : Int) ^ 22 = 4194304 from rfl] at HW
  generalize rk x 32 = r at *
  generalize bi x 24 = u at *
  generalize bi x 22 = s at *
  generalize ip x = p at *
  clear hx
  by_cases hp : p = 0
  · subst hp
    cases r <;> cases u <;> cases s
    all_goals
      go_enter Tryz.func213, Tryz.ntmps213
      go_wp2_with (first
        | (go_at_call 73; refine (C.out _).mono ?_; rintro e w' ⟨rfl, rfl⟩)
        | (go_at_call 34; refine (I.out _).mono ?_; rintro e w' ⟨rfl, rfl⟩))
      go_ret
      exact ⟨ret_bool (by rw [HG.out]; rfl), rfl⟩
  · have hq : (p == 0) = false := by simpa using hp
    have HQ := Lib.hid hq
    cases r <;> cases u <;> cases s
    all_goals
      go_enter Tryz.func213, Tryz.ntmps213
      go_wp2_with (first
        | (go_at_call 73; refine (C.out _).mono ?_; rintro e w' ⟨rfl, rfl⟩)
        | (go_at_call 34; refine (I.out _).mono ?_; rintro e w' ⟨rfl, rfl⟩))
      go_ret
      exact ⟨ret_bool (by rw [HG.out, HQ.out]; rfl), rfl⟩

set_option maxHeartbeats 400000 in
set_option maxRecDepth 100000 in
theorem back_any (f t : Int) (hf : U f) (ht : U t) (w : World) :
    Calls Tryz.prog 162 #[.int .u32 f, .int .u32 t] w fun e w' => e = .returned (.bool (bk f t)) ∧ w = w' := by
  have G := Lib.hid (good_any t ht)
  have C1 := Lib.hid (user_any t ht)
  have C2 := Lib.hid (user_any f hf)
  have I1 := Lib.hid (ipl_any t ht)
  have I2 := Lib.hid (ipl_any f hf)
  have HB := Lib.hid (bk_prog f t)
  generalize bk f t = b at *
  generalize gd t = g at *
  generalize bi t 24 = u at *
  generalize bi f 24 = v at *
  generalize ip t = p at *
  generalize ip f = q at *
  clear hf ht
  cases g <;> cases u <;> cases v
  all_goals
    go_enter Tryz.func162, Tryz.ntmps162
    go_wp2_with (first
      | (go_at_call 213; refine (G.out _).mono ?_; rintro e w' ⟨rfl, rfl⟩)
      | fail)
    try (refine (C1.out _).mono ?_
         rintro e w' ⟨rfl, rfl⟩
         go_wp2_with fail)
    try (refine (C2.out _).mono ?_
         rintro e w' ⟨rfl, rfl⟩
         go_wp2_with fail)
    try (refine (I1.out _).mono ?_
         rintro e w' ⟨rfl, rfl⟩
         go_wp2_with fail)
    try (refine (I2.out _).mono ?_
         rintro e w' ⟨rfl, rfl⟩
         go_wp2_with fail)
    go_ret
    exact ⟨ret_bool HB.out, rfl⟩
end Go.Proofs.YteohkobdmkbcpaaGreatDoor.Ps

/- Contracts of the document's own reckoning of a status: Bit, bit, Codes, Of. -/
namespace Go.Proofs.YteohkobdmkbcpaaGreatDoor.Ps
open Go.RowKit

set_option maxHeartbeats 400000 in
set_option maxRecDepth 100000 in
theorem rbit_any (x : Int) (n : Nat) (hx : U x) (hn : n ≤ 31) (w : World) :
    Calls Tryz.prog 35 #[.int .u32 x, .int .i64 n] w fun e w' => e = .returned (.bool (bi x n)) ∧ w = w' := by
  go_enter Tryz.func35, Tryz.ntmps35
  go_wp2
  go_loop [0, 5] (fun y i => ∃ k : Nat, k ≤ n ∧ i = .int .i64 k ∧ y = .int .u32 (x / 2 ^ k)) (fun _ i => n - (intOf i).toNat)
  case atStart => exact ⟨0, Nat.zero_le _, rfl, by simp⟩
  case round =>
    obtain ⟨k, hk, rfl, rfl⟩ := hrel
    have hb : U (x / 2 ^ k) := by
      have hp : (0 : Int) < 2 ^ k := Int.pow_pos (by omega)
      have h0 := hx.1
      have h1 := hx.2
      exact ⟨Int.ediv_nonneg h0 (by omega), Int.lt_of_le_of_lt (Int.ediv_le_self _ h0) h1⟩
    have h0 := hb.1
    have h1 := hb.2
    by_cases hlt : k < n
    · go_wp2
      go_round
      case rel =>
        refine ⟨k + 1, by omega, by go_num, ?_⟩
        have : x / 2 ^ (k + 1) = x / 2 ^ k / 2 := by
          rw [Int.pow_succ, Int.ediv_ediv_of_nonneg (Int.pow_nonneg (by omega))]
        rw [this]
      case measure => simp [intOf]; omega
    · have : k = n := by omega
      subst this
      go_wp2
      go_ret
      exact ⟨rfl, rfl⟩
theorem rbit_as (x : Int) (n : Nat) (hx : U x) (hn : n ≤ 31) (b : Bool) (hb : bi x n = b) (w : World) :
    Calls Tryz.prog 35 #[.int .u32 x, .int .i64 n] w fun e w' => e = .returned (.bool b) ∧ w = w' := hb ▸ rbit_any x n hx hn w

set_option maxHeartbeats 400000 in
set_option maxRecDepth 100000 in
theorem worth_any (b : Bool) (n : Nat) (hn : n ≤ 27) (w : World) :
    Calls Tryz.prog 42 #[.bool b, .int .i64 n] w fun e w' => e = .returned (.int .u32 (wo b (2 ^ n))) ∧ w = w' := by
  go_enter Tryz.func42, Tryz.ntmps42
  go_wp2
  go_loop [5, 6] (fun y i => ∃ k : Nat, k ≤ n ∧ i = .int .i64 k ∧ y = .int .u32 (2 ^ k)) (fun _ i => n - (intOf i).toNat)
  case atStart => exact ⟨0, Nat.zero_le _, rfl, by simp⟩
  case round =>
    obtain ⟨k, hk, rfl, rfl⟩ := hrel
    have h1 : (2 : Int) ^ k ≤ 134217728 := by
      have : (2 : Nat) ^ k ≤ 2 ^ 27 := Nat.pow_le_pow_right (by omega) (by omega)
      have e : ((2 ^ k : Nat) : Int) = 2 ^ k := by simp
      omega
    have h0 : (0 : Int) < 2 ^ k := Int.pow_pos (by omega)
    have HS := Lib.hid (show (2 : Int) ^ (k + 1) = 2 * 2 ^ k by rw [Int.pow_succ, Int.mul_comm])
    by_cases hlt : k < n
    · generalize (2 : Int) ^ k = p at *
      go_wp2
      go_round
      case rel => exact ⟨k + 1, by omega, by go_num, by rw [HS.out]⟩
      case measure => simp [intOf]; omega
    · have : k = n := by omega
      subst this
      cases b
      all_goals
        go_wp2
        go_ret
        exact ⟨rfl, rfl⟩
theorem worth_i (b : Bool) (k : Int) (h0 : 0 ≤ k) (h1 : k ≤ 27) (w : World) :
    Calls Tryz.prog 42 #[.bool b, .int .i64 k] w fun e w' => e = .returned (.int .u32 (wo b (2 ^ k.toNat))) ∧ w = w' := by
  obtain ⟨n, rfl⟩ := Int.eq_ofNat_of_zero_le h0
  exact worth_any b n (by omega) w

set_option maxHeartbeats 400000 in
set_option maxRecDepth 100000 in
theorem rcodes_any (n z v c : Bool) (w : World) :
    Calls Tryz.prog 20 #[.agg #[.bool n, .bool z, .bool v, .bool c]] w fun e w' => e = .returned (.int .u32 (cd n z v c)) ∧ Below w.heap.size w w' := by
  go_enter Tryz.func20, Tryz.ntmps20
  go_wp2
  generalize hW : w.alloc (.cells #[.bool n, .bool z, .bool v, .bool c] 39) = W
  have b1 : Below w.heap.size w W := by rw [← hW]; exact (Below.refl _ _).alloc (Nat.le_refl _) _
  have f0 : W.cell? ⟨w.heap.size, 0, none⟩ = some (.bool n) := by rw [← hW]; simp [go_sem]
  have f1 : W.cell? ⟨w.heap.size, 1, none⟩ = some (.bool z) := by rw [← hW]; simp [go_sem]
  have f2 : W.cell? ⟨w.heap.size, 2, none⟩ = some (.bool v) := by rw [← hW]; simp [go_sem]
  have f3 : W.cell? ⟨w.heap.size, 3, none⟩ = some (.bool c) := by rw [← hW]; simp [go_sem]
  clear hW
  replace f0 := later_cell f0
  replace f1 := later_cell f1
  replace f2 := later_cell f2
  replace f3 := later_cell f3
  refine wp_region_later (by kernel_rfl) (by kernel_rfl) ?_
  repeat (go_big_quiet_step (exact later_same (worth_i _ _ (by omega) (by omega) _)))
  refine wpQuiet_nil ?_
  rintro _ ⟨⟨w4, hb4⟩, rfl⟩
  go_wp2
  go_ret
  refine ⟨ret_int ?_, below2 b1 hb4⟩
  cases n <;> cases z <;> cases v <;> cases c <;> rfl

end Go.Proofs.YteohkobdmkbcpaaGreatDoor.Ps

/- Contract of the document's Of: a status, part by part. -/
namespace Go.Proofs.YteohkobdmkbcpaaGreatDoor.Ps
open Go.RowKit

/-- a block of cells of one type -/
def Blk (W : World) (b : Nat) (l : List Value) : Prop := W.heap[b]? = some (.cells l.toArray 41 (0, 0))
theorem Blk.cell {W : World} {b : Nat} {l : List Value} (h : Blk W b l) (i : Nat) (v : Value) (hv : l[i]? = some v) : W.cell? ⟨b, i, none⟩ = some v := by
  unfold Blk at h; simp [World.cell?, h, hv]
theorem Blk.free {W : World} {b : Nat} {l : List Value} (h : Blk W b l) (i : Nat) : W.frozen? ⟨b, i, none⟩ = false := by
  unfold Blk at h; simp [World.frozen?, h]
theorem Blk.set {W : World} {b : Nat} {l : List Value} (h : Blk W b l) (i : Nat) (v : Value) : Blk (W.setCell ⟨b, i, none⟩ v) b (l.set i v) := by
  unfold Blk at h ⊢
  simp [World.setCell, Array.getElem?_modify, h]
theorem Blk.other {W : World} {b b' : Nat} {l : List Value} (h : Blk W b l) (hb : b ≠ b') (i : Nat) (v : Value) : Blk (W.setCell ⟨b', i, none⟩ v) b l := by
  unfold Blk at h ⊢
  rw [Below.heap_setCell _ _ _ _ hb]; exact h

theorem blk_new0 (w : World) (l : List Value) (o : Obj) : Blk ((w.alloc (.cells l.toArray 41)).alloc o) w.heap.size l := by
  unfold Blk
  show ((w.heap.push _).push _)[w.heap.size]? = _
  simp [Array.getElem?_push]
theorem blk_new1 (w : World) (l : List Value) (o : Obj) : Blk ((w.alloc o).alloc (.cells l.toArray 41)) (w.heap.size + 1) l := by
  unfold Blk
  show ((w.heap.push _).push _)[w.heap.size + 1]? = _
  rw [Array.getElem?_push, if_pos (by simp)]

/-- the status that is made: with this level so far, and this rest -/
def sl (x q : Int) (r : Bool) : List Value := [.bool (bi x 3), .bool (bi x 2), .bool (bi x 1), .bool (bi x 0), .int .i64 q, .bool (bi x 22), .bool (bi x 24), .bool (bi x 27), .bool r]
def nul : List Value := [.bool false, .bool false, .bool false, .bool false, .int .i64 0, .bool false, .bool false, .bool false, .bool false]

/-- while it is made -/
structure Mk (w : World) (x q : Int) (r : Bool) (W : World) : Prop where
  res : Blk W w.heap.size nul
  own : Blk W (w.heap.size + 1) (sl x q r)
  bel : Below w.heap.size w W
theorem Mk.cells {w W : World} {x q : Int} {r : Bool} (h : Mk w x q r W) :
    W.cell? ⟨w.heap.size + 1, 4, none⟩ = some (.int .i64 q) ∧ W.cell? ⟨w.heap.size + 1, 8, none⟩ = some (.bool r) ∧ W.frozen? ⟨w.heap.size + 1, 4, none⟩ = false ∧ W.frozen? ⟨w.heap.size + 1, 8, none⟩ = false :=
  ⟨h.own.cell 4 _ rfl, h.own.cell 8 _ rfl, h.own.free 4, h.own.free 8⟩
theorem Mk.level {w W : World} {x q : Int} {r : Bool} (h : Mk w x q r W) (q' : Int) : Mk w x q' r (W.setCell ⟨w.heap.size + 1, 4, none⟩ (.int .i64 q')) :=
  ⟨h.res.other (by omega) _ _, h.own.set 4 _, h.bel.setCell (by simp) _⟩
theorem Mk.rest {w W : World} {x q : Int} {r : Bool} (h : Mk w x q r W) (r' : Bool) : Mk w x q r' (W.setCell ⟨w.heap.size + 1, 8, none⟩ (.bool r')) :=
  ⟨h.res.other (by omega) _ _, h.own.set 8 _, h.bel.setCell (by simp) _⟩

theorem level_step (x : Int) (j : Nat) (h0 : 16 ≤ j) (h1 : j < 21) : x / 65536 % 2 ^ (j + 1 - 16) = x / 65536 % 2 ^ (j - 16) + wo (bi x j) (2 ^ (j - 16)) := by
  have hc := bi_cases x j
  have : j = 16 ∨ j = 17 ∨ j = 18 ∨ j = 19 ∨ j = 20 := by omega
  rcases this with rfl | rfl | rfl | rfl | rfl <;> rcases hc with ⟨h, k⟩ | ⟨h, k⟩ <;> rw [h] <;> simp [wo] at k ⊢ <;> omega
theorem worth_step (j : Nat) (h0 : 16 ≤ j) (h1 : j ≤ 21) : 1 ≤ (2 : Int) ^ (j - 16) ∧ (2 : Int) ^ (j - 16) ≤ 32 ∧ (2 : Int) ^ (j + 1 - 16) = 2 * 2 ^ (j - 16) := by
  have : j = 16 ∨ j = 17 ∨ j = 18 ∨ j = 19 ∨ j = 20 ∨ j = 21 := by omega
  rcases this with rfl | rfl | rfl | rfl | rfl | rfl <;> simp

theorem bits_i (x : Int) (k : Int) (hx : U x) (h0 : 0 ≤ k) (h1 : k ≤ 31) (w : World) :
    Calls Tryz.prog 35 #[.int .u32 x, .int .i64 k] w fun e w' => e = .returned (.bool (bi x k.toNat)) ∧ w = w' := by
  obtain ⟨n, rfl⟩ := Int.eq_ofNat_of_zero_le h0
  exact rbit_any x n hx (by omega) w

theorem kn_cases (k : Nat) (h : k < 32) : (Hid (kn k = true) ∧ k < 4) ∨ (Hid (kn k = true) ∧ 16 ≤ k ∧ k ≤ 20) ∨ (Hid (kn k = false) ∧ 4 ≤ k ∧ k < 16) ∨ (Hid (kn k = true) ∧ k = 22) ∨ (Hid (kn k = true) ∧ k = 24) ∨ (Hid (kn k = true) ∧ k = 27) ∨ (Hid (kn k = false) ∧ 20 < k ∧ ¬ k = 22 ∧ ¬ k = 24 ∧ ¬ k = 27) := by
  by_cases h1 : k < 4
  · exact .inl ⟨show kn k = true by simp [kn, h1], h1⟩
  by_cases h2 : k < 16
  · exact .inr (.inr (.inl ⟨show kn k = false by simp [kn]; omega, by omega, h2⟩))
  by_cases h3 : k ≤ 20
  · exact .inr (.inl ⟨show kn k = true by simp [kn]; omega, by omega, h3⟩)
  by_cases h4 : k = 22
  · exact .inr (.inr (.inr (.inl ⟨show kn k = true by simp [kn, h4], h4⟩)))
  by_cases h5 : k = 24
  · exact .inr (.inr (.inr (.inr (.inl ⟨show kn k = true by simp [kn, h5], h5⟩))))
  by_cases h6 : k = 27
  · exact .inr (.inr (.inr (.inr (.inr (.inl ⟨show kn k = true by simp [kn, h6], h6⟩)))))
  exact .inr (.inr (.inr (.inr (.inr (.inr ⟨show kn k = false by simp [kn]; omega, by omega, h4, h5, h6⟩)))))

set_option maxHeartbeats 2000000 in
set_option maxRecDepth 100000 in
theorem of_any (x : Int) (hx : U x) (w : World) :
    Calls Tryz.prog 14 #[.int .u32 x] w fun e w' => e = .returned (.agg #[.bool (bi x 3), .bool (bi x 2), .bool (bi x 1), .bool (bi x 0), .int .i64 (ip x), .bool (bi x 22), .bool (bi x 24), .bool (bi x 27), .bool (rk x 32)]) ∧ Below w.heap.size w w' := by
  go_enter Tryz.func14, Tryz.ntmps14
  go_wp2_with (go_at_call 35; refine (bits_i _ _ hx (by omega) (by omega) _).mono ?_; rintro e w' ⟨rfl, rfl⟩)
  go_loopw [4, 5] (fun v i W => ∃ j : Nat, 16 ≤ j ∧ j ≤ 21 ∧ i = .int .i64 j ∧ v = .int .i64 (2 ^ (j - 16)) ∧ Mk w x (x / 65536 % 2 ^ (j - 16)) false W) (fun _ i _ => 21 - (intOf i).toNat)
  case atStart =>
    refine ⟨16, by omega, by omega, rfl, rfl, ?_, ?_, ?_⟩
    · exact blk_new0 _ _ _
    · rw [show x / 65536 % 2 ^ (16 - 16) = 0 by simp]; exact blk_new1 _ _ _
    · exact ((Below.refl _ _).alloc (Nat.le_refl _) _).alloc (by simp) _
  case round =>
    obtain ⟨j, hj0, hj1, rfl, rfl, hM⟩ := hrel
    obtain ⟨hp0, hp1, hp2⟩ := worth_step j hj0 hj1
    have HP := Lib.hid hp2
    clear hp2
    have HM := Lib.hid hM
    by_cases hlt : j < 21
    · have HS := Lib.hid (level_step x j hj0 hlt)
      have hq : 0 ≤ x / 65536 % 2 ^ (j - 16) ∧ x / 65536 % 2 ^ (j - 16) ≤ 31 := ⟨Int.emod_nonneg _ (by omega), by have := Int.emod_lt_of_pos (x / 65536) (show 0 < (2 : Int) ^ (j - 16) by omega); omega⟩
      obtain ⟨hq0, hq1⟩ := hq
      obtain ⟨c4, c8, f4, f8⟩ := hM.cells
      clear hM
      cases hb : bi x j
      · have HB := Lib.hid hb
        clear hb
        generalize x / 65536 % 2 ^ (j - 16) = q at *
        generalize (2 : Int) ^ (j - 16) = p at *
        go_wp2_with (go_at_call 35; refine (rbit_as _ _ hx (by omega) _ HB.out _).mono ?_; rintro e w' ⟨rfl, rfl⟩)
        go_roundw
        case rel => exact ⟨j + 1, by omega, by omega, by go_num, by rw [HP.out], by rw [HS.out, HB.out]; simpa [wo] using HM.out⟩
        case measure => simp [intOf]; omega
      · have HB := Lib.hid hb
        clear hb
        generalize x / 65536 % 2 ^ (j - 16) = q at *
        generalize (2 : Int) ^ (j - 16) = p at *
        go_wp2_with (go_at_call 35; refine (rbit_as _ _ hx (by omega) _ HB.out _).mono ?_; rintro e w' ⟨rfl, rfl⟩)
        go_roundw
        case rel => exact ⟨j + 1, by omega, by omega, by go_num, by rw [HP.out], by rw [HS.out, HB.out]; exact HM.out.level _⟩
        case measure => simp [intOf]; omega
    · obtain rfl : j = 21 := by omega
      rw [show x / 65536 % 2 ^ (21 - 16) = ip x from rfl] at HM
      clear hM HP hp0 hp1 hj0 hj1 hlt
      go_wp2
      go_loopg [6] 32 (fun g i W => ∃ k : Nat, k ≤ 32 ∧ g = 32 - k ∧ i = .int .i64 k ∧ Mk w x (ip x) (rk x k) W)
      case atStart => exact ⟨0, by omega, rfl, rfl, HM.out⟩
      case round =>
        clear HM
        obtain ⟨k, hk, hgk, rfl, hM⟩ := hrel
        have HGK := Lib.hid hgk
        have HM := Lib.hid hM
        clear hgk
        by_cases hlt : k < 32
        · clear hM
          go_upto_region 12 with fail
          go_cut [7] from 38 to 75 (fun v W => v = .bool (kn k) ∧ W = wr)
          case first =>
            clear HM
            have hc := kn_cases k hlt
            rcases hc with ⟨HK, h1⟩ | ⟨HK, h1, h2⟩ | ⟨HK, h1, h2⟩ | ⟨HK, rfl⟩ | ⟨HK, rfl⟩ | ⟨HK, rfl⟩ | ⟨HK, h1, h2, h3, h4⟩
            all_goals
              go_wp2
              go_meet
              exact ⟨by first | (rw [HK.out]; done) | (rw [HK.out]; exact congrArg Value.bool (by simp; omega)), rfl⟩
          case rest =>
            obtain ⟨rfl, rfl⟩ := hcut
            obtain ⟨c4, c8, f4, f8⟩ := HM.out.cells
            have HS := Lib.hid (show rk x (k + 1) = (rk x k || (!kn k && bi x k)) from rfl)
            have HC := Lib.hid (rbit_as x k hx (by omega))
            generalize bi x k = b at *
            generalize rk x k = r at *
            generalize kn k = t at *
            cases r <;> cases t
            all_goals
              go_wp2_with (go_at_call 35; refine (HC.out b rfl _).mono ?_; rintro e w' ⟨rfl, rfl⟩)
              go_roundg (32 - (k + 1))
              case measure => have := HGK.out; omega
              case rel => exact ⟨k + 1, by omega, rfl, by go_num, by rw [HS.out]; exact HM.out.rest _⟩
        · obtain rfl : k = 32 := by omega
          have hr := hM.res
          have ho := hM.own
          clear hM
          have o0 := ho.cell 0 _ rfl
          have o1 := ho.cell 1 _ rfl
          have o2 := ho.cell 2 _ rfl
          have o3 := ho.cell 3 _ rfl
          have o4 := ho.cell 4 _ rfl
          have o5 := ho.cell 5 _ rfl
          have o6 := ho.cell 6 _ rfl
          have o7 := ho.cell 7 _ rfl
          have o8 := ho.cell 8 _ rfl
          have r0 := hr.cell 0 _ rfl
          have r1 := hr.cell 1 _ rfl
          have r2 := hr.cell 2 _ rfl
          have r3 := hr.cell 3 _ rfl
          have r4 := hr.cell 4 _ rfl
          have r5 := hr.cell 5 _ rfl
          have r6 := hr.cell 6 _ rfl
          have r7 := hr.cell 7 _ rfl
          have r8 := hr.cell 8 _ rfl
          have fr := hr.free
          clear hr ho
          go_wp2
          exact bodyPost_ret (v := .agg #[.bool (bi x 3), .bool (bi x 2), .bool (bi x 1), .bool (bi x 0), .int .i64 (ip x), .bool (bi x 22), .bool (bi x 24), .bool (bi x 27), .bool (rk x 32)]) (by simp [results, Tryz.results14, go_sem, r0, r1, r2, r3, r4, r5, r6, r7, r8]) rfl ⟨rfl, by
            iterate 9 refine Below.setCell ?_ (by simp) _
            exact HM.out.bel⟩
end Go.Proofs.YteohkobdmkbcpaaGreatDoor.Ps

/- More arithmetic of a status: parts beside one another. -/
namespace Go.Proofs.YteohkobdmkbcpaaGreatDoor.Ps

theorem en_form (x l : Int) : ∃ n : Nat, n < 32 ∧ l % 32 = n ∧ en x l = wo (bi x 24) 4194304 + (n : Int) * 65536 := by
  obtain ⟨n, hn⟩ := Int.eq_ofNat_of_zero_le (show 0 ≤ l % 32 by omega)
  exact ⟨n, by omega, hn, by unfold en; rw [hn]⟩
theorem good_all : ∀ u : Bool, ∀ n : Nat, n < 32 → gd (wo u 4194304 + (n : Int) * 65536) = true := by decide
theorem parts_all : ∀ u : Bool, ∀ n : Nat, n < 32 → bi (wo u 4194304 + (n : Int) * 65536) 24 = false ∧ bi (wo u 4194304 + (n : Int) * 65536) 27 = false ∧ bi (wo u 4194304 + (n : Int) * 65536) 22 = u ∧ ip (wo u 4194304 + (n : Int) * 65536) = n ∧ bi (wo u 4194304 + (n : Int) * 65536) 0 = false ∧ bi (wo u 4194304 + (n : Int) * 65536) 1 = false ∧ bi (wo u 4194304 + (n : Int) * 65536) 2 = false ∧ bi (wo u 4194304 + (n : Int) * 65536) 3 = false := by decide
theorem en_good (x l : Int) : gd (en x l) = true := by
  obtain ⟨n, hn, _, h⟩ := en_form x l
  rw [h]; exact good_all _ n hn
theorem en_parts (x l : Int) : bi (en x l) 24 = false ∧ bi (en x l) 27 = false ∧ bi (en x l) 22 = bi x 24 ∧ ip (en x l) = l % 32 ∧ bi (en x l) 0 = false ∧ bi (en x l) 1 = false ∧ bi (en x l) 2 = false ∧ bi (en x l) 3 = false := by
  obtain ⟨n, hn, hl, h⟩ := en_form x l
  rw [h, hl]; exact parts_all _ n hn
theorem en_en (x a b : Int) : en (en x a) b = b % 32 * 65536 := by
  have := (en_parts x a).1
  unfold en at this ⊢
  rw [this]; simp [wo]
/-- back from a handler -/
theorem bk_enter {x l : Int} (hl : 0 ≤ l ∧ l ≤ 31) (hu : bi x 24 = false) : bk (en x l) x = (gd x && decide (ip x ≤ l)) := by
  obtain ⟨h1, _, _, h2, _⟩ := en_parts x l
  unfold bk
  rw [h1, h2, hu, show l % 32 = l by omega]; simp
theorem bk_two {x a b : Int} (ha : 0 ≤ a ∧ a ≤ 31) (hb : 0 ≤ b ∧ b ≤ 31) : bk (en (en x a) b) (en x a) = decide (a ≤ b) := by
  obtain ⟨h1, _, _, h2, _⟩ := en_parts x a
  obtain ⟨h3, _, _, h4, _⟩ := en_parts (en x a) b
  unfold bk
  rw [en_good, h1, h2, h3, h4, show a % 32 = a by omega, show b % 32 = b by omega]; simp
/-- codes and level, put one behind the other -/
theorem parts_eq {x l : Int} (hl : 0 ≤ l ∧ l ≤ 31) (n z v c : Bool) :
    let y := la (wi x (cd n z v c)) l
    (bi y 3 = n ∧ bi y 2 = z ∧ bi y 1 = v ∧ bi y 0 = c) ∧ ip y = l ∧ wi (la x l) (cd n z v c) = y ∧ wi y (cd (bi x 3) (bi x 2) (bi x 1) (bi x 0)) = la x l := by
  intro y
  have hb := cd_bound n z v c
  have hs := cd_self x
  have hy : y % 16 = cd n z v c := by
    show la (wi x (cd n z v c)) l % 16 = _
    unfold la wi ip; omega
  refine ⟨cd_bits n z v c y hy, ?_, ?_, ?_⟩
  · show ip (la (wi x (cd n z v c)) l) = l
    unfold la wi ip; omega
  · show wi (la x l) (cd n z v c) = la (wi x (cd n z v c)) l
    unfold la wi ip; omega
  · rw [hs]
    show wi (la (wi x (cd n z v c)) l) (x % 16) = la x l
    unfold la wi ip; omega
/-- a branch and its neighbour -/
theorem br_both (k : Int) (n z v c : Bool) (h : br k n z v c = true) : br (bits .xor .i64 k 1) n z v c = false := by
  have hk : k = 18 ∨ k = 19 ∨ k = 20 ∨ k = 21 ∨ k = 24 ∨ k = 25 ∨ k = 26 ∨ k = 27 ∨ k = 28 ∨ k = 29 ∨ k = 30 ∨ k = 31 := by
    by_cases h0 : k = 18 ∨ k = 19 ∨ k = 20 ∨ k = 21 ∨ k = 24 ∨ k = 25 ∨ k = 26 ∨ k = 27 ∨ k = 28 ∨ k = 29 ∨ k = 30 ∨ k = 31
    · exact h0
    · simp only [not_or] at h0
      obtain ⟨h1, h2, h3, h4, h5, h6, h7, h8, h9, h10, h11, h12⟩ := h0
      simp [br, *] at h
  revert h
  revert n z v c
  rcases hk with rfl | rfl | rfl | rfl | rfl | rfl | rfl | rfl | rfl | rfl | rfl | rfl <;> decide
end Go.Proofs.YteohkobdmkbcpaaGreatDoor.Ps

/- Condition codes that come in. -/
namespace Go.Proofs.YteohkobdmkbcpaaGreatDoor.Ps
open Go.RowKit Go.ChangeShapes Go.WideShapes

structure Fl where
  n : Bool
  z : Bool
  v : Bool
  c : Bool
def Fl.Ok (_ : Fl) : Prop := True

set_option maxRecDepth 100000 in
theorem flags_of {H : Type} {enc : TypeId × Value → H} {w : World} {base b0 : Nat} {r : Reach} {spare : Nat → Bool} {held : Bool} {v : Value} {d : DataW H} {ps : List MemPlace}
    (hval : Value.okWide Tryz.prog w r b0 39 v) (hd : DataW.Trod enc Tryz.prog w base spare held 39 v d ps) : ∃ t : Fl, v = .agg #[.bool t.n, .bool t.z, .bool t.v, .bool t.c] ∧ t.Ok := by
  have hc : Tryz.prog.cellsOf 39 = 4 := by kernel_rfl
  have hu : Tryz.prog.cellsOf 4 = 1 := by kernel_rfl
  obtain ⟨cs, rfl, hsz⟩ := okWide_struct Tryz.underlying39 hval
  obtain ⟨fuel, hf⟩ := hd
  obtain ⟨ys, n', _, _, _, hyl, hf⟩ := DataW.trod_struct Tryz.underlying39 hf
  rw [hc] at hsz
  obtain ⟨l⟩ := cs
  match l, hsz, ys, hyl with
  | [v0, v1, v2, v3], _, [y0, y1, y2, y3], _ =>
    have g0 := hf 0 _ rfl
    have g1 := hf 1 _ rfl
    have g2 := hf 2 _ rfl
    have g3 := hf 3 _ rfl
    simp [hu, Value.cells] at g0 g1 g2 g3
    obtain ⟨a0, e0, _⟩ := DataW.trod_bool Tryz.underlying4 g0
    obtain ⟨a1, e1, _⟩ := DataW.trod_bool Tryz.underlying4 g1
    obtain ⟨a2, e2, _⟩ := DataW.trod_bool Tryz.underlying4 g2
    obtain ⟨a3, e3, _⟩ := DataW.trod_bool Tryz.underlying4 g3
    simp at e0 e1 e2 e3
    subst e0 e1 e2 e3
    exact ⟨⟨a0, a1, a2, a3⟩, rfl, trivial⟩
end Go.Proofs.YteohkobdmkbcpaaGreatDoor.Ps

/- Contracts of Branch, the program's and the document's. -/
namespace Go.Proofs.YteohkobdmkbcpaaGreatDoor.Ps
open Go.RowKit

theorem br_none {k : Int} (h : ¬ k = 18 ∧ ¬ k = 19 ∧ ¬ k = 20 ∧ ¬ k = 21 ∧ ¬ k = 24 ∧ ¬ k = 25 ∧ ¬ k = 26 ∧ ¬ k = 27 ∧ ¬ k = 28 ∧ ¬ k = 29 ∧ ¬ k = 30 ∧ ¬ k = 31) (n z v c : Bool) : br k n z v c = false := by
  obtain ⟨h1, h2, h3, h4, h5, h6, h7, h8, h9, h10, h11, h12⟩ := h
  simp [br, *]
theorem k_cases (k : Int) : k = 18 ∨ k = 19 ∨ k = 20 ∨ k = 21 ∨ k = 24 ∨ k = 25 ∨ k = 26 ∨ k = 27 ∨ k = 28 ∨ k = 29 ∨ k = 30 ∨ k = 31 ∨ (¬ k = 18 ∧ ¬ k = 19 ∧ ¬ k = 20 ∧ ¬ k = 21 ∧ ¬ k = 24 ∧ ¬ k = 25 ∧ ¬ k = 26 ∧ ¬ k = 27 ∧ ¬ k = 28 ∧ ¬ k = 29 ∧ ¬ k = 30 ∧ ¬ k = 31) := by omega

set_option maxHeartbeats 4000000 in
set_option maxRecDepth 100000 in
theorem branch_any (k : Int) (n z v c : Bool) (w : World) :
    Calls Tryz.prog 170 #[.int .i64 k, .agg #[.bool n, .bool z, .bool v, .bool c]] w fun e w' => e = .returned (.bool (br k n z v c)) ∧ Below w.heap.size w w' := by
  rcases k_cases k with rfl | rfl | rfl | rfl | rfl | rfl | rfl | rfl | rfl | rfl | rfl | rfl | h
  rotate_right
  · have HB := Lib.hid (br_none h n z v c)
    obtain ⟨h1, h2, h3, h4, h5, h6, h7, h8, h9, h10, h11, h12⟩ := h
    go_enter Tryz.func170, Tryz.ntmps170
    go_wp2
    go_ret
    exact ⟨ret_bool HB.out.symm, (Below.refl _ _).alloc (Nat.le_refl _) _⟩
  all_goals
    first
    | (go_enter Tryz.func170, Tryz.ntmps170
       go_wp2
       go_ret
       exact ⟨rfl, (Below.refl _ _).alloc (Nat.le_refl _) _⟩)
    | (cases n <;> cases z <;> cases c <;>
       (go_enter Tryz.func170, Tryz.ntmps170
        go_wp2
        go_ret
        exact ⟨rfl, (Below.refl _ _).alloc (Nat.le_refl _) _⟩))

end Go.Proofs.YteohkobdmkbcpaaGreatDoor.Ps
