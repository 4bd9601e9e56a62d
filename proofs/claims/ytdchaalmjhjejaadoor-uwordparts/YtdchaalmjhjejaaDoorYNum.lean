/- Words of the ROM as numbers: how wide each part is, from which bit on it lies, a word's number and a number's word. No program is in sight. -/
import Derived.Test.YtdchaalmjhjejaaDoorGIm
import Derived.Laws.BitsAllLaws
namespace Go.Proofs.YtdchaalmjhjejaaDoor.Cs
open Go.RowKit Tl Tl.Ia

/-- how many bits each part has, and from which bit on it lies -/
def wd : Nat → Nat
  | 0 => 5 | 1 => 6 | 2 => 6 | 3 => 6 | 4 => 8 | 5 => 2 | 6 => 2 | 7 => 4 | 8 => 3 | 9 => 5 | 10 => 11 | 11 => 6 | _ => 0
def ofk : Nat → Nat
  | 0 => 0
  | k + 1 => ofk k + wd k
def nmz : List (List UInt8) := [[97, 108, 117], [97], [98], [100], [108, 105, 116], [115, 105, 122, 101], [99, 99], [109, 101, 109], [115, 101, 113], [99, 111, 110, 100], [116, 111], [109, 105, 115, 99]]
abbrev nmk (k : Nat) : List UInt8 := nmz.getD k []

/-- where a name is: -1, if nowhere -/
def ixg (l : List UInt8) : Nat → Nat → Int
  | 0, _ => -1
  | n + 1, k => if l = nmk k then (k : Int) else ixg l n (k + 1)
def ix (l : List UInt8) : Int := ixg l 12 0
theorem ixg_step (l : List UInt8) (n k : Nat) : ixg l (n + 1) k = if l = nmk k then (k : Int) else ixg l n (k + 1) := rfl
theorem ixg_spec (l : List UInt8) : ∀ n k, (ixg l n k = -1 ∧ ∀ j, k ≤ j → j < k + n → l ≠ nmk j) ∨ ∃ j : Nat, k ≤ j ∧ j < k + n ∧ ixg l n k = j ∧ l = nmk j
  | 0, k => .inl ⟨rfl, fun j h1 h2 => by omega⟩
  | n + 1, k => by
    rw [ixg_step]
    by_cases h : l = nmk k
    · rw [if_pos h]; exact .inr ⟨k, by omega, by omega, rfl, h⟩
    · rw [if_neg h]
      rcases ixg_spec l n (k + 1) with ⟨h1, h2⟩ | ⟨j, h1, h2, h3, h4⟩
      · refine .inl ⟨h1, fun j h3 h4 => ?_⟩
        by_cases e : j = k
        · rw [e]; exact h
        · exact h2 j (by omega) (by omega)
      · exact .inr ⟨j, by omega, by omega, h3, h4⟩
theorem ix_spec (l : List UInt8) : (ix l = -1 ∧ ∀ j, j < 12 → l ≠ nmk j) ∨ ∃ j : Nat, j < 12 ∧ ix l = j ∧ l = nmk j := by
  rcases ixg_spec l 12 0 with ⟨h1, h2⟩ | ⟨j, _, h2, h3, h4⟩
  · exact .inl ⟨h1, fun j hj => h2 j (by omega) (by omega)⟩
  · exact .inr ⟨j, by omega, h3, h4⟩
theorem ix_nm (k : Nat) (hk : k < 12) : ix (nmk k) = k := by
  have : ∀ k : Fin 12, ix (nmk k.val) = (k.val : Int) := by decide
  exact this ⟨k, hk⟩
theorem nm_inj {j k : Nat} (hj : j < 12) (hk : k < 12) (h : nmk j = nmk k) : j = k := by
  have h1 := ix_nm j hj
  rw [h, ix_nm k hk] at h1
  omega

/-- whether a number fits; whether all of a word's parts do -/
def ft (x : Int) (b : Nat) : Bool := decide (0 ≤ x ∧ x < 2 ^ b)
theorem ft_iff (x : Int) (b : Nat) : ft x b = true ↔ 0 ≤ x ∧ x < 2 ^ b := by simp [ft]
def gdg (p : Nat → Int) : Nat → Nat → Bool
  | 0, _ => true
  | n + 1, k => ft (p k) (wd k) && gdg p n (k + 1)
def gd (p : Nat → Int) : Bool := gdg p 12 0
theorem gdg_step (p : Nat → Int) (n k : Nat) : gdg p (n + 1) k = (ft (p k) (wd k) && gdg p n (k + 1)) := rfl
theorem gdg_iff (p : Nat → Int) : ∀ n k, gdg p n k = true ↔ ∀ j, k ≤ j → j < k + n → 0 ≤ p j ∧ p j < 2 ^ wd j
  | 0, k => by simp only [gdg, true_iff]; intro j h1 h2; omega
  | n + 1, k => by
    rw [gdg_step, Bool.and_eq_true, ft_iff, gdg_iff p n (k + 1)]
    constructor
    · rintro ⟨h1, h2⟩ j h3 h4
      by_cases e : j = k
      · rw [e]; exact h1
      · exact h2 j (by omega) (by omega)
    · intro h
      exact ⟨h k (by omega) (by omega), fun j h1 h2 => h j (by omega) (by omega)⟩
theorem gd_iff (p : Nat → Int) : gd p = true ↔ ∀ j, j < 12 → 0 ≤ p j ∧ p j < 2 ^ wd j := by
  unfold gd
  rw [gdg_iff]
  exact ⟨fun h j hj => h j (by omega) (by omega), fun h j _ hj => h j (by omega)⟩

/-- a word's number: the parts ahead of k; and those from k on -/
def pk (p : Nat → Int) : Nat → Int
  | 0 => 0
  | k + 1 => pk p k + p k * 2 ^ ofk k
def hg (p : Nat → Int) : Nat → Nat → Int
  | 0, _ => 0
  | n + 1, k => hg p n (k + 1) * 2 ^ wd k + p k
def pn (p : Nat → Int) : Int := pk p 12
/-- a number's part -/
def up (x : Int) (k : Nat) : Int := x / 2 ^ ofk k % 2 ^ wd k
theorem pos2 (n : Nat) : (0 : Int) < 2 ^ n := by
  have := Nat.two_pow_pos n
  exact_mod_cast this
theorem ofk_step (k : Nat) : (2 : Int) ^ ofk (k + 1) = 2 ^ ofk k * 2 ^ wd k := by rw [ofk, Int.pow_add]
theorem pk_hg (p : Nat → Int) : ∀ n k, pk p (k + n) = pk p k + 2 ^ ofk k * hg p n k
  | 0, k => by simp [hg]
  | n + 1, k => by
    rw [show k + (n + 1) = k + 1 + n by omega, pk_hg p n (k + 1), ofk_step, hg, pk, Int.mul_add, Int.mul_comm (p k), Int.mul_comm (hg p n (k + 1)), ← Int.mul_assoc]
    omega
theorem pn_hg (p : Nat → Int) : pn p = hg p 12 0 := by
  have h := pk_hg p 12 0
  rw [Nat.zero_add, show pk p 0 = 0 from rfl, show ofk 0 = 0 from rfl, Int.pow_zero, Int.one_mul, Int.zero_add] at h
  exact h
theorem pk_bd {p : Nat → Int} (h : gd p = true) : ∀ k, k ≤ 12 → 0 ≤ pk p k ∧ pk p k < 2 ^ ofk k
  | 0, _ => by simp [pk, ofk]
  | k + 1, hk => by
    obtain ⟨i0, i1⟩ := pk_bd h k (by omega)
    obtain ⟨h0, h1⟩ := (gd_iff p).1 h k (by omega)
    rw [pk, ofk_step]
    have hp := pos2 (ofk k)
    have m0 : 0 ≤ p k * 2 ^ ofk k := Int.mul_nonneg h0 (by omega)
    have m1 : (p k + 1) * 2 ^ ofk k ≤ 2 ^ wd k * 2 ^ ofk k := Int.mul_le_mul_of_nonneg_right (by omega) (by omega)
    rw [Int.add_mul, Int.one_mul] at m1
    rw [Int.mul_comm (2 ^ ofk k)]
    omega
theorem hg_bd {p : Nat → Int} (h : gd p = true) : ∀ n k, k + n = 12 → 0 ≤ hg p n k
  | 0, k, _ => by simp [hg]
  | n + 1, k, hk => by
    have i := hg_bd h n (k + 1) (by omega)
    obtain ⟨h0, _⟩ := (gd_iff p).1 h k (by omega)
    have := Int.mul_nonneg i (Int.le_of_lt (pos2 (wd k)))
    rw [hg]; omega
theorem pn_bd {p : Nat → Int} (h : gd p = true) : 0 ≤ pn p ∧ pn p < 18446744073709551616 := by
  have := pk_bd h 12 (by omega)
  exact this
theorem up_pn {p : Nat → Int} (h : gd p = true) {k : Nat} (hk : k < 12) : up (pn p) k = p k := by
  obtain ⟨i0, i1⟩ := pk_bd h k (by omega)
  obtain ⟨h0, h1⟩ := (gd_iff p).1 h k hk
  have e := pk_hg p (11 - k + 1) k
  rw [show k + (11 - k + 1) = 12 by omega] at e
  have hn := hg_bd h (11 - k) (k + 1) (by omega)
  unfold up pn
  rw [e, Int.add_mul_ediv_left _ _ (Int.ne_of_gt (pos2 _)), Int.ediv_eq_zero_of_lt i0 i1, Int.zero_add, hg, Int.add_comm, Int.mul_comm, Int.add_mul_emod_self_left, Int.emod_eq_of_lt h0 h1]
theorem up_bd (x : Int) (k : Nat) : 0 ≤ up x k ∧ up x k < 2 ^ wd k := ⟨Int.emod_nonneg _ (Int.ne_of_gt (pos2 _)), Int.emod_lt_of_pos _ (pos2 _)⟩
theorem gd_up (x : Int) : gd (up x) = true := (gd_iff _).2 fun k _ => up_bd x k
theorem pk_up (n : Nat) : ∀ k, pk (up (n : Int)) k = (n : Int) % 2 ^ ofk k
  | 0 => by simp [pk, ofk, Int.emod_one]
  | k + 1 => by
    rw [pk, pk_up n k, ofk_step, up]
    have := Nat.mod_mul (x := n) (a := 2 ^ ofk k) (b := 2 ^ wd k)
    have e : ((n : Int) % (2 ^ ofk k * 2 ^ wd k)) = (n : Int) % 2 ^ ofk k + 2 ^ ofk k * ((n : Int) / 2 ^ ofk k % 2 ^ wd k) := by exact_mod_cast this
    rw [e, Int.mul_comm (2 ^ ofk k)]
theorem pn_up {x : Int} (h0 : 0 ≤ x) (h1 : x < 18446744073709551616) : pn (up x) = x := by
  obtain ⟨n, rfl⟩ := Int.eq_ofNat_of_zero_le h0
  have := pk_up n 12
  rw [pn, this]
  exact Int.emod_eq_of_lt h0 h1
theorem pn_inj {p q : Nat → Int} (hp : gd p = true) (hq : gd q = true) (h : pn p = pn q) : ∀ k, k < 12 → p k = q k := fun k hk => by
  rw [← up_pn hp hk, h, up_pn hq hk]

/-- another part -/
def st (p : Nat → Int) (k : Nat) (x : Int) : Nat → Int := fun i => if i = k then x else p i
theorem st_same (p : Nat → Int) (k : Nat) (x : Int) : st p k x k = x := if_pos rfl
theorem st_other (p : Nat → Int) {k i : Nat} (x : Int) (h : i ≠ k) : st p k x i = p i := if_neg h

/-- what Set answers: the word, and how it ended -/
def stF (p : Nat → Int) (l : List UInt8) (x : Int) : (Nat → Int) × Int :=
  if ix l < 0 then (p, 5) else if ft x (wd (ix l).toNat) then (st p (ix l).toNat x, 0) else (p, 1)
/-- what Get answers -/
def gt (p : Nat → Int) (l : List UInt8) : Int := if ix l < 0 then 0 else p (ix l).toNat
/-- what Bits answers -/
def btF (l : List UInt8) : Int := if ix l < 0 then 0 else wd (ix l).toNat

/-- bits laid side by side -/
theorem or_side {x y : Int} {k b : Nat} (hx : 0 ≤ x) (hk : x < 2 ^ k) (hy : 0 ≤ y) (hb : y < 2 ^ b) (h64 : k + b ≤ 64) : bits .or .u64 x (y * 2 ^ k) = x + y * 2 ^ k := by
  obtain ⟨m, rfl⟩ := Int.eq_ofNat_of_zero_le hx
  obtain ⟨n, rfl⟩ := Int.eq_ofNat_of_zero_le hy
  have hm : m < 2 ^ k := by exact_mod_cast hk
  have hn : n < 2 ^ b := by exact_mod_cast hb
  have hp : 2 ^ k * 2 ^ b ≤ 2 ^ 64 := by rw [← Nat.pow_add]; exact Nat.pow_le_pow_right (by omega) h64
  have h1 : (n + 1) * 2 ^ k ≤ 2 ^ b * 2 ^ k := Nat.mul_le_mul_right _ (by omega)
  have hq := Nat.two_pow_pos b
  have h2 : 2 ^ k ≤ 2 ^ k * 2 ^ b := Nat.le_mul_of_pos_right _ hq
  rw [Nat.mul_comm (2 ^ b), Nat.add_mul, Nat.one_mul] at h1
  have e : ((n : Int) * 2 ^ k) = ((n * 2 ^ k : Nat) : Int) := by simp
  rw [e, u64_or_nat m (n * 2 ^ k) (by omega) (by omega)]
  have := Nat.two_pow_add_eq_or_of_lt hm n
  rw [Nat.or_comm, Nat.mul_comm, ← this]
  rw [Nat.mul_comm]
  omega
theorem and_mask {x : Int} {b : Nat} (hx : 0 ≤ x) (h1 : x < 18446744073709551616) (hb : b < 64) : bits .and .u64 x ((2 ^ b - 1 : Nat) : Int) = x % 2 ^ b := by
  obtain ⟨m, rfl⟩ := Int.eq_ofNat_of_zero_le hx
  have hp : 2 ^ b ≤ 2 ^ 63 := Nat.pow_le_pow_right (by omega) (by omega)
  rw [u64_and_nat m (2 ^ b - 1) (by have : (m : Int) < 18446744073709551616 := h1; omega) (by omega), Nat.and_two_pow_sub_one_eq_mod]
  simp
end Go.Proofs.YtdchaalmjhjejaaDoor.Cs
