/- The walk of RamCopies. -/
import Derived.Test.YtfpdemlcmfaieaaWJoins
namespace Go.Proofs.Ytfpdemlcmfaieaa.Rm
open Go.RowKit

theorem splice_take (xs ys : List Int) (a : Nat) (h : a + ys.length ≤ xs.length) : ((splice xs a ys).drop a).take ys.length = ys := by
  unfold splice
  have h1 : (xs.take a).length = a := by simp; omega
  rw [List.drop_append, List.drop_of_length_le (by omega), h1, Nat.sub_self, List.drop_zero, List.nil_append, List.take_left']
  rfl
theorem num_low (x : Int) (k : Nat) : num (low x k) = x % 256 ^ k := by
  induction k with
  | zero => simp [low, num]
  | succ k ih =>
    have e : low x (k + 1) = low x k ++ [x / 256 ^ k % 256] := by simp [low, List.range_succ]
    rw [e, num_snoc, ih, low_length]
    have hp : (0 : Int) < 256 ^ k := Int.pow_pos (by omega)
    have h1 := Int.emod_add_mul_ediv x (256 ^ k)
    have h2 := Int.emod_add_mul_ediv (x / 256 ^ k) 256
    have h3 : x / 256 ^ (k + 1) = x / 256 ^ k / 256 := by rw [Int.pow_succ, Int.ediv_ediv_of_nonneg (Int.le_of_lt hp)]
    have h4 := Int.emod_add_mul_ediv x (256 ^ (k + 1))
    have h6 : (256 : Int) ^ (k + 1) * (x / 256 ^ k / 256) = 256 ^ k * (256 * (x / 256 ^ k / 256)) := by rw [Int.pow_succ, Int.mul_assoc]
    rw [h3, h6] at h4
    clear h3 h6
    generalize x % 256 ^ (k + 1) = z at *
    generalize x / 256 ^ k / 256 = q at *
    generalize x / 256 ^ k = p at *
    generalize (256 : Int) ^ k = m at *
    have h5 : m * p = m * (p % 256) + m * (256 * q) := by rw [← Int.mul_add, h2]
    generalize m * (p % 256) = s at *
    generalize m * (256 * q) = t at *
    omega
theorem val_put (xs : List Int) (a n : Nat) (x : Int) (h : a + n ≤ xs.length) : val (splice xs a (low x n)) a n = x % 256 ^ n := by
  have := splice_take xs (low x n) a (by rw [low_length]; exact h)
  rw [low_length] at this
  unfold val
  rw [this, num_low]

theorem put_at (g r : Nat) (xs : List Int) (a m : Int) (b n : Nat) (ha : a = b) (hm : m = n) (x : Int) (w : World) (h : Mem w g r xs) (hn : n ≤ 4) (hf : b + n ≤ xs.length) :
    Calls Try.prog 33 #[.pointer (some ⟨g, 0, none⟩), .int .u32 a, .int .u32 x, .int .i64 m] w fun e w' => e = .returned (.int .i64 0) ∧ Mem w' g r (splice xs b (low x n)) ∧ w.grownBy w' (some r) := by
  subst ha; subst hm; exact put_ok g r xs b n x w h hn hf

/-- Behind Put of four bytes: the memory has as many bytes, and the number is there. -/
def PutFour (w : World) (g r b n : Nat) (x : Int) (e : Ending) (w' : World) : Prop :=
  e = .returned (.int .i64 0) ∧ w.grownBy w' (some r) ∧ ∃ zs, Mem w' g r zs ∧ zs.length = n ∧ val zs b 4 = x
theorem put_four (g r : Nat) (xs : List Int) (a : Int) (b n : Nat) (ha : a = b) (hn : xs.length = n) (x : Int) (hx : 0 ≤ x) (hx' : x < 4294967296) (w : World) (h : Mem w g r xs) (hf : b + 4 ≤ n) :
    Calls Try.prog 33 #[.pointer (some ⟨g, 0, none⟩), .int .u32 a, .int .u32 x, .int .i64 4] w (PutFour w g r b n x) :=
  (put_at g r xs a 4 b 4 ha rfl x w h (by omega) (by omega)).mono fun e w' ⟨he, hm, hb⟩ => ⟨he, hb, _, hm, by rw [length_splice _ _ _ (by rw [low_length]; omega), hn],
    by rw [val_put xs b 4 x (by omega), show (256 : Int) ^ 4 = 4294967296 from rfl, Int.emod_eq_of_lt hx hx']⟩
theorem get_four (g r : Nat) (xs : List Int) (a : Int) (b n : Nat) (ha : a = b) (hn : xs.length = n) (x : Int) (hv : val xs b 4 = x) (w : World) (h : Mem w g r xs) (hf : b + 4 ≤ n) :
    Calls Try.prog 35 #[.pointer (some ⟨g, 0, none⟩), .int .u32 a, .int .i64 4] w fun e w' => e = .returned (.tuple #[.int .u32 x, .int .i64 0]) ∧ w = w' := by
  subst hv; exact get_at g r xs a b 4 ha w h 4 rfl (by omega) (by omega)

theorem xor_fits (x : Int) (hx : 0 ≤ x) (hx' : x < 4294967296) : 0 ≤ bits .xor .u32 IntKind.u32.max x ∧ bits .xor .u32 IntKind.u32.max x < 4294967296 := by
  rw [show IntKind.u32.max = 4294967295 from rfl, u32_xor _ _ (by omega) (by omega) hx hx']
  have : (4294967295 : Int).toNat ^^^ x.toNat < 2 ^ 32 := Nat.xor_lt_two_pow (by decide) (by omega)
  omega

theorem size_of (g r n : Nat) (xs : List Int) (hn : xs.length = n) (w : World) (h : Mem w g r xs) :
    Calls Try.prog 75 #[.pointer (some ⟨g, 0, none⟩)] w fun e w' => e = .returned (.int .i64 n) ∧ w = w' := by
  subst hn; exact size_any g r xs w h

end Go.Proofs.Ytfpdemlcmfaieaa.Rm
