/- The walk of RamCopies. -/
import Derived.Test.YtghgdilibbjkeaaWJoins
namespace Go.Proofs.Ytghgdilibbjkeaa.Cs
open Go.RowKit

theorem splice_take (xs ys : List Int) (a : Nat) (h : a + ys.length ≤ xs.length) : ((splice xs a ys).drop a).take ys.length = ys := by
  unfold splice
  have h1 : (xs.take a).length = a := by simp; omega
  rw [List.drop_append, List.drop_of_length_le (by omega), h1, Nat.sub_self, List.drop_zero, List.nil_append, List.take_left']
  rfl
theorem num_low (x : Int) (k : Nat) : num (low x k) = x % 256 ^ k := by
  induction k with
  | zero => simp [low, num]
  | succ k ih =>
    have e : low x (k + 1) = low x k ++ [x / 256 ^ k % 256] := by simp [low, List.range_succ]
    rw [e, num_snoc, ih, low_length]
    have hp : (0 : Int) < 256 ^ k := Int.pow_pos (by omega)
    have h1 := Int.emod_add_mul_ediv x (256 ^ k)
    have h2 := Int.emod_add_mul_ediv (x / 256 ^ k) 256
    have h3 : x / 256 ^ (k + 1) = x / 256 ^ k / 256 := by rw [Int.pow_succ, Int.ediv_ediv_of_nonneg (Int.le_of_lt hp)]
    have h4 := Int.emod_add_mul_ediv x (256 ^ (k + 1))
    have h6 : (256 : Int) ^ (k + 1) * (x / 256 ^ k / 256) = 256 ^ k * (256 * (x / 256 ^ k / 256)) := by rw [Int.pow_succ, Int.mul_assoc]
    rw [h3, h6] at h4
    clear h3 h6
    generalize x % 256 ^ (k + 1) = z at *
    generalize x / 256 ^ k / 256 = q at *
    generalize x / 256 ^ k = p at *
    generalize (256 : Int) ^ k = m at *
    have h5 : m * p = m * (p % 256) + m * (256 * q) := by rw [← Int.mul_add, h2]
    generalize m * (p % 256) = s at *
    generalize m * (256 * q) = t at *
    omega
theorem val_put (xs : List Int) (a n : Nat) (x : Int) (h : a + n ≤ xs.length) : val (splice xs a (low x n)) a n = x % 256 ^ n := by
  have := splice_take xs (low x n) a (by rw [low_length]; exact h)
  rw [low_length] at this
  unfold val
  rw [this, num_low]

theorem put_at (g r : Nat) (xs : List Int) (a m : Int) (b n : Nat) (ha : a = b) (hm : m = n) (x : Int) (w : World) (h : Mem w g r xs) (hn : n ≤ 4) (hf : b + n ≤ xs.length) :
    Calls Try.prog 12 #[.pointer (some ⟨g, 0, none⟩), .int .u32 a, .int .u32 x, .int .i64 m] w fun e w' => e = .returned (.int .i64 0) ∧ Mem w' g r (splice xs b (low x n)) ∧ w.grownBy w' (some r) := by
  subst ha; subst hm; exact put_ok g r xs b n x w h hn hf

/-- Behind Put of four bytes: the memory has as many bytes, and the number is there. -/
def PutFour (w : World) (g r b n : Nat) (x : Int) (e : Ending) (w' : World) : Prop :=
  e = .returned (.int .i64 0) ∧ w.grownBy w' (some r) ∧ ∃ zs, Mem w' g r zs ∧ zs.length = n ∧ val zs b 4 = x
theorem put_four (g r : Nat) (xs : List Int) (a : Int) (b n : Nat) (ha : a = b) (hn : xs.length = n) (x : Int) (hx : 0 ≤ x) (hx' : x < 4294967296) (w : World) (h : Mem w g r xs) (hf : b + 4 ≤ n) :
    Calls Try.prog 12 #[.pointer (some ⟨g, 0, none⟩), .int .u32 a, .int .u32 x, .int .i64 4] w (PutFour w g r b n x) :=
  (put_at g r xs a 4 b 4 ha rfl x w h (by omega) (by omega)).mono fun e w' ⟨he, hm, hb⟩ => ⟨he, hb, _, hm, by rw [length_splice _ _ _ (by rw [low_length]; omega), hn],
    by rw [val_put xs b 4 x (by omega), show (256 : Int) ^ 4 = 4294967296 from rfl, Int.emod_eq_of_lt hx hx']⟩
theorem get_four (g r : Nat) (xs : List Int) (a : Int) (b n : Nat) (ha : a = b) (hn : xs.length = n) (x : Int) (hv : val xs b 4 = x) (w : World) (h : Mem w g r xs) (hf : b + 4 ≤ n) :
    Calls Try.prog 13 #[.pointer (some ⟨g, 0, none⟩), .int .u32 a, .int .i64 4] w fun e w' => e = .returned (.tuple #[.int .u32 x, .int .i64 0]) ∧ w = w' := by
  subst hv; exact get_at g r xs a b 4 ha w h 4 rfl (by omega) (by omega)

theorem xor_fits (x : Int) (hx : 0 ≤ x) (hx' : x < 4294967296) : 0 ≤ bits .xor .u32 IntKind.u32.max x ∧ bits .xor .u32 IntKind.u32.max x < 4294967296 := by
  rw [show IntKind.u32.max = 4294967295 from rfl, u32_xor _ _ (by omega) (by omega) hx hx']
  have : (4294967295 : Int).toNat ^^^ x.toNat < 2 ^ 32 := Nat.xor_lt_two_pow (by decide) (by omega)
  omega

theorem size_of (g r n : Nat) (xs : List Int) (hn : xs.length = n) (w : World) (h : Mem w g r xs) :
    Calls Try.prog 11 #[.pointer (some ⟨g, 0, none⟩)] w fun e w' => e = .returned (.int .i64 n) ∧ w = w' := by
  subst hn; exact size_any g r xs w h

set_option maxHeartbeats 400000 in
theorem copies_long (A : Option Addr) (n c : Nat) (a x : Int) (w : World) (hn : 4096 < n) :
    Calls Try.prog 5 #[.slice A n c, .int .u32 a, .int .u32 x] w fun e w' => e = .returned (.bool true) ∧ Below w.heap.size w w' := by
  have hn' : (4096 : Int) < (n : Int) := by omega
  go_enter Try.func5, Try.ntmps5
  go_wp2_with fail
  refine (ralive _).mono ?_
  rintro e w1 ⟨rfl, hb1⟩
  go_wp2
  go_ret
  exact ⟨rfl, hb1⟩

set_option maxHeartbeats 800000 in
theorem copies_short (A : Option Addr) (n c : Nat) (ys : List Int) (a x : Int) (w : World) (hs : Src w A ys) (hm : ys.length = n) (hby : Byt ys) (hn : n ≤ 4096) (ha : 0 ≤ a) (ha' : a < 4294967296) (hx : 0 ≤ x) (hx' : x < 4294967296) :
    Calls Try.prog 5 #[.slice A n c, .int .u32 a, .int .u32 x] w fun e w' => e = .returned (.bool true) ∧ Below w.heap.size w w' := by
  have hn' : ¬ (4096 : Int) < (n : Int) := by omega
  have HS := Lib.hid hs
  have HL := Lib.hid hm
  have HY := Lib.hid hby
  have HA := Lib.hid ha'
  have HX := Lib.hid hx'
  clear hs hm hby ha' hx'
  go_enter Try.func5, Try.ntmps5
  go_wp2_with fail
  refine (ralive _).mono ?_
  rintro e w1 ⟨rfl, hb1⟩
  go_wp2_with fail
  refine (new_any n _).mono ?_
  rintro e w2 ⟨g, r, rfl, hg, hr, hm, hb2⟩
  rw [sized_nat n (by omega)] at hm
  have HM := Lib.hid hm
  have HB := Lib.hid (bel_trans hb1 hb2)
  have hr' : w.heap.size ≤ r := by have := hb1.size; omega
  have HS2 := Lib.hid (HS.out.below HB.out)
  clear hm hb1 hb2
  go_wp2_with fail
  refine (load_all g r n c ys A _ HM.out HS2.out HL.out HY.out).mono ?_
  rintro e w3 ⟨rfl, hm3, hb3⟩
  have HM3 := Lib.hid hm3
  have HB3 := Lib.hid (below_of_grown HB.out hb3 HB.out.size hr')
  clear hm3 hb3
  go_wp2_with fail
  refine (copy_ok g r ys _ HM3.out).mono ?_
  rintro e w4 ⟨g', r', rfl, hg4, hr4, hm4, hb4⟩
  have HC4 := Lib.hid hm4
  have HM4 := Lib.hid (HM3.out.below_ hb4)
  have HB4 := Lib.hid (bel_trans HB3.out hb4)
  have hgl := HM3.out.glt
  have hrl := HM3.out.rlt
  have hrr : w.heap.size ≤ r' := by have := HB3.out.size; omega
  clear hm4 hb4
  by_cases hf : a + 4 ≤ n
  · obtain ⟨b, hab⟩ := Int.eq_ofNat_of_zero_le ha
    have HAB := Lib.hid hab
    have hf' : b + 4 ≤ n := by omega
    clear hab
    go_wp2_with fail
    refine (put_four g r ys _ b n HAB.out HL.out x hx HX.out _ HM4.out hf').mono ?_
    rintro e w5 ⟨rfl, hb5, zs, hm5, hz5, hv5⟩
    have HM5 := Lib.hid hm5
    have HZ5 := Lib.hid hz5
    have HV5 := Lib.hid hv5
    have HC5 := Lib.hid (HC4.out.grown hb5 (by omega) (by omega))
    have HB5 := Lib.hid (below_of_grown HB4.out hb5 HB4.out.size hr')
    clear hm5 hb5 hz5 hv5
    go_wp2_with fail
    refine (put_four g' r' ys _ b n HAB.out HL.out _ (xor_fits x hx HX.out).1 (xor_fits x hx HX.out).2 _ HC5.out hf').mono ?_
    rintro e w6 ⟨rfl, hb6, us, hm6, hz6, hv6⟩
    have HC6 := Lib.hid hm6
    have HU6 := Lib.hid hz6
    have HW6 := Lib.hid hv6
    have HM6 := Lib.hid (HM5.out.grown hb6 (by omega) (by omega))
    have HB6 := Lib.hid (below_of_grown HB5.out hb6 HB5.out.size hrr)
    clear hm6 hb6 hz6 hv6
    go_wp2_with fail
    refine (size_of g' r' n us HU6.out _ HC6.out).mono ?_
    rintro e w' ⟨rfl, rfl⟩
    go_wp2_with fail
    refine (size_of g r n zs HZ5.out _ HM6.out).mono ?_
    rintro e w' ⟨rfl, rfl⟩
    go_wp2_with fail
    refine (get_four g r zs _ b n HAB.out HZ5.out _ HV5.out _ HM6.out hf').mono ?_
    rintro e w' ⟨rfl, rfl⟩
    go_wp2_with fail
    refine (get_four g' r' us _ b n HAB.out HU6.out _ HW6.out _ HC6.out hf').mono ?_
    rintro e w' ⟨rfl, rfl⟩
    go_wp2
    go_ret
    exact ⟨rfl, HB6.out⟩
  · go_wp2_with fail
    refine (put_not g r ys _ _ _ _ HM4.out (by omega) HA.out (by rw [HL.out]; omega)).mono ?_
    rintro e w' ⟨rfl, rfl⟩
    go_wp2_with fail
    refine (put_not g' r' ys _ _ _ _ HC4.out (by omega) HA.out (by rw [HL.out]; omega)).mono ?_
    rintro e w' ⟨rfl, rfl⟩
    go_wp2_with fail
    refine (size_of g' r' n ys HL.out _ HC4.out).mono ?_
    rintro e w' ⟨rfl, rfl⟩
    go_wp2_with fail
    refine (size_of g r n ys HL.out _ HM4.out).mono ?_
    rintro e w' ⟨rfl, rfl⟩
    go_wp2_with fail
    refine (get_not g r ys _ _ _ HM4.out (by omega) HA.out (by rw [HL.out]; omega)).mono ?_
    rintro e w' ⟨rfl, rfl⟩
    go_wp2_with fail
    refine (get_not g' r' ys _ _ _ HC4.out (by omega) HA.out (by rw [HL.out]; omega)).mono ?_
    rintro e w' ⟨rfl, rfl⟩
    go_wp2
    go_ret
    exact ⟨rfl, HB4.out⟩

theorem copies_walk (A : Option Addr) (n c : Nat) (zs : List Int) (a x : Int) (w : World)
    (h : (A = none ∧ n = 0 ∧ c = 0 ∧ zs = []) ∨ ∃ x : Addr, A = some x ∧ n ≤ c ∧ c ≤ maxLen ∧ zs.length = c ∧ (∀ i, i < zs.length → w.cell? (x.add i) = some (.int .u8 (zs.getD i 0))) ∧ ∀ n ∈ zs, (Lit.int .u8 n).wf = true)
    (ha : (Lit.int .u32 a).wf = true) (hx : (Lit.int .u32 x).wf = true) :
    Calls Try.prog 5 #[.slice A n c, .int .u32 a, .int .u32 x] w fun e w' => e = .returned (.bool true) ∧ Below w.heap.size w w' := by
  obtain ⟨ys, hl, hb, hs⟩ := src_of_row h
  have hu := bounds_u32 ha
  have hv := bounds_u32 hx
  by_cases hn : 4096 < n
  · exact copies_long A n c a x w hn
  · exact copies_short A n c ys a x w hs hl hb (by omega) (by omega) (by omega) (by omega) (by omega)

end Go.Proofs.Ytghgdilibbjkeaa.Cs
