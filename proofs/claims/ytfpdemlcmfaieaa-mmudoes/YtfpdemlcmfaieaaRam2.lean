/- Contract of package ram: Get. -/
import Derived.Test.YtfpdemlcmfaieaaRam1
namespace Go.Proofs.Ytfpdemlcmfaieaa.Rm
open Go.RowKit

/-- The number in bytes, the lowest first. -/
def num : List Int → Int
  | [] => 0
  | x :: l => x + 256 * num l
/-- The number in k bytes from place a on. -/
def val (xs : List Int) (a k : Nat) : Int := num ((xs.drop a).take k)

theorem num_snoc (l : List Int) (x : Int) : num (l ++ [x]) = num l + 256 ^ l.length * x := by
  induction l with
  | nil => simp [num]
  | cons y l ih => simp only [List.cons_append, num, ih, List.length_cons, Int.pow_succ]; rw [Int.mul_add]; rw [← Int.mul_assoc, Int.mul_comm 256 (256 ^ l.length)]; omega
theorem val_succ (xs : List Int) (a k : Nat) (h : a + k < xs.length) : val xs a (k + 1) = val xs a k + 256 ^ k * xs.getD (a + k) 0 := by
  have hl : k < (xs.drop a).length := by simp; omega
  unfold val
  rw [List.take_succ_eq_append_getElem hl, num_snoc, List.length_take, Nat.min_eq_left (by omega)]
  simp [List.getD, h]
theorem val_bound (xs : List Int) (a : Nat) (hb : Byt xs) : ∀ k, a + k ≤ xs.length → 0 ≤ val xs a k ∧ val xs a k < 256 ^ k := by
  intro k
  induction k with
  | zero => intro _; simp [val, num]
  | succ k ih =>
    intro h
    have hk := ih (by omega)
    have hx := hb.at_ (a + k)
    rw [val_succ xs a k (by omega), Int.pow_succ]
    have hp : (0 : Int) < 256 ^ k := Int.pow_pos (by omega)
    generalize (256 : Int) ^ k = p at *
    generalize xs.getD (a + k) 0 = x at *
    have h1 : 0 ≤ p * x := Int.mul_nonneg (by omega) hx.1
    have h2 : p * x ≤ p * 255 := Int.mul_le_mul_of_nonneg_left (by omega) (by omega)
    omega

theorem or_byte (v x : Int) (k : Nat) (hk : k < 4) (hv : 0 ≤ v ∧ v < 256 ^ k) (hx : 0 ≤ x ∧ x < 256) :
    bits .or .u32 v (x % 4294967296 * 2 ^ (8 * k) % 4294967296) = v + 256 ^ k * x := by
  obtain ⟨v, rfl⟩ := Int.eq_ofNat_of_zero_le hv.1
  obtain ⟨x, rfl⟩ := Int.eq_ofNat_of_zero_le hx.1
  have h4 : k = 0 ∨ k = 1 ∨ k = 2 ∨ k = 3 := by omega
  have key : ∀ p : Nat, v < 2 ^ p → p ≤ 24 → x < 256 → bits .or .u32 (v : Int) (((2 ^ p * x : Nat) : Int)) = ((v + 2 ^ p * x : Nat) : Int) := by
    intro p hp hp24 hx
    have h1 : 2 ^ p * x ||| v = 2 ^ p * x + v := (Nat.two_pow_add_eq_or_of_lt hp x).symm
    have hp2 : 2 ^ p ≤ 2 ^ 24 := Nat.pow_le_pow_right (by omega) hp24
    have hb : 2 ^ p * x ≤ 2 ^ 24 * 255 := Nat.mul_le_mul hp2 (by omega)
    have hb2 : 2 ^ p * x + v < 2 ^ p * 256 := by
      have : 2 ^ p * x ≤ 2 ^ p * 255 := Nat.mul_le_mul_left _ (by omega)
      omega
    have hb3 : 2 ^ p * 256 ≤ 2 ^ 24 * 256 := Nat.mul_le_mul_right _ hp2
    show IntKind.u32.wrap ((BitVec.ofInt 32 (v : Int) ||| BitVec.ofInt 32 ((2 ^ p * x : Nat) : Int)).toNat : Int) = _
    rw [BitVec.toNat_or, BitVec.ofInt_natCast, BitVec.ofInt_natCast, BitVec.toNat_ofNat, BitVec.toNat_ofNat, Nat.mod_eq_of_lt (by omega), Nat.mod_eq_of_lt (by omega), Nat.or_comm, h1]
    rw [IntKind.wrap_u32]
    omega
  rcases h4 with rfl | rfl | rfl | rfl
  · have hk' := hv.2
    rw [show (256 : Int) ^ 0 = 1 from rfl] at hk' ⊢
    have := key 0 (by rw [show (2 : Nat) ^ 0 = 1 from rfl]; omega) (by omega) (by omega)
    rw [show (2 : Nat) ^ 0 = 1 from rfl] at this
    rw [show (2 : Int) ^ (8 * 0) = 1 from rfl, show ((x : Int) % 4294967296 * 1 % 4294967296) = ((1 * x : Nat) : Int) by omega, this]
    omega
  · have hk' := hv.2
    rw [show (256 : Int) ^ 1 = 256 from rfl] at hk' ⊢
    have := key 8 (by rw [show (2 : Nat) ^ 8 = 256 from rfl]; omega) (by omega) (by omega)
    rw [show (2 : Nat) ^ 8 = 256 from rfl] at this
    rw [show (2 : Int) ^ (8 * 1) = 256 from rfl, show ((x : Int) % 4294967296 * 256 % 4294967296) = ((256 * x : Nat) : Int) by omega, this]
    omega
  · have hk' := hv.2
    rw [show (256 : Int) ^ 2 = 65536 from rfl] at hk' ⊢
    have := key 16 (by rw [show (2 : Nat) ^ 16 = 65536 from rfl]; omega) (by omega) (by omega)
    rw [show (2 : Nat) ^ 16 = 65536 from rfl] at this
    rw [show (2 : Int) ^ (8 * 2) = 65536 from rfl, show ((x : Int) % 4294967296 * 65536 % 4294967296) = ((65536 * x : Nat) : Int) by omega, this]
    omega
  · have hk' := hv.2
    rw [show (256 : Int) ^ 3 = 16777216 from rfl] at hk' ⊢
    have := key 24 (by rw [show (2 : Nat) ^ 24 = 16777216 from rfl]; omega) (by omega) (by omega)
    rw [show (2 : Nat) ^ 24 = 16777216 from rfl] at this
    rw [show (2 : Int) ^ (8 * 3) = 16777216 from rfl, show ((x : Int) % 4294967296 * 16777216 % 4294967296) = ((16777216 * x : Nat) : Int) by omega, this]
    omega

set_option maxHeartbeats 400000 in
theorem get_ok (g r : Nat) (xs : List Int) (a n : Nat) (w : World) (h : Mem w g r xs) (hn : n ≤ 4) (hf : a + n ≤ xs.length) :
    Calls Try.prog 35 #[.pointer (some ⟨g, 0, none⟩), .int .u32 a, .int .i64 n] w fun e w' => e = .returned (.tuple #[.int .u32 (val xs a n), .int .i64 0]) ∧ w = w' := by
  have C := Lib.hid (holds_ok g r xs a n w h (by omega) (by omega) (by omega) (by omega))
  have hc := h.cell
  have hl := h.len
  have hby := Lib.hid h.byt
  have hcell := Lib.hid (fun (i : Nat) => h.byte (i := i))
  clear h
  go_enter Try.func35, Try.ntmps35
  go_wp2_with fail
  refine C.out.mono ?_
  rintro e w' ⟨rfl, rfl⟩
  go_wp2
  go_loop [9, 19] (fun x i => ∃ k : Nat, k ≤ n ∧ i = .int .i64 k ∧ x = .int .u32 (val xs a k)) (fun _ i => n - (intOf i).toNat)
  case atStart => exact ⟨0, Nat.zero_le _, rfl, rfl⟩
  case round =>
    obtain ⟨k, hk, rfl, rfl⟩ := hrel
    by_cases hlt : k < n
    · have hb := val_bound xs a hby.out k (by omega)
      have hcl := hcell.out (a + k) (by omega)
      have hx := hby.out.at_ (a + k)
      go_wp2
      go_round
      case rel =>
        have ho := or_byte _ _ k (by omega) hb hx
        rw [← val_succ xs a k (by omega)] at ho
        exact ⟨k + 1, by omega, by go_num, by rw [← ho]; rfl⟩
      case measure => simp [intOf]; omega
    · go_wp2
      go_ret2
      have : k = n := by omega
      subst this
      exact ⟨rfl, rfl⟩


set_option maxHeartbeats 400000 in
theorem get_not (g r : Nat) (xs : List Int) (a n : Int) (w : World) (h : Mem w g r xs) (ha : 0 ≤ a) (ha' : a < 4294967296) (hf : ¬ (0 ≤ n ∧ n ≤ 4 ∧ a + n ≤ xs.length)) :
    Calls Try.prog 35 #[.pointer (some ⟨g, 0, none⟩), .int .u32 a, .int .i64 n] w fun e w' => e = .returned (.tuple #[.int .u32 0, .int .i64 6]) ∧ w = w' := by
  have C := Lib.hid (holds_not g r xs a n w h ha ha' hf)
  clear h hf
  go_enter Try.func35, Try.ntmps35
  go_wp2_with fail
  refine C.out.mono ?_
  rintro e w' ⟨rfl, rfl⟩
  go_wp2
  go_ret2
  exact ⟨rfl, rfl⟩

end Go.Proofs.Ytfpdemlcmfaieaa.Rm
