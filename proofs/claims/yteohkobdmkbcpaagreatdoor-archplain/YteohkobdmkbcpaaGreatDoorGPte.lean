import Derived.Laws.BitsAllLaws
import Derived.Laws.Bits128
import Derived.Test.YteohkobdmkbcpaaGreatDoorRows
import Derived.WalkKit
import Derived.WalkLawsBesides
import Derived.Outline
import Derived.Lib.Hide
import Derived.OpenShut

/- Plain arithmetic of entries of page tables: no program in sight. -/
namespace Go.Proofs.YteohkobdmkbcpaaGreatDoor.Pt

/-- a number fits its 32 bits -/
def U (x : Int) : Prop := 0 ≤ x ∧ x < 4294967296
/-- an entry's protection, its two bits, and what may be done -/
def pr (x : Int) : Int := x / 134217728 % 4
def iv (x : Int) : Bool := x / 2147483648 % 2 == 1
def im (x : Int) : Bool := x / 67108864 % 2 == 1
def lst (u w : Bool) : Int := if u then (if w then 3 else 2) else 1
def my (x : Int) (u w : Bool) : Bool := decide (lst u w ≤ pr x)
/-- where a byte lies -/
def pl (x va : Int) : Int := x % 2097152 * 512 + va % 512
/-- a bit's worth -/
def wo (b : Bool) (n : Int) : Int := if b then n else 0
/-- an entry of its parts -/
def mk (v : Bool) (p : Int) (m : Bool) (f : Int) : Int := wo v 2147483648 + p % 4 * 134217728 + wo m 67108864 + f % 2097152

theorem pr_bound (x : Int) : 0 ≤ pr x ∧ pr x ≤ 3 := by unfold pr; omega
theorem pl_U (x va : Int) : U (pl x va) := by unfold U pl; omega
theorem wo_or (b : Bool) (n : Int) : wo b n = n ∨ wo b n = 0 := by cases b <;> simp [wo]
theorem mk_U (v : Bool) (p : Int) (m : Bool) (f : Int) : U (mk v p m f) := by
  unfold U mk
  rcases wo_or v 2147483648 with h | h <;> rcases wo_or m 67108864 with k | k <;> rw [h, k] <;> omega

theorem and_frames {x : Int} (h : U x) : bits .and .u32 x 2097151 = x % 2097152 := by
  obtain ⟨h0, h1⟩ := h
  rw [u32_and _ _ h0 h1 (by omega) (by omega)]
  show ((x.toNat &&& 2097151 : Nat) : Int) = _
  rw [nat_mask21]; omega
theorem and_three {x : Int} (h0 : 0 ≤ x) (h1 : x < 4294967296) : bits .and .u32 x 3 = x % 4 := by
  rw [u32_and _ _ h0 h1 (by omega) (by omega)]
  show ((x.toNat &&& 3 : Nat) : Int) = _
  rw [nat_mask2]; omega
theorem and_valid {x : Int} (h : U x) : (bits .and .u32 x 2147483648 != 0) = iv x := by
  obtain ⟨h0, h1⟩ := h
  rw [u32_and _ _ h0 h1 (by omega) (by omega)]
  show ((((x.toNat &&& 2 ^ 31 : Nat) : Int)) != 0) = _
  rw [nat_bit]
  unfold iv
  have : x / 2147483648 % 2 = 1 ∨ x / 2147483648 % 2 = 0 := by omega
  rcases this with h | h
  · rw [h, show x.toNat / 2 ^ 31 % 2 = 1 by omega]; rfl
  · rw [h, show x.toNat / 2 ^ 31 % 2 = 0 by omega]; rfl
theorem and_modified {x : Int} (h : U x) : (bits .and .u32 x 67108864 != 0) = im x := by
  obtain ⟨h0, h1⟩ := h
  rw [u32_and _ _ h0 h1 (by omega) (by omega)]
  show ((((x.toNat &&& 2 ^ 26 : Nat) : Int)) != 0) = _
  rw [nat_bit]
  unfold im
  have : x / 67108864 % 2 = 1 ∨ x / 67108864 % 2 = 0 := by omega
  rcases this with h | h
  · rw [h, show x.toNat / 2 ^ 26 % 2 = 1 by omega]; rfl
  · rw [h, show x.toNat / 2 ^ 26 % 2 = 0 by omega]; rfl
theorem i64_and3 (n : Int) : bits .and .i64 n 3 = n % 4 := by
  have h3 : (BitVec.ofInt 64 3).toNat = 2 ^ 2 - 1 := by decide
  have key : (BitVec.ofInt 64 n &&& BitVec.ofInt 64 3).toNat = (n % ((2 ^ 64 : Nat) : Int)).toNat % 2 ^ 2 := by
    rw [BitVec.toNat_and, BitVec.toNat_ofInt, h3, Nat.and_two_pow_sub_one_eq_mod]
  show IntKind.i64.wrap ((BitVec.ofInt 64 n &&& BitVec.ofInt 64 3).toNat : Nat) = n % 4
  rw [key, IntKind.wrap_i64]
  omega

/-- two numbers without a common bit, the one above, the other below a power of two -/
theorem or_join (i : Nat) (x y : Int) (hx : U x) (hx2 : x % 2 ^ i = 0) (hy : y < 2 ^ i) (hU : U y) : bits .or .u32 x y = x + y := by
  rw [u32_or _ _ hx.1 hx.2 hU.1 hU.2]
  have hy0 := hU.1
  have e := nat_join i x.toNat y.toNat (by obtain ⟨n, rfl⟩ := Int.eq_ofNat_of_zero_le hx.1; simpa using (by exact_mod_cast hx2 : n % 2 ^ i = 0)) (by obtain ⟨n, rfl⟩ := Int.eq_ofNat_of_zero_le hy0; simpa using (by exact_mod_cast hy : n < 2 ^ i))
  have h1 := hx.1
  rw [e]; omega
theorem or_comm32 (x y : Int) : bits .or .u32 x y = bits .or .u32 y x := by simp only [bits, BitVec.or_comm]
theorem or_one (i : Nat) (x : Int) (hi : i < 32) (hx : U x) (h : x / 2 ^ i % 2 = 0) : bits .or .u32 x (2 ^ i) = x + 2 ^ i := by
  obtain ⟨n, rfl⟩ := Int.eq_ofNat_of_zero_le hx.1
  have hn : n < 4294967296 := by have := hx.2; omega
  have hp : 2 ^ i < 4294967296 := by
    have : 2 ^ i < 2 ^ 32 := Nat.pow_lt_pow_right (by omega) hi
    omega
  have h2 : n / 2 ^ i % 2 = 0 := by exact_mod_cast h
  have e : n ||| 2 ^ i = n + 2 ^ i := by
    have hp0 := Nat.two_pow_pos i
    have hL : n % 2 ^ i < 2 ^ i := Nat.mod_lt _ hp0
    have hsp : n = n / 2 ^ (i + 1) * 2 ^ (i + 1) + n % 2 ^ i := by
      have e1 := Nat.div_add_mod n (2 ^ i)
      have e2 := Nat.div_add_mod (n / 2 ^ i) 2
      rw [h2, Nat.div_div_eq_div_mul, ← Nat.pow_succ, Nat.add_zero] at e2
      rw [← e2] at e1
      rw [Nat.pow_succ, Nat.mul_comm (n / (2 ^ i * 2)), Nat.mul_assoc]
      exact e1.symm
    generalize hH : n / 2 ^ (i + 1) * 2 ^ (i + 1) = H at hsp
    generalize hl : n % 2 ^ i = L at hsp hL
    have hH0 : H % 2 ^ (i + 1) = 0 := by rw [← hH]; exact Nat.mul_mod_left _ _
    have hH1 : H % 2 ^ i = 0 := by rw [← hH, Nat.pow_succ, Nat.mul_comm (2 ^ i) 2, ← Nat.mul_assoc]; exact Nat.mul_mod_left _ _
    have j1 := nat_join i H L hH1 hL
    have j2 := nat_join i (2 ^ i) L (Nat.mod_self _) hL
    have j3 := nat_join (i + 1) H (2 ^ i + L) hH0 (by rw [Nat.pow_succ]; omega)
    rw [hsp, ← j1, Nat.or_assoc, Nat.or_comm L, j2, j3, j1]; omega
  have := u32_or_nat n (2 ^ i) hn hp
  rw [e] at this
  exact_mod_cast this

theorem make_one {p f : Int} (hf : U f) : bits .or .u32 (p % 4 * 134217728) (f % 2097152) = p % 4 * 134217728 + f % 2097152 := by
  obtain ⟨h0, h1⟩ := hf
  exact or_join 21 _ _ ⟨by omega, by omega⟩ (by omega) (by omega) ⟨by omega, by omega⟩
theorem make_valid {p f : Int} : bits .or .u32 (p % 4 * 134217728 + f % 2097152) 2147483648 = 2147483648 + p % 4 * 134217728 + f % 2097152 := by
  have := or_one 31 (p % 4 * 134217728 + f % 2097152) (by omega) ⟨by omega, by omega⟩ (by omega)
  rw [show (2 : Int) ^ 31 = 2147483648 from rfl] at this
  rw [this]; omega
theorem make_modified {v : Bool} {p f : Int} : bits .or .u32 (wo v 2147483648 + p % 4 * 134217728 + f % 2097152) 67108864 = wo v 2147483648 + p % 4 * 134217728 + 67108864 + f % 2097152 := by
  have hw := wo_or v 2147483648
  have := or_one 26 (wo v 2147483648 + p % 4 * 134217728 + f % 2097152) (by omega) ⟨by omega, by omega⟩ (by omega)
  rw [show (2 : Int) ^ 26 = 67108864 from rfl] at this
  rw [this]; omega

/-! what is made has its parts -/
theorem mk_frame (v : Bool) (p : Int) (m : Bool) (f : Int) : mk v p m f % 2097152 = f % 2097152 := by
  unfold mk
  rcases wo_or v 2147483648 with h | h <;> rcases wo_or m 67108864 with k | k <;> rw [h, k] <;> omega
theorem mk_pr (v : Bool) (p : Int) (m : Bool) (f : Int) : pr (mk v p m f) = p % 4 := by
  unfold mk pr
  rcases wo_or v 2147483648 with h | h <;> rcases wo_or m 67108864 with k | k <;> rw [h, k] <;> omega
theorem mk_iv (v : Bool) (p : Int) (m : Bool) (f : Int) : iv (mk v p m f) = v := by
  unfold mk iv
  rcases wo_or m 67108864 with k | k <;> rw [k] <;> cases v <;> simp [wo] <;> omega
theorem mk_im (v : Bool) (p : Int) (m : Bool) (f : Int) : im (mk v p m f) = m := by
  unfold mk im
  rcases wo_or v 2147483648 with k | k <;> rw [k] <;> cases m <;> simp [wo] <;> omega
theorem four_mod {p : Int} : (p.tmod 4 + 4).tmod 4 = p % 4 := by
  rw [Int.tmod_eq_emod_of_nonneg (b := 4) (a := p.tmod 4 + 4)]
  · rcases Int.le_total 0 p with h | h
    · rw [Int.tmod_eq_emod_of_nonneg h]; omega
    · obtain ⟨n, rfl⟩ : ∃ n : Int, p = -n := ⟨-p, by omega⟩
      rw [Int.neg_tmod, Int.tmod_eq_emod_of_nonneg (by omega)]; omega
  · have := Int.lt_tmod_of_pos p (b := 4) (by omega); omega

/-! bits that say nothing -/
theorem part_xor (a b i k : Nat) (h : b / 2 ^ i % 2 ^ k = 0) : (a ^^^ b) / 2 ^ i % 2 ^ k = a / 2 ^ i % 2 ^ k := by
  rw [Nat.xor_div_two_pow, Nat.xor_mod_two_pow, h, Nat.xor_zero]
theorem part_and (y m i k : Nat) (h : m / 2 ^ i % 2 ^ k = 0) : (y &&& m) / 2 ^ i % 2 ^ k = 0 := by
  rw [Nat.and_div_two_pow, Nat.and_mod_two_pow, h, Nat.and_zero]
theorem xor_U {x y : Int} (hx : U x) (hy : U y) : U (bits .xor .u32 x y) := by
  rw [u32_xor _ _ hx.1 hx.2 hy.1 hy.2]
  have h1 := hx.1
  have h2 := hx.2
  have h3 := hy.1
  have h4 := hy.2
  have := Nat.xor_lt_two_pow (x := x.toNat) (y := y.toNat) (n := 32) (by omega) (by omega)
  exact ⟨by omega, by omega⟩
theorem and_U {x y : Int} (hx : U x) (hy : U y) : U (bits .and .u32 x y) := by
  rw [u32_and _ _ hx.1 hx.2 hy.1 hy.2]
  have h1 := hx.1
  have h2 := hx.2
  have := Nat.and_le_left (n := x.toNat) (m := y.toNat)
  exact ⟨by omega, by omega⟩
/-- of what a second number has no bits of, nothing is changed -/
theorem xor_part (x y : Int) (i k : Nat) (hx : U x) (hy : U y) (h : y.toNat / 2 ^ i % 2 ^ k = 0) : bits .xor .u32 x y / 2 ^ i % 2 ^ k = x / 2 ^ i % 2 ^ k := by
  rw [u32_xor _ _ hx.1 hx.2 hy.1 hy.2]
  have := part_xor x.toNat y.toNat i k h
  have hx1 := hx.1
  obtain ⟨n, rfl⟩ := Int.eq_ofNat_of_zero_le hx1
  rw [show ((n : Int).toNat) = n from rfl] at this ⊢
  exact_mod_cast this
theorem and_part (y m : Int) (i k : Nat) (hy : U y) (hm : U m) (h : m.toNat / 2 ^ i % 2 ^ k = 0) : (bits .and .u32 y m).toNat / 2 ^ i % 2 ^ k = 0 := by
  rw [u32_and _ _ hy.1 hy.2 hm.1 hm.2]
  exact part_and y.toNat m.toNat i k h

/-- the same entry, but for bits that say nothing -/
theorem same_parts {x y : Int} (hx : U x) (hy : U y) :
    let z := bits .xor .u32 x (bits .and .u32 y 1675624448)
    U z ∧ z % 2097152 = x % 2097152 ∧ pr z = pr x ∧ iv z = iv x ∧ im z = im x := by
  intro z
  have hm : U 1675624448 := ⟨by omega, by omega⟩
  have hn := and_U hy hm
  have P : ∀ i k : Nat, (1675624448 : Int).toNat / 2 ^ i % 2 ^ k = 0 → z / 2 ^ i % 2 ^ k = x / 2 ^ i % 2 ^ k :=
    fun i k h => xor_part x _ i k hx hn (and_part y _ i k hy hm h)
  refine ⟨xor_U hx hn, ?_, ?_, ?_, ?_⟩
  · have := P 0 21 (by decide)
    rw [show (2 : Int) ^ 0 = 1 from rfl, show (2 : Int) ^ 21 = 2097152 from rfl, Int.ediv_one, Int.ediv_one] at this
    exact this
  · exact P 27 2 (by decide)
  · have := P 31 1 (by decide)
    unfold iv
    rw [show z / 2147483648 % 2 = x / 2147483648 % 2 from this]
  · have := P 26 1 (by decide)
    unfold im
    rw [show z / 67108864 % 2 = x / 67108864 % 2 from this]
theorem same_rights {x : Int} (hx : U x) :
    let z := bits .xor .u32 (bits .xor .u32 x 2147483648) 67108864
    U z ∧ pr z = pr x := by
  intro z
  have hv : U 2147483648 := ⟨by omega, by omega⟩
  have hm : U 67108864 := ⟨by omega, by omega⟩
  have h1 := xor_U hx hv
  have e1 := xor_part x _ 27 2 hx hv (by decide)
  have e2 := xor_part _ _ 27 2 h1 hm (by decide)
  exact ⟨xor_U h1 hm, e2.trans e1⟩

/-! rights -/
theorem my_read {x : Int} (u : Bool) (h : my x u true = true) : my x u false = true := by
  unfold my lst at *; cases u <;> simp at * <;> omega
theorem my_kernel {x : Int} (w : Bool) (h : my x true w = true) : my x false w = true := by
  unfold my lst at *; cases w <;> simp at * <;> omega
theorem my_eq {x z : Int} (h : pr z = pr x) (u w : Bool) : my z u w = my x u w := by unfold my; rw [h]
theorem pl_eq {x z : Int} (h : z % 2097152 = x % 2097152) (va : Int) : pl z va = pl x va := by unfold pl; rw [h]
end Go.Proofs.YteohkobdmkbcpaaGreatDoor.Pt

/- Contracts of package pte and of the document's own reckoning of entries. -/
namespace Go.Proofs.YteohkobdmkbcpaaGreatDoor.Pt
open Go.RowKit

theorem ret_int {k : IntKind} {a b : Int} (h : a = b) : Ending.returned (.int k a) = .returned (.int k b) := by rw [h]
theorem ret_bool {a b : Bool} (h : a = b) : Ending.returned (.bool a) = .returned (.bool b) := by rw [h]
theorem U_of {x : Int} (h : (Lit.int .u32 x).wf = true) : U x := by
  have := bounds_u32 h
  exact ⟨by omega, by omega⟩

set_option maxHeartbeats 400000 in
set_option maxRecDepth 100000 in
theorem frame_any (x : Int) (hx : U x) (w : World) :
    Calls Tryz.prog 236 #[.int .u32 x] w fun e w' => e = .returned (.int .u32 (x % 2097152)) ∧ w = w' := by
  have H := Lib.hid (and_frames hx)
  go_enter Tryz.func236, Tryz.ntmps236
  go_wp2
  go_ret
  exact ⟨ret_int H.out, rfl⟩

set_option maxHeartbeats 400000 in
set_option maxRecDepth 100000 in
theorem is_any (x : Int) (hx : U x) (w : World) :
    Calls Tryz.prog 235 #[.int .u32 x] w fun e w' => e = .returned (.bool (iv x)) ∧ w = w' := by
  have H := Lib.hid (and_valid hx)
  go_enter Tryz.func235, Tryz.ntmps235
  go_wp2
  go_ret
  exact ⟨ret_bool H.out, rfl⟩

set_option maxHeartbeats 400000 in
set_option maxRecDepth 100000 in
theorem written_any (x : Int) (hx : U x) (w : World) :
    Calls Tryz.prog 132 #[.int .u32 x] w fun e w' => e = .returned (.bool (im x)) ∧ w = w' := by
  have H := Lib.hid (and_modified hx)
  go_enter Tryz.func132, Tryz.ntmps132
  go_wp2
  go_ret
  exact ⟨ret_bool H.out, rfl⟩

set_option maxHeartbeats 400000 in
set_option maxRecDepth 100000 in
theorem prot_any (x : Int) (hx : U x) (w : World) :
    Calls Tryz.prog 253 #[.int .u32 x] w fun e w' => e = .returned (.int .i64 (pr x)) ∧ w = w' := by
  obtain ⟨h0, h1⟩ := hx
  have H := Lib.hid (and_three (x := x / 134217728) (by omega) (by omega))
  go_enter Tryz.func253, Tryz.ntmps253
  go_wp2
  go_ret
  refine ⟨ret_int ?_, rfl⟩
  rw [H.out]
  unfold wrap64 pr; omega

set_option maxHeartbeats 400000 in
set_option maxRecDepth 100000 in
theorem least_any (u r : Bool) (w : World) :
    Calls Tryz.prog 254 #[.bool u, .bool r] w fun e w' => e = .returned (.int .i64 (lst u r)) ∧ w = w' := by
  cases u <;> cases r
  all_goals
    go_enter Tryz.func254, Tryz.ntmps254
    go_wp2
    go_ret
    exact ⟨rfl, rfl⟩

set_option maxHeartbeats 400000 in
set_option maxRecDepth 100000 in
theorem may_any (x : Int) (u r : Bool) (hx : U x) (w : World) :
    Calls Tryz.prog 234 #[.int .u32 x, .bool u, .bool r] w fun e w' => e = .returned (.bool (my x u r)) ∧ w = w' := by
  go_enter Tryz.func234, Tryz.ntmps234
  go_wp2_with (first | (go_at_call 253; refine (prot_any _ hx _).mono ?_; rintro e w' ⟨rfl, rfl⟩) | (go_at_call 254; refine (least_any _ _ _).mono ?_; rintro e w' ⟨rfl, rfl⟩))
  go_ret
  exact ⟨rfl, rfl⟩

set_option maxHeartbeats 400000 in
set_option maxRecDepth 100000 in
theorem place_any (x va : Int) (hx : U x) (hv : U va) (w : World) :
    Calls Tryz.prog 197 #[.int .u32 x, .int .u32 va] w fun e w' => e = .returned (.int .u32 (pl x va)) ∧ w = w' := by
  obtain ⟨h0, h1⟩ := hv
  go_enter Tryz.func197, Tryz.ntmps197
  go_wp2_with (go_at_call 236; refine (frame_any _ hx _).mono ?_; rintro e w' ⟨rfl, rfl⟩)
  go_ret
  exact ⟨rfl, rfl⟩







set_option maxHeartbeats 400000 in
set_option maxRecDepth 100000 in
theorem rbit_any (x : Int) (n : Nat) (hx : U x) (hn : n ≤ 31) (w : World) :
    Calls Tryz.prog 35 #[.int .u32 x, .int .i64 n] w fun e w' => e = .returned (.bool (x / 2 ^ n % 2 == 1)) ∧ w = w' := by
  go_enter Tryz.func35, Tryz.ntmps35
  go_wp2
  go_loop [0, 5] (fun y i => ∃ k : Nat, k ≤ n ∧ i = .int .i64 k ∧ y = .int .u32 (x / 2 ^ k)) (fun _ i => n - (intOf i).toNat)
  case atStart => exact ⟨0, Nat.zero_le _, rfl, by simp⟩
  case round =>
    obtain ⟨k, hk, rfl, rfl⟩ := hrel
    have hb : U (x / 2 ^ k) := by
      have hp : (0 : Int) < 2 ^ k := Int.pow_pos (by omega)
      have h0 := hx.1
      have h1 := hx.2
      exact ⟨Int.ediv_nonneg h0 (by omega), Int.lt_of_le_of_lt (Int.ediv_le_self _ h0) h1⟩
    have h0 := hb.1
    have h1 := hb.2
    by_cases hlt : k < n
    · go_wp2
      go_round
      case rel =>
        refine ⟨k + 1, by omega, by go_num, ?_⟩
        have : x / 2 ^ (k + 1) = x / 2 ^ k / 2 := by
          rw [Int.pow_succ, Int.ediv_ediv_of_nonneg (Int.pow_nonneg (by omega))]
        rw [this]
      case measure => simp [intOf]; omega
    · have : k = n := by omega
      subst this
      go_wp2
      go_ret
      exact ⟨rfl, rfl⟩

theorem rbit31 (x : Int) (hx : U x) (w : World) :
    Calls Tryz.prog 35 #[.int .u32 x, .int .i64 31] w fun e w' => e = .returned (.bool (iv x)) ∧ w = w' := rbit_any x 31 hx (by omega) w
theorem rbit26 (x : Int) (hx : U x) (w : World) :
    Calls Tryz.prog 35 #[.int .u32 x, .int .i64 26] w fun e w' => e = .returned (.bool (im x)) ∧ w = w' := rbit_any x 26 hx (by omega) w
theorem rbit_as (x : Int) (n : Nat) (hx : U x) (hn : n ≤ 31) (b : Bool) (hb : (x / 2 ^ n % 2 == 1) = b) (w : World) :
    Calls Tryz.prog 35 #[.int .u32 x, .int .i64 n] w fun e w' => e = .returned (.bool b) ∧ w = w' := hb ▸ rbit_any x n hx hn w







theorem a_place (w : World) :
    Calls Tryz.prog 197 #[.int .u32 2550136835, .int .u32 511] w fun e w' => e = .returned (.int .u32 2047) ∧ w = w' :=
  place_any 2550136835 511 ⟨by omega, by omega⟩ ⟨by omega, by omega⟩ w

end Go.Proofs.YteohkobdmkbcpaaGreatDoor.Pt

/- The walk of PteRights. -/
namespace Go.Proofs.YteohkobdmkbcpaaGreatDoor.Pt
open Go.RowKit

/-- may_any, with its answer named -/
theorem may_as (x : Int) (u r b : Bool) (hx : U x) (hb : my x u r = b) (w : World) :
    Calls Tryz.prog 234 #[.int .u32 x, .bool u, .bool r] w fun e w' => e = .returned (.bool b) ∧ w = w' := hb ▸ may_any x u r hx w



end Go.Proofs.YteohkobdmkbcpaaGreatDoor.Pt

/- The walk of PteBits. -/
namespace Go.Proofs.YteohkobdmkbcpaaGreatDoor.Pt
open Go.RowKit

theorem is_as (x : Int) (b : Bool) (hx : U x) (hb : iv x = b) (w : World) :
    Calls Tryz.prog 235 #[.int .u32 x] w fun e w' => e = .returned (.bool b) ∧ w = w' := hb ▸ is_any x hx w
theorem written_as (x : Int) (b : Bool) (hx : U x) (hb : im x = b) (w : World) :
    Calls Tryz.prog 132 #[.int .u32 x] w fun e w' => e = .returned (.bool b) ∧ w = w' := hb ▸ written_any x hx w
theorem place_as (x va p : Int) (hx : U x) (hv : U va) (hp : pl x va = p) (w : World) :
    Calls Tryz.prog 197 #[.int .u32 x, .int .u32 va] w fun e w' => e = .returned (.int .u32 p) ∧ w = w' := hp ▸ place_any x va hx hv w

end Go.Proofs.YteohkobdmkbcpaaGreatDoor.Pt
