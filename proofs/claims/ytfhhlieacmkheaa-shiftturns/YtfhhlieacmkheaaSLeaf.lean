/- Contracts of package shift. -/
import Derived.Test.YtfhhlieacmkheaaSNum2
namespace Go.Proofs.Ytfhhlieacmkheaa.Cs
open Go.RowKit

/-- a count's byte -/
def B (c : Int) : Prop := 0 ≤ c ∧ c < 256

theorem wrap8 {c : Int} (h : B c) : wrap64 (IntKind.i8.wrap c) = sg c 1 := by
  have h0 := h.1
  have h1 := h.2
  unfold sg
  rw [W1]
  have : IntKind.i8.wrap c = if 128 ≤ c then c - 256 else c := by
    simp [IntKind.wrap, IntKind.bits, IntKind.signed]
    split <;> omega
  rw [this]
  unfold wrap64
  split <;> split <;> omega
theorem w32_sg {x : Int} : wrap32 x = sg x 4 := by
  unfold wrap32 sg
  rw [W4]; split <;> omega
theorem sign_ng (x : Int) : decide (wrap32 x < 0) = ng x 4 := by rw [ng_sg z4, w32_sg]
theorem sign_zr {x : Int} (h : U x) : (x == 0) = zr x 4 := by
  have h0 := h.1
  have h1 := h.2
  unfold zr
  rw [W4, Int.emod_eq_of_lt h0 h1]

set_option maxHeartbeats 400000 in
theorem places_any (c : Int) (hc : B c) (w : World) :
    Calls Try.prog 21 #[.int .u8 c] w fun e w' => e = .returned (.int .i64 (sg c 1)) ∧ w = w' := by
  go_enter Try.func21, Try.ntmps21
  go_wp2
  go_ret
  exact ⟨ret_int (wrap8 hc), rfl⟩

/-- the lowest bits of a number that has a sign -/
theorem and_low (n : Int) {k : Nat} (hk : k < 32) : bits .and .i64 n ((2 ^ k - 1 : Nat) : Int) = n % 2 ^ k := by
  have hp : 2 ^ k ≤ 2 ^ 31 := Nat.pow_le_pow_right (by omega) (by omega)
  have hq := Nat.two_pow_pos k
  have hm : (BitVec.ofInt 64 ((2 ^ k - 1 : Nat) : Int)).toNat = 2 ^ k - 1 := by
    rw [BitVec.toNat_ofInt]; omega
  have hd : ((2 : Int) ^ k) ∣ ((2 ^ 64 : Nat) : Int) := ⟨2 ^ (64 - k), by
    rw [← Int.pow_add, show k + (64 - k) = 64 by omega]; rfl⟩
  have hr := Int.emod_nonneg n (Int.ne_of_gt (pw k))
  have hr2 := Int.emod_lt_of_pos n (pw k)
  have hp2 : (2 : Int) ^ k ≤ 2147483648 := pw_le (by omega : k ≤ 31)
  have e : (((BitVec.ofInt 64 n &&& BitVec.ofInt 64 ((2 ^ k - 1 : Nat) : Int)).toNat : Nat) : Int) = n % 2 ^ k := by
    rw [BitVec.toNat_and, hm, Nat.and_two_pow_sub_one_eq_mod, BitVec.toNat_ofInt, Int.natCast_emod, Int.toNat_of_nonneg (by omega), Int.natCast_pow]
    exact Int.emod_emod_of_dvd n hd
  show IntKind.i64.wrap (((BitVec.ofInt 64 n &&& BitVec.ofInt 64 ((2 ^ k - 1 : Nat) : Int)).toNat : Nat) : Int) = _
  rw [e, IntKind.wrap_i64]
  omega
theorem and7 (a : Int) : bits .and .i64 a 7 = a % 8 := and_low a (k := 3) (by omega)
theorem and31 (a : Int) : bits .and .i64 a 31 = a % 32 := and_low a (k := 5) (by omega)

set_option maxHeartbeats 400000 in
theorem above_any (s : Int) (h0 : 0 ≤ s) (h1 : s ≤ 32) (w : World) :
    Calls Try.prog 28 #[.int .i64 s] w fun e w' => e = .returned (.int .u64 (32 - s)) ∧ w = w' := by
  go_enter Try.func28, Try.ntmps28
  go_wp2
  go_ret
  exact ⟨rfl, rfl⟩

set_option maxHeartbeats 400000 in
theorem psigns_any (x : Int) (hx : U x) (w : World) :
    Calls Try.prog 22 #[.int .u32 x] w fun e w' => e = .returned (.agg #[.bool (ng x 4), .bool (zr x 4), .bool false, .bool false]) ∧ Below w.heap.size w w' := by
  have H1 := Lib.hid (sign_ng x)
  have H2 := Lib.hid (sign_zr hx)
  go_enter Try.func22, Try.ntmps22
  go_wp2
  rw [H1.out, H2.out]
  exact bodyPost_ret (v := .agg #[.bool (ng x 4), .bool (zr x 4), .bool false, .bool false]) (by simp [results, Try.results22, go_sem]) rfl ⟨rfl, (Below.refl _ _).alloc (Nat.le_refl _) _⟩

theorem rt_or {x j : Int} (hx : U x) (h0 : 0 ≤ j) (h1 : j < 32) : bits .or .u32 (x * 2 ^ j.toNat % 4294967296) (x / 2 ^ (32 - j).toNat) = rt x j.toNat := by
  obtain ⟨k, rfl⟩ := Int.eq_ofNat_of_zero_le h0
  have e : (32 - (k : Int)).toNat = 32 - k := by omega
  rw [e]
  have hp := rt_parts hx (k := k) (by omega)
  have hk : (2 : Int) ^ k ≤ 4294967296 := pw_le (by omega : k ≤ 32)
  rw [u32_or _ _ (by omega) (by omega) hp.1 (by omega)]
  rfl

set_option maxHeartbeats 400000 in
theorem rotl_any (x k : Int) (hx : U x) (w : World) :
    Calls Try.prog 27 #[.int .u32 x, .int .i64 k] w fun e w' => e = .returned (.int .u32 (rt x (k % 32).toNat)) ∧ w = w' := by
  have hm : bits .and .u64 (IntKind.u64.wrap k) 31 = k % 32 := by
    rw [IntKind.wrap_u64, u64_and _ _ (by omega) (by omega) (by omega) (by omega)]
    show (((k % 18446744073709551616).toNat &&& 31 : Nat) : Int) = _
    rw [nat_mask5]; omega
  have hj0 : 0 ≤ k % 32 := by omega
  have hj1 : k % 32 < 32 := by omega
  generalize k % 32 = j at *
  go_enter Try.func27, Try.ntmps27
  go_wp2
  go_ret
  exact ⟨ret_int (rt_or hx hj0 hj1), rfl⟩

theorem bcell {W w1 : World} (hb : Below W.heap.size W w1) : (∀ b o, b < W.heap.size → w1.cell? ⟨b, o, none⟩ = W.cell? ⟨b, o, none⟩) ∧ (∀ b o, b < W.heap.size → w1.frozen? ⟨b, o, none⟩ = W.frozen? ⟨b, o, none⟩) :=
  ⟨fun b o h => hb.cell (p := ⟨b, o, none⟩) h, fun b o h => hb.frozen (p := ⟨b, o, none⟩) h⟩
theorem U_mod (x : Int) : U (x % 4294967296) := ⟨by omega, by omega⟩
/-- what Rot turns by -/
def ro (c : Int) : Nat := (sg c 1 % 32).toNat
theorem ro_lt (c : Int) : ro c < 32 := by unfold ro; omega

set_option maxHeartbeats 400000 in
theorem rot_any (c x : Int) (q : Bool) (hc : B c) (hx : U x) (w : World) :
    Calls Try.prog 12 #[.int .u8 c, .int .u32 x, .bool q] w fun e w' => e = .returned (.tuple #[.int .u32 (rt x (ro c)), .agg #[.bool (ng (rt x (ro c)) 4), .bool (zr (rt x (ro c)) 4), .bool false, .bool q]]) ∧ Below w.heap.size w w' := by
  have hy : U (rt x (ro c)) := rt_U hx (Nat.le_of_lt (ro_lt c))
  have K1 := fun w => Lib.hid (places_any c hc w)
  have K2 := fun w => Lib.hid (rotl_any x (sg c 1) hx w)
  have K3 := fun w => Lib.hid (psigns_any (rt x (ro c)) hy w)
  generalize (ng (rt x (ro c)) 4) = p1 at *
  generalize (zr (rt x (ro c)) 4) = p2 at *
  have e : rt x (sg c 1 % 32).toNat = rt x (ro c) := rfl
  rw [e] at K2
  clear e
  generalize rt x (ro c) = y at *
  generalize sg c 1 = n at *
  clear hc hx
  go_enter Try.func12, Try.ntmps12
  go_wp2_with (first | (go_at_call 21; refine (K1 _).out.mono ?_; rintro e w' ⟨rfl, rfl⟩) | (go_at_call 27; refine (K2 _).out.mono ?_; rintro e w' ⟨rfl, rfl⟩) | fail)
  refine (K3 _).out.mono ?_
  rintro e w1 ⟨rfl, hb1⟩
  obtain ⟨hc, hf⟩ := bcell hb1
  have hz : w.heap.size < w1.heap.size := by have := hb1.size; simp at this; omega
  go_wp2
  go_region
  go_wp2
  exact bodyPost_ret (v := .tuple #[.int .u32 y, .agg #[.bool p1, .bool p2, .bool false, .bool q]]) (by simp [results, Try.results12, go_sem, hc, hz]) rfl ⟨rfl, by
    refine Below.drew (Below.alloc ?_ (by simp; omega) _)
    iterate 4 refine Below.setCell ?_ (by simp) _
    exact ((Below.refl _ _).alloc (Nat.le_refl _) _).trans (hb1.mono (by simp))⟩

set_option maxHeartbeats 400000 in
theorem ash_down (c x : Int) (hc : B c) (hn : sg c 1 < 0) (w : World) :
    Calls Try.prog 10 #[.int .u8 c, .int .u32 x] w fun e w' => e = .returned (.tuple #[.int .u32 (av (sg c 1) (sg x 4) % 4294967296), .agg #[.bool (ng (av (sg c 1) (sg x 4)) 4), .bool (zr (av (sg c 1) (sg x 4)) 4), .bool (ao (sg c 1) (sg x 4)), .bool false]]) ∧ Below w.heap.size w w' := by
  have hs := sg_bound z1 c
  have hv := sg_32 z4 x
  have hs1 : -128 ≤ sg c 1 := hs.1
  have K1 := fun w => Lib.hid (places_any c hc w)
  have k3 := psigns_any (av (sg c 1) (sg x 4) % 4294967296) (U_mod _)
  rw [show (4294967296 : Int) = W 4 from rfl, ng_of_mod z4, zr_of_mod z4] at k3
  have K3 := fun w => Lib.hid (k3 w)
  have HO := Lib.hid (show ao (sg c 1) (sg x 4) = false by unfold ao; rw [if_pos hn])
  have HV := Lib.hid (show wrap32 x / 2 ^ min (-(sg c 1)).toNat 32 = av (sg c 1) (sg x 4) by unfold av; rw [if_pos hn, w32_sg, dn_min hv])
  generalize (av (sg c 1) (sg x 4)) = y at *
  generalize (ao (sg c 1) (sg x 4)) = o at *
  generalize ng y 4 = p1 at *
  generalize zr y 4 = p2 at *
  generalize sg c 1 = n at *
  clear hs hc k3 hv
  obtain ⟨m, rfl⟩ : ∃ m, n = -m := ⟨-n, by omega⟩
  rw [Int.neg_neg] at HV
  have hm0 : 0 < m := by omega
  have hm2 : 0 ≤ m := by omega
  have hm1 : m ≤ 128 := by omega
  clear hn hs1
  go_enter Try.func10, Try.ntmps10
  go_wp2_with (first | (go_at_call 21; refine (K1 _).out.mono ?_; rintro e w' ⟨rfl, rfl⟩) | fail)
  rw [HV.out]
  refine (K3 _).out.mono ?_
  rintro e w1 ⟨rfl, hb1⟩
  obtain ⟨hc, hf⟩ := bcell hb1
  have hz : w.heap.size < w1.heap.size := by have := hb1.size; simp at this; omega
  go_wp2
  exact bodyPost_ret (v := .tuple #[.int .u32 (y % 4294967296), .agg #[.bool p1, .bool p2, .bool o, .bool false]]) (by simp [results, Try.results10, go_sem, hc, HO.out]) rfl ⟨rfl, by
    iterate 4 refine Below.setCell ?_ (by simp) _
    exact ((Below.refl _ _).alloc (Nat.le_refl _) _).trans (hb1.mono (by simp))⟩

set_option maxHeartbeats 400000 in
theorem ash_up (c x : Int) (hc : B c) (hn : 0 ≤ sg c 1) (w : World) :
    Calls Try.prog 10 #[.int .u8 c, .int .u32 x] w fun e w' => e = .returned (.tuple #[.int .u32 (av (sg c 1) (sg x 4) % 4294967296), .agg #[.bool (ng (av (sg c 1) (sg x 4)) 4), .bool (zr (av (sg c 1) (sg x 4)) 4), .bool (ao (sg c 1) (sg x 4)), .bool false]]) ∧ Below w.heap.size w w' := by
  have hs := sg_bound z1 c
  have hv := sg_32 z4 x
  have hs1 : sg c 1 < 128 := hs.2
  have K1 := fun w => Lib.hid (places_any c hc w)
  have k3 := psigns_any (av (sg c 1) (sg x 4) % 4294967296) (U_mod _)
  rw [show (4294967296 : Int) = W 4 from rfl, ng_of_mod z4, zr_of_mod z4] at k3
  have K3 := fun w => Lib.hid (k3 w)
  have HV := Lib.hid (show wrap32 (wrap32 x * 2 ^ min (sg c 1).toNat 32) = av (sg c 1) (sg x 4) by
    unfold av; rw [if_neg (by omega), w32_sg, w32_sg]; exact up_min _ _)
  have HO := Lib.hid (show (av (sg c 1) (sg x 4) / 2 ^ min (sg c 1).toNat 32 != wrap32 x) = ao (sg c 1) (sg x 4) by
    unfold av ao; rw [if_neg (by omega), if_neg (by omega), w32_sg, ← up_min, back_ov _ (by omega), ov_min])
  generalize (av (sg c 1) (sg x 4)) = y at *
  generalize (ao (sg c 1) (sg x 4)) = o at *
  generalize ng y 4 = p1 at *
  generalize zr y 4 = p2 at *
  generalize sg c 1 = n at *
  clear hs hc k3 hv
  go_enter Try.func10, Try.ntmps10
  go_wp2_with (first | (go_at_call 21; refine (K1 _).out.mono ?_; rintro e w' ⟨rfl, rfl⟩) | fail)
  rw [HV.out]
  refine (K3 _).out.mono ?_
  rintro e w1 ⟨rfl, hb1⟩
  obtain ⟨hc, hf⟩ := bcell hb1
  have hz : w.heap.size < w1.heap.size := by have := hb1.size; simp at this; omega
  go_wp2
  rw [HO.out]
  go_region
  go_wp2
  exact bodyPost_ret (v := .tuple #[.int .u32 (y % 4294967296), .agg #[.bool p1, .bool p2, .bool o, .bool false]]) (by simp [results, Try.results10, go_sem, hc, hz]) rfl ⟨rfl, by
    refine Below.drew (Below.alloc ?_ (by simp; omega) _)
    iterate 4 refine Below.setCell ?_ (by simp) _
    exact ((Below.refl _ _).alloc (Nat.le_refl _) _).trans (hb1.mono (by simp))⟩

theorem ash_any (c x : Int) (hc : B c) (w : World) :
    Calls Try.prog 10 #[.int .u8 c, .int .u32 x] w fun e w' => e = .returned (.tuple #[.int .u32 (av (sg c 1) (sg x 4) % 4294967296), .agg #[.bool (ng (av (sg c 1) (sg x 4)) 4), .bool (zr (av (sg c 1) (sg x 4)) 4), .bool (ao (sg c 1) (sg x 4)), .bool false]]) ∧ Below w.heap.size w w' := by
  by_cases h : sg c 1 < 0
  · exact ash_down c x hc h w
  · exact ash_up c x hc (by omega) w

set_option maxHeartbeats 400000 in
theorem span_any (a s : Int) (hs : s ≤ 32) (w : World) :
    Calls Try.prog 14 #[.int .i64 a, .int .i64 s] w fun e w' => e = .returned (.int .i64 (sp a s)) ∧ w = w' := by
  have h7 : bits .and .i64 a 7 = a % 8 := and7 a
  by_cases h : s < 1
  · have HE := Lib.hid (show sp a s = 0 by unfold sp; rw [if_pos h])
    go_enter Try.func14, Try.ntmps14
    go_wp2
    go_ret
    exact ⟨ret_int HE.out.symm, rfl⟩
  · have HE := Lib.hid (show sp a s = (a % 8 + s + 7) / 8 by unfold sp; rw [if_neg h])
    have hm := Int.emod_nonneg a (by omega : (8 : Int) ≠ 0)
    have hm2 := Int.emod_lt_of_pos a (by omega : (0 : Int) < 8)
    generalize a % 8 = r at *
    go_enter Try.func14, Try.ntmps14
    go_wp2
    go_ret
    exact ⟨ret_int HE.out.symm, rfl⟩

set_option maxHeartbeats 400000 in
theorem extract_any (r a s : Int) (g : Bool) (hs0 : 0 ≤ s) (hs : s ≤ 32) (w : World) :
    Calls Try.prog 16 #[.int .u64 r, .int .i64 a, .int .i64 s, .bool g] w fun e w' => e = .returned (.int .u32 (ev r (a % 32).toNat s.toNat g)) ∧ w = w' := by
  have h31 : bits .and .i64 a 31 = a % 32 := and31 a
  have hm := Int.emod_nonneg a (by omega : (32 : Int) ≠ 0)
  have hm2 := Int.emod_lt_of_pos a (by omega : (0 : Int) < 32)
  have KA := fun w => Lib.hid (above_any s hs0 hs w)
  generalize a % 32 = j at *
  have hn : (32 - s).toNat = 32 - s.toNat := by omega
  have HP := Lib.hid (show r / 2 ^ j.toNat % 4294967296 * 2 ^ (32 - s).toNat % 4294967296 / 2 ^ (32 - s).toNat = ev r j.toNat s.toNat false by
    rw [hn]; exact ext_plain r (by omega))
  have HS := Lib.hid (show wrap32 (r / 2 ^ j.toNat % 4294967296 * 2 ^ (32 - s).toNat % 4294967296) / 2 ^ (32 - s).toNat % 4294967296 = ev r j.toNat s.toNat true by
    rw [hn, w32_sg]; exact ext_signed r (by omega))
  clear hn
  cases g
  · go_enter Try.func16, Try.ntmps16
    go_wp2_with (first | (go_at_call 28; refine (KA _).out.mono ?_; rintro e w' ⟨rfl, rfl⟩) | fail)
    go_ret
    exact ⟨ret_int HP.out, rfl⟩
  · go_enter Try.func16, Try.ntmps16
    go_wp2_with (first | (go_at_call 28; refine (KA _).out.mono ?_; rintro e w' ⟨rfl, rfl⟩) | fail)
    go_ret
    exact ⟨ret_int HS.out, rfl⟩

theorem ins_prog {r x j s : Int} (hr : V r) (hj0 : 0 ≤ j) (hj1 : j < 32) (hs0 : 0 ≤ s) (hs : s ≤ 32) :
    bits .or .u64 (bits .andNot .u64 r (IntKind.u64.wrap (IntKind.u64.wrap (4294967295 * 2 ^ (32 - s).toNat % 4294967296 / 2 ^ (32 - s).toNat) * 2 ^ j.toNat))) (bits .and .u64 (IntKind.u64.wrap (x * 2 ^ j.toNat)) (IntKind.u64.wrap (IntKind.u64.wrap (4294967295 * 2 ^ (32 - s).toNat % 4294967296 / 2 ^ (32 - s).toNat) * 2 ^ j.toNat))) = iv r j.toNat s.toNat x := by
  have hn : (32 - s).toNat = 32 - s.toNat := by omega
  have hp := pw (32 - s.toNat)
  have h0 : 0 ≤ (4294967295 : Int) * 2 ^ (32 - s.toNat) % 4294967296 := by omega
  have h1 : (4294967295 : Int) * 2 ^ (32 - s.toNat) % 4294967296 < 4294967296 := by omega
  have hd := Int.ediv_le_self (2 ^ (32 - s.toNat)) h0
  have hd0 := Int.ediv_nonneg h0 (Int.le_of_lt hp)
  have e : IntKind.u64.wrap (4294967295 * 2 ^ (32 - s.toNat) % 4294967296 / 2 ^ (32 - s.toNat)) = 4294967295 * 2 ^ (32 - s.toNat) % 4294967296 / 2 ^ (32 - s.toNat) := by
    rw [IntKind.wrap_u64]; exact Int.emod_eq_of_lt hd0 (by omega)
  rw [hn, e, IntKind.wrap_u64, IntKind.wrap_u64]
  exact ins_plain hr (by omega) (by omega)

set_option maxHeartbeats 400000 in
theorem insert_any (r a s x : Int) (hr : V r) (hx : U x) (hs0 : 0 ≤ s) (hs : s ≤ 32) (w : World) :
    Calls Try.prog 18 #[.int .u64 r, .int .i64 a, .int .i64 s, .int .u32 x] w fun e w' => e = .returned (.int .u64 (iv r (a % 32).toNat s.toNat x)) ∧ w = w' := by
  have h31 : bits .and .i64 a 31 = a % 32 := and31 a
  have hm := Int.emod_nonneg a (by omega : (32 : Int) ≠ 0)
  have hm2 := Int.emod_lt_of_pos a (by omega : (0 : Int) < 32)
  have KA := fun w => Lib.hid (above_any s hs0 hs w)
  have hx0 := hx.1
  have hx1 := hx.2
  generalize a % 32 = j at *
  have HI := Lib.hid (ins_prog (x := x) hr hm hm2 hs0 hs)
  go_enter Try.func18, Try.ntmps18
  go_wp2_with (first | (go_at_call 28; refine (KA _).out.mono ?_; rintro e w' ⟨rfl, rfl⟩) | fail)
  go_ret
  exact ⟨ret_int HI.out, rfl⟩

end Go.Proofs.Ytfhhlieacmkheaa.Cs
