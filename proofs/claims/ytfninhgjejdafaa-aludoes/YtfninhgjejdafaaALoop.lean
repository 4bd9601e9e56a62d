/- Contract of the document's Do, where it goes bit by bit. -/
import Derived.Test.YtfninhgjejdafaaARef
namespace Go.Proofs.Ytfninhgjejdafaa.Cs
open Go.RowKit

theorem pow_le {k m : Nat} (h : k ≤ m) (hm : m ≤ 32) : (1 : Int) ≤ 2 ^ k ∧ (2 : Int) ^ k ≤ 4294967296 := by
  have h1 : (2 : Nat) ^ k ≤ 2 ^ 32 := Nat.pow_le_pow_right (by omega) (by omega)
  have h2 : 0 < (2 : Nat) ^ k := Nat.two_pow_pos k
  have e : ((2 ^ k : Nat) : Int) = 2 ^ k := by simp
  omega

theorem rbit_as (x : Int) (n : Nat) (hx : U x) (hn : n ≤ 31) (b : Bool) (hb : bi x n = b) (w : World) :
    Calls Try.prog 27 #[.int .u32 x, .int .i64 n] w fun e w' => e = .returned (.bool b) ∧ w = w' := hb ▸ rbit_any x n hx hn w

set_option maxRecDepth 100000 in
set_option maxHeartbeats 1000000 in
theorem rdo_logic (op a b s : Int) (c : Bool) (hs : Sz s) (ha : U a) (hb : U b) (hl : lgc op = true) (w : World) :
    Calls Try.prog 12 #[.int .i64 op, .int .u32 a, .int .u32 b, .bool c, .int .i64 s] w fun e w' => e = .returned (lgA op a b c s).val ∧ Below w.heap.size w w' := by
  have HH := Lib.hid hl
  have kL := rlogic_any op
  rw [hl] at kL
  have KL := Lib.hid kL
  clear kL hl
  have hS : 1 ≤ s ∧ s ≤ 4 := by rcases hs with rfl | rfl | rfl <;> omega
  obtain ⟨hS1, hS2⟩ := hS
  have hU := lg_U (op := op) ha hb
  have hr := rest_bound hs (lg op a b)
  have hU2 : U (lg op a b % W s) := ⟨by omega, by omega⟩
  have kS := rsigns_any (lg op a b % W s) s hs hU2
  rw [ng_of_mod hs, zr_of_mod hs] at kS
  have KS := Lib.hid kS
  have HW := Lib.hid (wd_W hs)
  have HB := Lib.hid (fun i hi => lg_bi (op := op) ha hb i hi)
  have HV := Lib.hid (show (lgA op a b c s).val = .tuple #[.int .u32 (lg op a b % W s), .agg #[.bool (ng (lg op a b) s), .bool (zr (lg op a b) s), .bool false, .bool c], .bool true] from rfl)
  have HM := Lib.hid (fun k => mod_step hU.1 k)
  have hm1 : (wd s : Int) = 8 * s := by unfold wd; omega
  clear kS hU2 hU
  generalize ng (lg op a b) s = n at *
  generalize zr (lg op a b) s = z at *
  generalize hm : wd s = m at *
  generalize hL : lg op a b = L at *
  have hm2 : m ≤ 32 := by omega
  clear hm hL
  go_enter Try.func12, Try.ntmps12
  go_wp2_with (first | (go_at_call 14; refine (KL.out _).mono ?_; rintro e w' ⟨rfl, rfl⟩) | fail)
  go_loop [13, 14, 15] (fun x v i => ∃ k : Nat, k ≤ m ∧ i = .int .i64 k ∧ v = .int .i64 (2 ^ k) ∧ x = .int .i64 (L % 2 ^ k)) (fun _ _ i => m - (intOf i).toNat)
  case atStart => exact ⟨0, by omega, rfl, rfl, by simp⟩
  case round =>
    obtain ⟨k, hk, rfl, rfl, rfl⟩ := hrel
    by_cases hlt : (k : Int) < 8 * s
    · have hp := pow_le hk hm2
      obtain ⟨hp1, hp2⟩ := hp
      have hq1 : 0 ≤ L % 2 ^ k := Int.emod_nonneg _ (by omega)
      have hq2 : L % 2 ^ k < 2 ^ k := Int.emod_lt_of_pos _ (by omega)
      have HS := Lib.hid (HM.out k)
      have HP := Lib.hid (show (2 : Int) ^ (k + 1) = 2 * 2 ^ k by rw [Int.pow_succ, Int.mul_comm])
      have HBk := Lib.hid (HB.out k (by omega))
      cases ht : bi L k
      · have HT := Lib.hid ht
        clear ht
        generalize L % 2 ^ k = q at *
        generalize (2 : Int) ^ k = p at *
        go_wp2_with (first | (go_at_call 27; refine (rbit_any _ _ (by assumption) (by omega) _).mono ?_; rintro e w' ⟨rfl, rfl⟩) | (go_at_call 26; refine (rbitwise_as _ _ _ false HH.out (HBk.out.symm.trans HT.out) _).mono ?_; rintro e w' ⟨rfl, rfl⟩))
        go_round
        case rel => exact ⟨k + 1, by omega, by go_num, by rw [HP.out], by rw [HS.out, HT.out]; simp⟩
        case measure => simp [intOf]; omega
      · have HT := Lib.hid ht
        clear ht
        generalize L % 2 ^ k = q at *
        generalize (2 : Int) ^ k = p at *
        go_wp2_with (first | (go_at_call 27; refine (rbit_any _ _ (by assumption) (by omega) _).mono ?_; rintro e w' ⟨rfl, rfl⟩) | (go_at_call 26; refine (rbitwise_as _ _ _ true HH.out (HBk.out.symm.trans HT.out) _).mono ?_; rintro e w' ⟨rfl, rfl⟩))
        go_round
        case rel => exact ⟨k + 1, by omega, by go_num, by rw [HP.out], by rw [HS.out, HT.out]; simp⟩
        case measure => simp [intOf]; omega
    · obtain rfl : k = m := by omega
      rw [HW.out]
      clear hlt
      go_wp2_with fail
      refine (KS.out _).mono ?_
      rintro e w1 ⟨rfl, hb1⟩
      obtain ⟨hc, hf⟩ := bcell hb1
      have hz : w.heap.size < w1.heap.size := by have := hb1.size; simp at this; omega
      go_wp2
      go_region
      go_wp2
      exact bodyPost_ret (v := .tuple #[.int .u32 (L % W s), .agg #[.bool n, .bool z, .bool false, .bool c], .bool true]) (by simp [results, Try.results12, go_sem, hc, hz]) rfl ⟨by rw [HV.out], by
        refine Below.drew (Below.alloc ?_ (by simp; omega) _)
        iterate 4 refine Below.setCell ?_ (by simp) _
        exact ((Below.refl _ _).alloc (Nat.le_refl _) _).trans (hb1.mono (by simp))⟩

theorem rdo_any (op a b s : Int) (c : Bool) (hs : Sz s) (ha : U a) (hb : U b) (w : World) :
    Calls Try.prog 12 #[.int .i64 op, .int .u32 a, .int .u32 b, .bool c, .int .i64 s] w fun e w' => e = .returned (an op a b c s).val ∧ Below w.heap.size w w' := by
  rcases op_cases op with h | rfl | rfl | rfl | rfl | rfl | rfl | rfl | rfl | rfl | rfl | rfl | ⟨h, h0, h1, h2, h3⟩
  · rw [an_lg h]; exact rdo_logic op a b s c hs ha hb h w
  · exact rdo_neg a b s c hs ha hb w
  · exact rdo_inc a b s c hs ha hb w
  · exact rdo_dec a b s c hs ha hb w
  · exact rdo_add a b s c hs ha hb w
  · exact rdo_sub a b s c hs ha hb w
  · exact rdo_addc a b s c hs ha hb w
  · exact rdo_subc a b s c hs ha hb w
  · exact rdo_mul a b s c hs ha hb w
  · exact rdo_div a b s c hs ha hb w
  · exact rdo_cmp a b s c hs ha hb w
  · exact rdo_test a b s c hs ha w
  · rw [an_no h h0 h1 h2 h3]
    exact rdo_none op a b s c hs ha h h0 h1 h2 h3 w

end Go.Proofs.Ytfninhgjejdafaa.Cs
