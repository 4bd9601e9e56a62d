/- Contracts: Pack of package uword. -/
import Derived.Test.YtdchaalmjhjejaaDoorYGood
namespace Go.Proofs.YtdchaalmjhjejaaDoor.Cs
open Go.RowKit Tl Tl.Ia
set_option linter.unusedVariables false
set_option linter.unusedSimpArgs false

theorem ofk_bd : ∀ k, k < 12 → ofk k + wd k ≤ 64 := fun k hk =>
  k12 (P := fun k => ofk k + wd k ≤ 64) (by decide) (by decide) (by decide) (by decide) (by decide) (by decide) (by decide) (by decide) (by decide) (by decide) (by decide) (by decide) k hk
theorem wd_bd (k : Nat) (hk : k < 12) : wd k ≤ 11 := by have := wd_cases k hk; omega
theorem small_pow {b : Nat} (h : b ≤ 11) : (2 : Int) ^ b ≤ 2048 := by
  have h1 : 2 ^ b ≤ 2048 := Nat.pow_le_pow_right (n := 2) (by omega) h
  have h2 := Int.ofNat_le.2 h1
  rw [Int.natCast_pow] at h2
  exact h2

set_option maxHeartbeats 3200000 in
set_option maxRecDepth 100000 in
theorem pack_any (p : Nat → Int) (w : World) (hg : Gl w) : Calls Tryd.prog 20 #[.agg (cw p).toArray] w fun e w' => e = .returned (.tuple #[.int .u64 (if gd p then pn p else 0), .int .i64 (if gd p then 0 else 1)]) ∧ Below w.heap.size w w' := by
  have HV := Lib.hid (Vd.new w p hg)
  have HG := Lib.hid (fun W h => good_any p W h)
  have HR := Lib.hid Tryd.underlying23
  clear hg
  cases hd : gd p
  · rw [hd] at HG
    clear hd
    go_enter Tryd.func20, Tryd.ntmps20
    go_wp2_with (first
      | (refine wl_box rfl _ _ rfl (cw p) rfl ?_; generalize w.alloc (.cells (cw p).toArray 23) = W at *)
      | (refine wpList_load_mid rfl 23 _ rfl w.heap.size 0 rfl (cw p) _ (HV.out.k1.range 0 _ (by simp)) HR.out rfl wd_size ?_)
      | (go_at_call 21; refine (HG.out _ HV.out.gl).mono ?_; rintro e w1 ⟨rfl, hb⟩; have HV1 := Lib.hid (HV.out.below hb); clear hb)
      | fail)
    go_ret2
    exact ⟨rfl, HV1.out.bel⟩
  · rw [hd] at HG
    have HD := Lib.hid hd
    clear hd
    have HP : Hid (∀ k, k < 12 → ∃ X y : Int, pk p k = X ∧ p k = y ∧ 0 ≤ y ∧ y < 2048 ∧ bits .or .u64 X (y * 2 ^ ofk k) = pk p (k + 1) ∧ 0 ≤ y * 2 ^ ofk k ∧ y * 2 ^ ofk k < 18446744073709551616) := Lib.hid fun k hk => by
      obtain ⟨a0, a1⟩ := pk_bd HD.out k (by omega)
      obtain ⟨b0, b1⟩ := (gd_iff p).1 HD.out k hk
      have hs := small_pow (wd_bd k hk)
      have ho := ofk_bd k hk
      refine ⟨_, _, rfl, rfl, b0, by omega, ?_, Int.mul_nonneg b0 (Int.le_of_lt (pos2 _)), ?_⟩
      · rw [or_side a0 a1 b0 b1 (by omega), pk]
      · have h1 : (p k + 1) * 2 ^ ofk k ≤ 2 ^ wd k * 2 ^ ofk k := Int.mul_le_mul_of_nonneg_right (by omega) (Int.le_of_lt (pos2 _))
        rw [← Int.pow_add] at h1
        have h2 : (2 : Int) ^ (wd k + ofk k) ≤ 2 ^ 64 := by
          have : 2 ^ (wd k + ofk k) ≤ 2 ^ 64 := Nat.pow_le_pow_right (by omega) (by omega)
          exact_mod_cast this
        have hp := pos2 (ofk k)
        rw [Int.add_mul, Int.one_mul] at h1
        omega
    go_enter Tryd.func20, Tryd.ntmps20
    go_wp2_with (first
      | (refine wl_box rfl _ _ rfl (cw p) rfl ?_; generalize w.alloc (.cells (cw p).toArray 23) = W at *)
      | (refine wpList_load_mid rfl 23 _ rfl w.heap.size 0 rfl (cw p) _ (HV.out.k1.range 0 _ (by simp)) HR.out rfl wd_size ?_)
      | (go_at_call 21; refine (HG.out _ HV.out.gl).mono ?_; rintro e w1 ⟨rfl, hb⟩; have HV1 := Lib.hid (HV.out.below hb); clear hb)
      | (go_at_call 28; refine (parts_any _ _).mono ?_; rintro e w2 ⟨rfl, hb⟩; have HV2 := Lib.hid (HV1.out.below hb); clear hb)
      | fail)
    have HL := Lib.hid (fun k (hk : k < 12) => HV2.out.cell hk)
    have HM := Lib.hid (fun k (hk : k < 12) => HV2.out.gl.bit hk)
    have HB := Lib.hid HV2.out.bel
    clear HV HV1 HV2 HG
    generalize hb : w.heap.size = b at *
    go_loop [4, 5, 12] (fun x at_ i => ∃ k : Nat, k ≤ 12 ∧ i = .int .i64 k ∧ x = .int .u64 (pk p k) ∧ at_ = .int .i64 (ofk k)) (fun _ _ i => 12 - (intOf i).toNat)
    case atStart => exact ⟨0, by omega, rfl, rfl, rfl⟩
    case round =>
      obtain ⟨k, hk, rfl, rfl, rfl⟩ := hrel
      by_cases hlt : k < 12
      · have hk' : (k : Int) < 12 := by omega
        have HX := Lib.hid (pidx w2 b k hlt)
        have c := HL.out k hlt
        have d := HM.out k hlt
        have hq := ofk_bd k hlt
        have HO : Hid (ofk (k + 1) = ofk k + wd k) := rfl
        obtain ⟨X, y, hX, hy, y0, y1, hor, m0, m1⟩ := HP.out k hlt
        rw [hX]
        rw [hy] at c
        have HX1 := Lib.hid hX
        have HY1 := Lib.hid hy
        clear hX hy
        generalize ofk k = o at *
        generalize wd k = b2 at *
        have o0 : (0 : Int) ≤ (o : Int) := by omega
        have o1 : (o : Int) ≤ 64 := by omega
        have o2 : (b2 : Int) ≤ 64 := by omega
        go_wp2_with (first
          | (refine wl_index rfl 54 _ _ rfl _ _ _ rfl rfl HX.out ?_)
          | fail)
        go_round
        case rel => exact ⟨k + 1, by omega, by go_num, rfl, by rw [HO.out]; go_num⟩
        case measure => simp [intOf]; omega
      · obtain rfl : k = 12 := by omega
        go_wp2
        go_ret2
        exact ⟨rfl, hb ▸ HB.out⟩
end Go.Proofs.YtdchaalmjhjejaaDoor.Cs
