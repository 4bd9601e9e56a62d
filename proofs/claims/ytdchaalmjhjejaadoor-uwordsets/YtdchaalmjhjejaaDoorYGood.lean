/- Contracts: Good of package uword; of the document's. -/
import Derived.Test.YtdchaalmjhjejaaDoorYRset
import Derived.Deep.QuietTactic
import Derived.BigQuiet
namespace Go.Proofs.YtdchaalmjhjejaaDoor.Cs
open Go.RowKit Tl Tl.Ia
set_option linter.unusedVariables false
set_option linter.unusedSimpArgs false

theorem fits_drew (x : Int) (k : Nat) (hk : k < 12) (w : World) : Calls Tryd.prog 27 #[.int .i64 x, .int .i64 (wd k)] w fun e w' => e = .returned (.bool (ft x (wd k))) ∧ ∃ n, w' = w.drewN n :=
  (fits_any x k hk w).mono fun e w' ⟨h, e'⟩ => ⟨h, 0, e'.symm⟩

theorem drewN_bel (W : World) (n : Nat) : Below W.heap.size W (W.drewN n) := ⟨rfl, rfl, rfl, Nat.le_refl _, fun _ _ => rfl⟩

set_option maxHeartbeats 3200000 in
set_option maxRecDepth 100000 in
theorem good_any (p : Nat → Int) (w : World) (hg : Gl w) : Calls Tryd.prog 21 #[.agg (cw p).toArray] w fun e w' => e = .returned (.bool (gd p)) ∧ Below w.heap.size w w' := by
  have HV := Lib.hid (Vd.new w p hg)
  have HF := Lib.hid (fun k hk W => fits_drew (p k) k hk W)
  have HS := Lib.hid (gdg_step p)
  have H0 : Hid (gdg p 12 0 = gd p) := rfl
  clear hg
  go_enter Tryd.func21, Tryd.ntmps21
  go_wp2_with (first
    | (refine wl_box rfl _ _ rfl (cw p) rfl ?_; generalize w.alloc (.cells (cw p).toArray 23) = W at *)
    | (go_at_call 28; refine (parts_any _ _).mono ?_; rintro e w1 ⟨rfl, hb⟩; have HV1 := Lib.hid (HV.out.below hb); clear hb)
    | fail)
  generalize hb : w.heap.size = b at *
  rw [← hb] at HV HV1
  have HQ : Hid (Vd w b p w1) := by rw [← hb]; exact HV1
  clear HV HV1 hb
  go_loopw [6] (fun i W => ∃ k : Nat, k ≤ 12 ∧ i = .int .i64 k ∧ gdg p (12 - k) k = gd p ∧ Vd w b p W) (fun i _ => 12 - (intOf i).toNat)
  case atStart => exact ⟨0, by omega, rfl, H0.out, HQ.out⟩
  case round =>
    obtain ⟨k, hk, rfl, hA, hV⟩ := hrel
    have HV := Lib.hid hV
    by_cases hlt : k < 12
    · have hk' : (k : Int) < 12 := by omega
      rw [show 12 - k = (12 - (k + 1)) + 1 by omega, HS.out] at hA
      have HX := Lib.hid (pidx wr b k hlt)
      have HFk := Lib.hid (HF.out k hlt)
      have c := hV.cell hlt
      have d := hV.gl.bit hlt
      clear hV
      generalize p k = x at *
      cases hf : ft x (wd k)
      · rw [hf] at HFk hA
        have HA := Lib.hid hA
        clear hA hf
        generalize ((wd k : Nat) : Int) = z at *
        go_wp2_with (first
          | (refine wl_index rfl 54 _ _ rfl _ _ _ rfl rfl HX.out ?_)
          | fail)
        go_quiet ((go_at_call 27; exact Calls.quiet_of (HFk.out _)))
        go_wp2
        go_ret
        exact ⟨by rw [← HA.out]; rfl, (HV.out.below (drewN_bel _ _)).bel⟩
      · rw [hf] at HFk hA
        have HA := Lib.hid hA
        clear hA hf
        generalize ((wd k : Nat) : Int) = z at *
        go_wp2_with (first
          | (refine wl_index rfl 54 _ _ rfl _ _ _ rfl rfl HX.out ?_)
          | fail)
        go_quiet ((go_at_call 27; exact Calls.quiet_of (HFk.out _)))
        go_wp2
        go_roundw
        case rel => exact ⟨k + 1, by omega, by go_num, by rw [← HA.out, Bool.true_and], HV.out.below (drewN_bel _ _)⟩
        case measure => simp [intOf]; omega
    · obtain rfl : k = 12 := by omega
      have HA := Lib.hid hA
      clear hA hV
      go_wp2
      go_ret
      exact ⟨by rw [← HA.out]; rfl, HV.out.bel⟩

set_option maxHeartbeats 3200000 in
set_option maxRecDepth 100000 in
theorem rgood_any (p : Nat → Int) (w : World) : Calls Tryd.prog 19 #[.agg (cw p).toArray] w fun e w' => e = .returned (.bool (gd p)) ∧ Below w.heap.size w w' := by
  have HS := Lib.hid (gdg_step p)
  have H0 : Hid (gdg p 12 0 = gd p) := rfl
  have HK := Lib.hid (Bk.new w 23 (cw p))
  have HB := Lib.hid (al1 w (.cells (cw p).toArray 23))
  have HC := Lib.hid (fun (W : World) (r : Nat) (g : Bk W r 3 (cw fun k => 2 ^ wd k)) (k : Nat) (hk : k < 12) => g.cell k _ (cw_get _ k hk))
  have HR := Lib.hid Tryd.underlying23
  go_enter Tryd.func19, Tryd.ntmps19
  go_wp2_with (first
    | (refine wl_box rfl _ _ rfl (cw p) rfl ?_; generalize w.alloc (.cells (cw p).toArray 23) = W at *)
    | (refine wpList_load_mid rfl 23 _ rfl w.heap.size 0 rfl (cw p) _ (HK.out.range 0 _ (by simp)) HR.out rfl wd_size ?_)
    | (go_at_call 14; refine (rparts_any p _).mono ?_; rintro e w1 ⟨r, rfl, hr, hk, hb⟩; have HK1 := Lib.hid hk; have HB1 := Lib.hid (bel_trans HB.out hb HB.out.size); clear hk hb hr)
    | fail)
  clear HK HB
  generalize hb : w.heap.size = b at *
  go_loopw [8] (fun i W => ∃ k : Nat, k ≤ 12 ∧ i = .int .i64 k ∧ gdg p (12 - k) k = gd p ∧ Bk W r 3 (cw p) ∧ Below b w W) (fun i _ => 12 - (intOf i).toNat)
  case atStart => exact ⟨0, by omega, rfl, H0.out, HK1.out, HB1.out⟩
  case round =>
    obtain ⟨k, hk, rfl, hA, hK, hB⟩ := hrel
    have HK := Lib.hid hK
    have HBr := Lib.hid hB
    have hbs := Nat.le_trans (Nat.le_of_eq hb.symm) hB.size
    clear hB
    by_cases hlt : k < 12
    · have hk' : (k : Int) < 12 := by omega
      rw [show 12 - k = (12 - (k + 1)) + 1 by omega, HS.out] at hA
      have c := hK.cell k _ (cw_get p k hlt)
      have HCk := Lib.hid (fun W r g => HC.out W r g k hlt)
      have HD := Lib.hid hbs
      clear hK hbs
      generalize p k = x at *
      by_cases hx : x < 0
      · rw [ft_neg hx] at hA
        have HA := Lib.hid hA
        clear hA
        go_wp2
        go_ret
        exact ⟨by rw [← HA.out]; rfl, hb ▸ HBr.out⟩
      · have hx0 : 0 ≤ x := by omega
        cases hf : ft x (wd k)
        · have hge := ft_ge hf hx0
          rw [hf] at hA
          have HA := Lib.hid hA
          clear hA hf
          generalize (2 : Int) ^ wd k = z at *
          go_wp2_with (first
            | (go_at_call 25; refine (wide_any _).mono ?_; rintro e w2 ⟨r2, rfl, hr, hk2, hb2⟩; have d := HCk.out _ _ hk2; have HB2 := Lib.hid (bel_trans HBr.out hb2 HD.out); clear hb2 hr hk2)
            | fail)
          go_ret
          exact ⟨by rw [← HA.out]; rfl, hb ▸ HB2.out⟩
        · have hlt2 : x < 2 ^ wd k := ((ft_iff _ _).1 hf).2
          rw [hf] at hA
          have HA := Lib.hid hA
          clear hA hf
          generalize (2 : Int) ^ wd k = z at *
          go_wp2_with (first
            | (go_at_call 25; refine (wide_any _).mono ?_; rintro e w2 ⟨r2, rfl, hr, hk2, hb2⟩; have d := HCk.out _ _ hk2; have HK2 := Lib.hid (HK.out.below hb2); have HB2 := Lib.hid (bel_trans HBr.out hb2 HD.out); clear hb2 hr hk2)
            | fail)
          go_roundw
          case rel => exact ⟨k + 1, by omega, by go_num, by rw [← HA.out, Bool.true_and], HK2.out, HB2.out⟩
          case measure => simp [intOf]; omega
    · obtain rfl : k = 12 := by omega
      have HA := Lib.hid hA
      clear hA hK
      go_wp2
      go_ret
      exact ⟨by rw [← HA.out]; rfl, hb ▸ HBr.out⟩
end Go.Proofs.YtdchaalmjhjejaaDoor.Cs
