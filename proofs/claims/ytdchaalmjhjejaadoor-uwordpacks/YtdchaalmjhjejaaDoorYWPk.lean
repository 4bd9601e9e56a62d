/- The walk of UwordPacks. -/
import Derived.Test.YtdchaalmjhjejaaDoorYLaw
namespace Go.Proofs.YtdchaalmjhjejaaDoor.Cs
open Go.RowKit Tl Tl.Ia
set_option linter.unusedVariables false
set_option linter.unusedSimpArgs false

set_option maxHeartbeats 3200000 in
set_option maxRecDepth 100000 in
theorem packs_walk (p : Nat → Int) (x : Int) (w : World) (hx : (Lit.int .u64 x).wf = true) (hg : Gl w) :
    Calls Tryd.prog 4 #[.agg (cw p).toArray, .int .u64 x] w fun e w' => e = .returned (.bool true) ∧ Below w.heap.size w w' := by
  obtain ⟨x0, x1⟩ := X_of hx
  have HV := Lib.hid (Vd.new w p hg)
  have HR := Lib.hid (rgood_any p)
  have HG := Lib.hid (good_any p)
  have HP := Lib.hid (pack_any p)
  have HU := Lib.hid (unpack_any x x0 x1)
  have HW := Lib.hid (runpack_any x x0 x1)
  have HE := Lib.hid (eqw_self (up x))
  clear hx x0 x1 hg
  cases hd : gd p
  · rw [hd] at HR HG HP
    clear hd
    go_enter Tryd.func4, Tryd.ntmps4
    generalize hb : w.heap.size = b at *
    go_wp2_with (first
      | (refine wl_box rfl _ _ rfl (cw p) rfl ?_; generalize w.alloc (.cells (cw p).toArray 23) = W at *)
      | (refine wl_ld rfl _ rfl b rfl p HV.out.k1 ?_)
      | (refine wl_eqw rfl _ _ _ rfl _ _ rfl rfl ?_; rw [HE.out])
      | (go_at_call 9; refine (alive_any _ HV.out.gl).mono ?_; rintro e w1 ⟨rfl, hb⟩; replace HV := Lib.hid (HV.out.below hb); clear hb)
      | (go_at_call 19; refine (HR.out _).mono ?_; rintro e w1 ⟨rfl, hb⟩; replace HV := Lib.hid (HV.out.below hb); clear hb)
      | (go_at_call 20; refine (HP.out _ HV.out.gl).mono ?_; rintro e w1 ⟨rfl, hb⟩; replace HV := Lib.hid (HV.out.below hb); clear hb)
      | (go_at_call 21; refine (HG.out _ HV.out.gl).mono ?_; rintro e w1 ⟨rfl, hb⟩; replace HV := Lib.hid (HV.out.below hb); clear hb)
      | (go_at_call 23; refine (HU.out _ HV.out.gl).mono ?_; rintro e w1 ⟨rfl, hb⟩; replace HV := Lib.hid (HV.out.below hb); clear hb)
      | (go_at_call 24; refine (HW.out _).mono ?_; rintro e w1 ⟨rfl, hb⟩; replace HV := Lib.hid (HV.out.below hb); clear hb)
      | fail)
    go_ret
    exact ⟨rfl, hb ▸ HV.out.bel⟩
  · have HQ := Lib.hid (rpack_any p hd)
    rw [hd] at HR HG HP
    clear hd
    go_enter Tryd.func4, Tryd.ntmps4
    generalize hb : w.heap.size = b at *
    go_wp2_with (first
      | (refine wl_box rfl _ _ rfl (cw p) rfl ?_; generalize w.alloc (.cells (cw p).toArray 23) = W at *)
      | (refine wl_ld rfl _ rfl b rfl p HV.out.k1 ?_)
      | (refine wl_eqw rfl _ _ _ rfl _ _ rfl rfl ?_; rw [HE.out])
      | (go_at_call 9; refine (alive_any _ HV.out.gl).mono ?_; rintro e w1 ⟨rfl, hb⟩; replace HV := Lib.hid (HV.out.below hb); clear hb)
      | (go_at_call 19; refine (HR.out _).mono ?_; rintro e w1 ⟨rfl, hb⟩; replace HV := Lib.hid (HV.out.below hb); clear hb)
      | (go_at_call 20; refine (HP.out _ HV.out.gl).mono ?_; rintro e w1 ⟨rfl, hb⟩; replace HV := Lib.hid (HV.out.below hb); clear hb)
      | (go_at_call 21; refine (HG.out _ HV.out.gl).mono ?_; rintro e w1 ⟨rfl, hb⟩; replace HV := Lib.hid (HV.out.below hb); clear hb)
      | (go_at_call 22; refine (HQ.out _).mono ?_; rintro e w1 ⟨rfl, hb⟩; replace HV := Lib.hid (HV.out.below hb); clear hb)
      | (go_at_call 23; refine (HU.out _ HV.out.gl).mono ?_; rintro e w1 ⟨rfl, hb⟩; replace HV := Lib.hid (HV.out.below hb); clear hb)
      | (go_at_call 24; refine (HW.out _).mono ?_; rintro e w1 ⟨rfl, hb⟩; replace HV := Lib.hid (HV.out.below hb); clear hb)
      | fail)
    go_ret
    exact ⟨rfl, hb ▸ HV.out.bel⟩
end Go.Proofs.YtdchaalmjhjejaaDoor.Cs
