/- The walk of UwordBack. -/
import Derived.Test.YtdchaalmjhjejaaDoorYLaw
namespace Go.Proofs.YtdchaalmjhjejaaDoor.Cs
open Go.RowKit Tl Tl.Ia
set_option linter.unusedVariables false
set_option linter.unusedSimpArgs false

set_option maxHeartbeats 3200000 in
set_option maxRecDepth 100000 in
theorem back_walk (p : Nat → Int) (x : Int) (w : World) (hx : (Lit.int .u64 x).wf = true) (hg : Gl w) :
    Calls Tryd.prog 5 #[.agg (cw p).toArray, .int .u64 x] w fun e w' => e = .returned (.bool true) ∧ Below w.heap.size w w' := by
  obtain ⟨x0, x1⟩ := X_of hx
  have HV := Lib.hid (Vd.new w p hg)
  have HU := Lib.hid (unpack_any x x0 x1)
  have HP0 : Hid (∀ W, Gl W → Calls Tryd.prog 20 #[.agg (cw (up x)).toArray] W fun e w' => e = .returned (.tuple #[.int .u64 x, .int .i64 0]) ∧ Below W.heap.size W w') := Lib.hid fun W g => by
    have := pack_any (up x) W g
    rw [gd_up, pn_up x0 x1] at this
    exact this
  have HP := Lib.hid (pack_any p)
  clear hx x0 x1 hg
  cases hd : gd p
  · rw [hd] at HP
    clear hd
    go_enter Tryd.func5, Tryd.ntmps5
    generalize hb : w.heap.size = b at *
    go_wp2_with (first
      | (refine wl_box rfl _ _ rfl (cw p) rfl ?_; generalize w.alloc (.cells (cw p).toArray 23) = W at *)
      | (refine wl_ld rfl _ rfl b rfl p HV.out.k1 ?_)
      | (go_at_call 9; refine (alive_any _ HV.out.gl).mono ?_; rintro e w1 ⟨rfl, hb⟩; replace HV := Lib.hid (HV.out.below hb); clear hb)
      | (go_at_call 23; refine (HU.out _ HV.out.gl).mono ?_; rintro e w1 ⟨rfl, hb⟩; replace HV := Lib.hid (HV.out.below hb); clear hb)
      | (go_at_call 20; with_reducible refine (HP0.out _ HV.out.gl).mono ?_; rintro e w1 ⟨rfl, hb⟩; replace HV := Lib.hid (HV.out.below hb); clear hb)
      | (go_at_call 20; with_reducible refine (HP.out _ HV.out.gl).mono ?_; rintro e w1 ⟨rfl, hb⟩; replace HV := Lib.hid (HV.out.below hb); clear hb)
      | fail)
    go_quiet (fail)
    go_wp2
    go_ret
    exact ⟨rfl, hb ▸ (HV.out.below (drewN_bel _ _)).bel⟩
  · obtain ⟨n0, n1⟩ := pn_bd hd
    have HQ := Lib.hid (unpack_any (pn p) n0 n1)
    have HE := Lib.hid (eqw_of (fun k hk => up_pn hd (k := k) hk))
    rw [hd] at HP
    clear hd n0 n1
    simp only [if_true] at HP
    generalize pn p = n at *
    go_enter Tryd.func5, Tryd.ntmps5
    generalize hb : w.heap.size = b at *
    go_wp2_with (first
      | (refine wl_box rfl _ _ rfl (cw p) rfl ?_; generalize w.alloc (.cells (cw p).toArray 23) = W at *)
      | (refine wl_ld rfl _ rfl b rfl p HV.out.k1 ?_)
      | (go_at_call 9; refine (alive_any _ HV.out.gl).mono ?_; rintro e w1 ⟨rfl, hb⟩; replace HV := Lib.hid (HV.out.below hb); clear hb)
      | (go_at_call 23; refine (HU.out _ HV.out.gl).mono ?_; rintro e w1 ⟨rfl, hb⟩; replace HV := Lib.hid (HV.out.below hb); clear hb)
      | (go_at_call 20; with_reducible refine (HP0.out _ HV.out.gl).mono ?_; rintro e w1 ⟨rfl, hb⟩; replace HV := Lib.hid (HV.out.below hb); clear hb)
      | (go_at_call 20; with_reducible refine (HP.out _ HV.out.gl).mono ?_; rintro e w1 ⟨rfl, hb⟩; replace HV := Lib.hid (HV.out.below hb); clear hb)
      | fail)
    refine wp_region_later (by kernel_rfl) (by kernel_rfl) ?_
    repeat (first
      | (go_big_quiet_want; (first | refine quiet_word _ rfl b (by rfl) p (later_bk HV.out.k1) ?_ | (refine quiet_eqw _ _ _ rfl _ _ rfl rfl ?_; rw [HE.out])); simp only [Act.put, List.setIfInBounds_toArray, List.set_cons_succ, List.set_cons_zero]; go_big_quiet_on)
      | go_big_quiet_step ((go_at_call 23; exact later_of (HQ.out _ (HV.out.gl.below (Later.h _))))))
    refine wpQuiet_nil ?_
    rintro _ ⟨⟨w9, hb9⟩, rfl⟩
    go_wp2
    go_ret
    exact ⟨rfl, hb ▸ (HV.out.below hb9).bel⟩
end Go.Proofs.YtdchaalmjhjejaaDoor.Cs
