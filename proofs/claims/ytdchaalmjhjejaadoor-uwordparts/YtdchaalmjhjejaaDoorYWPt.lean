/- The walk of UwordParts. -/
import Derived.Test.YtdchaalmjhjejaaDoorYWs
namespace Go.Proofs.YtdchaalmjhjejaaDoor.Cs
open Go.RowKit Go.ChangeShapes Go.WideShapes Tl Tl.Ia
set_option linter.unusedVariables false
set_option linter.unusedSimpArgs false

abbrev PkC (p : Nat → Int) (n e : Int) : Prop := ∀ W, Gl W → Calls Tryd.prog 20 #[.agg (cw p).toArray] W fun r w' => r = .returned (.tuple #[.int .u64 n, .int .i64 e]) ∧ Below W.heap.size W w'
theorem pkC_of (p : Nat → Int) : PkC p (if gd p then pn p else 0) (if gd p then 0 else 1) := fun W g => pack_any p W g

set_option maxHeartbeats 6400000 in
set_option maxRecDepth 100000 in
theorem parts_not (v q : Nat → Int) (l : List UInt8) (x n1 e1 n2 e2 e3 : Int) (w : World) (hg : Gl w) (h1 : PkC v n1 e1) (h2 : PkC q n2 e2) (hs : StC q l x q e3) (h3 : ¬ e3 = 0) (he : ¬ e1 = 0 ∨ e1 = 0 ∧ ¬ e2 = 0 ∨ e1 = 0 ∧ e2 = 0 ∧ ((n1 == n2) = eqw v q)) :
    Calls Tryd.prog 6 #[.agg (cw v).toArray, .agg (cw q).toArray, .string (sb l), .int .i64 x] w fun e w' => e = .returned (.bool true) ∧ Below w.heap.size w w' := by
  have HV := Lib.hid (Ws.box w v hg)
  have HA := Lib.hid alive_any
  have P1 := Lib.hid h1
  have P2 := Lib.hid h2
  have C := Lib.hid hs
  have HS := Lib.hid (eqw_self q)
  obtain ⟨E, hE⟩ : ∃ E, eqw v q = E := ⟨_, rfl⟩
  rw [hE] at he
  have HE := Lib.hid hE
  clear hg h1 h2 hs hE
  rcases he with he | ⟨rfl, he⟩ | ⟨rfl, rfl, he⟩
  all_goals (try cases E)
  all_goals
    go_enter Tryd.func6, Tryd.ntmps6
    go_wp2_with (first
      | (refine wl_box rfl _ _ rfl (cw v) rfl ?_; generalize w.alloc (.cells (cw v).toArray 23) = W at *)
      | (refine wl_box rfl _ _ rfl (cw q) rfl ?_; replace HV := Lib.hid (HV.out.add q (al1 W (.cells (cw q).toArray 23)) W.heap.size (Bk.new W _ _)); generalize W.alloc (.cells (cw q).toArray 23) = W0 at *)
      | (go_at_call 9; with_reducible refine (HA.out _ HV.out.gl).mono ?_; rintro e w1 ⟨rfl, hb⟩; replace HV := Lib.hid (HV.out.below hb); clear hb)
      | (refine wl_ld rfl _ rfl w.heap.size rfl v (HV.out.at_ _ _ (by simp)) ?_)
      | (refine wl_ld rfl _ rfl W.heap.size rfl q (HV.out.at_ _ _ (by simp)) ?_)
      | (go_at_call 20; with_reducible refine (P1.out _ HV.out.gl).mono ?_; rintro e w2 ⟨rfl, hb⟩; replace HV := Lib.hid (HV.out.below hb); clear hb)
      | (go_at_call 20; with_reducible refine (P2.out _ HV.out.gl).mono ?_; rintro e w3 ⟨rfl, hb⟩; replace HV := Lib.hid (HV.out.below hb); clear hb)
      | (with_reducible refine wl_eqw rfl _ _ _ rfl _ _ rfl rfl ?_; rw [HE.out])
      | (go_at_call 15; with_reducible refine (C.out _ HV.out.gl).mono ?_; rintro e w4 ⟨rfl, hb⟩; replace HV := Lib.hid (HV.out.below hb); clear hb)
      | (refine wpList_store_mid rfl 23 _ _ rfl w4.heap.size 0 (cw q).toArray rfl rfl (new_there w4 _) wd_size (cw_all _) ?_; obtain ⟨hk, hb⟩ := new_word w4 q; generalize (w4.alloc (.cells #[Value.int IntKind.i64 0, Value.int IntKind.i64 0, Value.int IntKind.i64 0, Value.int IntKind.i64 0, Value.int IntKind.i64 0, Value.int IntKind.i64 0, Value.int IntKind.i64 0, Value.int IntKind.i64 0, Value.int IntKind.i64 0, Value.int IntKind.i64 0, Value.int IntKind.i64 0, Value.int IntKind.i64 0] 23)).setCells w4.heap.size 0 (cw q) = w5 at *; replace HV := Lib.hid (HV.out.add q hb w4.heap.size hk); clear hb hk)
      | (refine wl_ld rfl _ rfl w4.heap.size rfl q (HV.out.at_ _ _ (by simp)) ?_)
      | (with_reducible refine wl_eqw rfl _ _ _ rfl _ _ rfl rfl ?_; rw [HS.out])
      | fail)
    go_ret
    exact ⟨rfl, HV.out.bel⟩

/-- the words and the names, while these are gone over -/
structure Pd (w : World) (c b r : Nat) (q u : Nat → Int) (W : World) : Prop where
  k1 : Bk W c 23 (cw q)
  k2 : Bk W b 23 (cw u)
  k3 : Bk W r 9 nc
  bel : Below w.heap.size w W
  gl : Gl W
theorem Pd.below {w W W' : World} {c b r : Nat} {q u : Nat → Int} (h : Pd w c b r q u W) (m : Below W.heap.size W W') : Pd w c b r q u W' :=
  ⟨h.k1.below m, h.k2.below m, h.k3.below m, bel_trans h.bel m h.bel.size, h.gl.below m⟩


set_option maxHeartbeats 6400000 in
set_option maxRecDepth 100000 in
theorem parts_ok1 (v q : Nat → Int) (i : Nat) (hi : i < 12) (x n1 e1 n2 e2 : Int) (E : Bool) (w : World) (hg : Gl w) (h1 : PkC v n1 e1) (h2 : PkC q n2 e2) (hs : StC q (nmk i) x (st q i x) 0) (he : ¬ e1 = 0) (hE : eqw v q = E) :
    Calls Tryd.prog 6 #[.agg (cw v).toArray, .agg (cw q).toArray, .string (sb (nmk i)), .int .i64 x] w fun e w' => e = .returned (.bool true) ∧ Below w.heap.size w w' := by
  have HV := Lib.hid (Ws.box w v hg)
  have HA := Lib.hid alive_any
  have P1 := Lib.hid h1
  have P2 := Lib.hid h2
  have C := Lib.hid hs
  have GX := Lib.hid (gtC_of (p := st q i x) (l := nmk i) (x := x) (by rw [gt_at _ (ix_nm i hi), st_same]))
  have GU : Hid (∀ k, k < 12 → k ≠ i → GtC (st q i x) (nmk k) (q k)) := Lib.hid fun k hk hne => gtC_of (by rw [gt_at _ (ix_nm k hk), st_other _ _ hne])
  have GQ : Hid (∀ k, k < 12 → GtC q (nmk k) (q k)) := Lib.hid fun k hk => gtC_of (by rw [gt_at _ (ix_nm k hk)])
  have HNe : Hid (∀ k, k < 12 → k ≠ i → (nmk k == nmk i) = false) := Lib.hid fun k hk hne => by
    have : nmk k ≠ nmk i := fun h => hne (nm_inj hk hi h)
    simpa using this
  obtain ⟨l, hl⟩ : ∃ l, nmk i = l := ⟨_, rfl⟩
  have HL : Hid ((nmk i == l) = true) := by show _ = _; simpa using hl
  generalize hu : st q i x = u at *
  rw [hl] at C GX HNe ⊢
  have HE := Lib.hid hE
  clear hg h1 h2 hs hE hl hu hi
  go_enter Tryd.func6, Tryd.ntmps6
  go_wp2_with (first
      | (refine wl_box rfl _ _ rfl (cw v) rfl ?_; generalize w.alloc (.cells (cw v).toArray 23) = W at *)
      | (refine wl_box rfl _ _ rfl (cw q) rfl ?_; replace HV := Lib.hid (HV.out.add q (al1 W (.cells (cw q).toArray 23)) W.heap.size (Bk.new W _ _)); generalize W.alloc (.cells (cw q).toArray 23) = W0 at *)
      | (go_at_call 9; with_reducible refine (HA.out _ HV.out.gl).mono ?_; rintro e w1 ⟨rfl, hb⟩; replace HV := Lib.hid (HV.out.below hb); clear hb)
      | (refine wl_ld rfl _ rfl w.heap.size rfl v (HV.out.at_ _ _ (by simp)) ?_)
      | (refine wl_ld rfl _ rfl W.heap.size rfl q (HV.out.at_ _ _ (by simp)) ?_)
      | (go_at_call 20; with_reducible refine (P1.out _ HV.out.gl).mono ?_; rintro e w2 ⟨rfl, hb⟩; replace HV := Lib.hid (HV.out.below hb); clear hb)
      | (go_at_call 20; with_reducible refine (P2.out _ HV.out.gl).mono ?_; rintro e w3 ⟨rfl, hb⟩; replace HV := Lib.hid (HV.out.below hb); clear hb)
      | (with_reducible refine wl_eqw rfl _ _ _ rfl _ _ rfl rfl ?_; rw [HE.out])
      | (go_at_call 15; with_reducible refine (C.out _ HV.out.gl).mono ?_; rintro e w4 ⟨rfl, hb⟩; replace HV := Lib.hid (HV.out.below hb); clear hb)
      | (refine wpList_store_mid rfl 23 _ _ rfl w4.heap.size 0 (cw u).toArray rfl rfl (new_there w4 _) wd_size (cw_all _) ?_; obtain ⟨hk, hb⟩ := new_word w4 u; generalize (w4.alloc (.cells #[Value.int IntKind.i64 0, Value.int IntKind.i64 0, Value.int IntKind.i64 0, Value.int IntKind.i64 0, Value.int IntKind.i64 0, Value.int IntKind.i64 0, Value.int IntKind.i64 0, Value.int IntKind.i64 0, Value.int IntKind.i64 0, Value.int IntKind.i64 0, Value.int IntKind.i64 0, Value.int IntKind.i64 0] 23)).setCells w4.heap.size 0 (cw u) = w5 at *; replace HV := Lib.hid (HV.out.add u hb w4.heap.size hk); clear hb hk)
      | (go_at_call 11; refine (names_any _).mono ?_; rintro e w6 ⟨r, rfl, hr, hk, hb⟩; have HD : Hid (Pd w W.heap.size w4.heap.size r q u w6) := Lib.hid ⟨(HV.out.at_ _ _ (by simp)).below hb, (HV.out.at_ _ _ (by simp)).below hb, hk, bel_trans HV.out.bel hb HV.out.bel.size, HV.out.gl.below hb⟩; clear hb hk hr)
      | fail)
  clear HV HA P1 P2 C HE
  generalize W.heap.size = bq at *
  generalize w4.heap.size = bu at *
  go_loopw [58] (fun j W => ∃ k : Nat, k ≤ 12 ∧ j = .int .i64 k ∧ Pd w bq bu r q u W) (fun j _ => 12 - (intOf j).toNat)
  case atStart => exact ⟨0, by omega, rfl, HD.out⟩
  case round =>
    clear HD
    obtain ⟨k, hk, rfl, hD⟩ := hrel
    have HD := Lib.hid hD
    by_cases hlt : k < 12
    · have hk' : (k : Int) < 12 := by omega
      have c := hD.k3.cell k _ (nc_get k hlt)
      by_cases hki : k = i
      · subst hki
        have bn := HL.out
        clear hD hlt
        generalize nmk k = m at *
        go_wp2
        go_quiet (fail)
        go_wp2
        go_roundw
        case rel => exact ⟨k + 1, by omega, by go_num, HD.out.below (drewN_bel _ _)⟩
        case measure => first | (simp [intOf]; done) | (simp [intOf]; omega)
      · have bn := HNe.out k hlt hki
        have G1 := Lib.hid (GU.out k hlt hki)
        have G2 := Lib.hid (GQ.out k hlt)
        clear hD hlt hki
        generalize nmk k = m at *
        generalize q k = y at *
        go_wp2
        refine wp_region_later (by kernel_rfl) (by kernel_rfl) ?_
        repeat (first
          | (go_big_quiet_want; (first | refine quiet_word _ rfl bu (by rfl) u (later_bk HD.out.k2) ?_ | refine quiet_word _ rfl bq (by rfl) q (later_bk HD.out.k1) ?_); simp only [Act.put, List.setIfInBounds_toArray, List.set_cons_succ, List.set_cons_zero]; go_big_quiet_on)
          | go_big_quiet_step (first | (go_at_call 18; with_reducible exact later_of (G1.out _ (HD.out.gl.below (Later.h _)))) | (go_at_call 18; with_reducible exact later_of (G2.out _ (HD.out.gl.below (Later.h _))))))
        refine wpQuiet_nil ?_
        rintro _ ⟨⟨w9, hb9⟩, rfl⟩
        go_wp2
        go_roundw
        case rel => exact ⟨k + 1, by omega, by go_num, HD.out.below hb9⟩
        case measure => first | (simp [intOf]; done) | (simp [intOf]; omega)
    · obtain rfl : k = 12 := by omega
      clear hD
      go_wp2_with (first
        | (refine wl_ld rfl _ rfl bu rfl u HD.out.k2 ?_)
        | (go_at_call 18; with_reducible refine (GX.out _ HD.out.gl).mono ?_; rintro e w9 ⟨rfl, hb⟩; replace HD := Lib.hid (HD.out.below hb); clear hb)
        | fail)
      go_ret
      exact ⟨rfl, HD.out.bel⟩

set_option maxHeartbeats 6400000 in
set_option maxRecDepth 100000 in
theorem parts_ok2 (v q : Nat → Int) (i : Nat) (hi : i < 12) (x n1 n2 e2 : Int) (E : Bool) (w : World) (hg : Gl w) (h1 : PkC v n1 0) (h2 : PkC q n2 e2) (hs : StC q (nmk i) x (st q i x) 0) (he : ¬ e2 = 0) (hE : eqw v q = E) :
    Calls Tryd.prog 6 #[.agg (cw v).toArray, .agg (cw q).toArray, .string (sb (nmk i)), .int .i64 x] w fun e w' => e = .returned (.bool true) ∧ Below w.heap.size w w' := by
  have HV := Lib.hid (Ws.box w v hg)
  have HA := Lib.hid alive_any
  have P1 := Lib.hid h1
  have P2 := Lib.hid h2
  have C := Lib.hid hs
  have GX := Lib.hid (gtC_of (p := st q i x) (l := nmk i) (x := x) (by rw [gt_at _ (ix_nm i hi), st_same]))
  have GU : Hid (∀ k, k < 12 → k ≠ i → GtC (st q i x) (nmk k) (q k)) := Lib.hid fun k hk hne => gtC_of (by rw [gt_at _ (ix_nm k hk), st_other _ _ hne])
  have GQ : Hid (∀ k, k < 12 → GtC q (nmk k) (q k)) := Lib.hid fun k hk => gtC_of (by rw [gt_at _ (ix_nm k hk)])
  have HNe : Hid (∀ k, k < 12 → k ≠ i → (nmk k == nmk i) = false) := Lib.hid fun k hk hne => by
    have : nmk k ≠ nmk i := fun h => hne (nm_inj hk hi h)
    simpa using this
  obtain ⟨l, hl⟩ : ∃ l, nmk i = l := ⟨_, rfl⟩
  have HL : Hid ((nmk i == l) = true) := by show _ = _; simpa using hl
  generalize hu : st q i x = u at *
  rw [hl] at C GX HNe ⊢
  have HE := Lib.hid hE
  clear hg h1 h2 hs hE hl hu hi
  go_enter Tryd.func6, Tryd.ntmps6
  go_wp2_with (first
      | (refine wl_box rfl _ _ rfl (cw v) rfl ?_; generalize w.alloc (.cells (cw v).toArray 23) = W at *)
      | (refine wl_box rfl _ _ rfl (cw q) rfl ?_; replace HV := Lib.hid (HV.out.add q (al1 W (.cells (cw q).toArray 23)) W.heap.size (Bk.new W _ _)); generalize W.alloc (.cells (cw q).toArray 23) = W0 at *)
      | (go_at_call 9; with_reducible refine (HA.out _ HV.out.gl).mono ?_; rintro e w1 ⟨rfl, hb⟩; replace HV := Lib.hid (HV.out.below hb); clear hb)
      | (refine wl_ld rfl _ rfl w.heap.size rfl v (HV.out.at_ _ _ (by simp)) ?_)
      | (refine wl_ld rfl _ rfl W.heap.size rfl q (HV.out.at_ _ _ (by simp)) ?_)
      | (go_at_call 20; with_reducible refine (P1.out _ HV.out.gl).mono ?_; rintro e w2 ⟨rfl, hb⟩; replace HV := Lib.hid (HV.out.below hb); clear hb)
      | (go_at_call 20; with_reducible refine (P2.out _ HV.out.gl).mono ?_; rintro e w3 ⟨rfl, hb⟩; replace HV := Lib.hid (HV.out.below hb); clear hb)
      | (with_reducible refine wl_eqw rfl _ _ _ rfl _ _ rfl rfl ?_; rw [HE.out])
      | (go_at_call 15; with_reducible refine (C.out _ HV.out.gl).mono ?_; rintro e w4 ⟨rfl, hb⟩; replace HV := Lib.hid (HV.out.below hb); clear hb)
      | (refine wpList_store_mid rfl 23 _ _ rfl w4.heap.size 0 (cw u).toArray rfl rfl (new_there w4 _) wd_size (cw_all _) ?_; obtain ⟨hk, hb⟩ := new_word w4 u; generalize (w4.alloc (.cells #[Value.int IntKind.i64 0, Value.int IntKind.i64 0, Value.int IntKind.i64 0, Value.int IntKind.i64 0, Value.int IntKind.i64 0, Value.int IntKind.i64 0, Value.int IntKind.i64 0, Value.int IntKind.i64 0, Value.int IntKind.i64 0, Value.int IntKind.i64 0, Value.int IntKind.i64 0, Value.int IntKind.i64 0] 23)).setCells w4.heap.size 0 (cw u) = w5 at *; replace HV := Lib.hid (HV.out.add u hb w4.heap.size hk); clear hb hk)
      | (go_at_call 11; refine (names_any _).mono ?_; rintro e w6 ⟨r, rfl, hr, hk, hb⟩; have HD : Hid (Pd w W.heap.size w4.heap.size r q u w6) := Lib.hid ⟨(HV.out.at_ _ _ (by simp)).below hb, (HV.out.at_ _ _ (by simp)).below hb, hk, bel_trans HV.out.bel hb HV.out.bel.size, HV.out.gl.below hb⟩; clear hb hk hr)
      | fail)
  clear HV HA P1 P2 C HE
  generalize W.heap.size = bq at *
  generalize w4.heap.size = bu at *
  go_loopw [58] (fun j W => ∃ k : Nat, k ≤ 12 ∧ j = .int .i64 k ∧ Pd w bq bu r q u W) (fun j _ => 12 - (intOf j).toNat)
  case atStart => exact ⟨0, by omega, rfl, HD.out⟩
  case round =>
    clear HD
    obtain ⟨k, hk, rfl, hD⟩ := hrel
    have HD := Lib.hid hD
    by_cases hlt : k < 12
    · have hk' : (k : Int) < 12 := by omega
      have c := hD.k3.cell k _ (nc_get k hlt)
      by_cases hki : k = i
      · subst hki
        have bn := HL.out
        clear hD hlt
        generalize nmk k = m at *
        go_wp2
        go_quiet (fail)
        go_wp2
        go_roundw
        case rel => exact ⟨k + 1, by omega, by go_num, HD.out.below (drewN_bel _ _)⟩
        case measure => first | (simp [intOf]; done) | (simp [intOf]; omega)
      · have bn := HNe.out k hlt hki
        have G1 := Lib.hid (GU.out k hlt hki)
        have G2 := Lib.hid (GQ.out k hlt)
        clear hD hlt hki
        generalize nmk k = m at *
        generalize q k = y at *
        go_wp2
        refine wp_region_later (by kernel_rfl) (by kernel_rfl) ?_
        repeat (first
          | (go_big_quiet_want; (first | refine quiet_word _ rfl bu (by rfl) u (later_bk HD.out.k2) ?_ | refine quiet_word _ rfl bq (by rfl) q (later_bk HD.out.k1) ?_); simp only [Act.put, List.setIfInBounds_toArray, List.set_cons_succ, List.set_cons_zero]; go_big_quiet_on)
          | go_big_quiet_step (first | (go_at_call 18; with_reducible exact later_of (G1.out _ (HD.out.gl.below (Later.h _)))) | (go_at_call 18; with_reducible exact later_of (G2.out _ (HD.out.gl.below (Later.h _))))))
        refine wpQuiet_nil ?_
        rintro _ ⟨⟨w9, hb9⟩, rfl⟩
        go_wp2
        go_roundw
        case rel => exact ⟨k + 1, by omega, by go_num, HD.out.below hb9⟩
        case measure => first | (simp [intOf]; done) | (simp [intOf]; omega)
    · obtain rfl : k = 12 := by omega
      clear hD
      go_wp2_with (first
        | (refine wl_ld rfl _ rfl bu rfl u HD.out.k2 ?_)
        | (go_at_call 18; with_reducible refine (GX.out _ HD.out.gl).mono ?_; rintro e w9 ⟨rfl, hb⟩; replace HD := Lib.hid (HD.out.below hb); clear hb)
        | fail)
      go_ret
      exact ⟨rfl, HD.out.bel⟩

set_option maxHeartbeats 6400000 in
set_option maxRecDepth 100000 in
theorem parts_ok3 (v q : Nat → Int) (i : Nat) (hi : i < 12) (x n1 n2 : Int) (w : World) (hg : Gl w) (h1 : PkC v n1 0) (h2 : PkC q n2 0) (hs : StC q (nmk i) x (st q i x) 0) (he : (n1 == n2) = true) (hE : eqw v q = true) :
    Calls Tryd.prog 6 #[.agg (cw v).toArray, .agg (cw q).toArray, .string (sb (nmk i)), .int .i64 x] w fun e w' => e = .returned (.bool true) ∧ Below w.heap.size w w' := by
  have HV := Lib.hid (Ws.box w v hg)
  have HA := Lib.hid alive_any
  have P1 := Lib.hid h1
  have P2 := Lib.hid h2
  have C := Lib.hid hs
  have GX := Lib.hid (gtC_of (p := st q i x) (l := nmk i) (x := x) (by rw [gt_at _ (ix_nm i hi), st_same]))
  have GU : Hid (∀ k, k < 12 → k ≠ i → GtC (st q i x) (nmk k) (q k)) := Lib.hid fun k hk hne => gtC_of (by rw [gt_at _ (ix_nm k hk), st_other _ _ hne])
  have GQ : Hid (∀ k, k < 12 → GtC q (nmk k) (q k)) := Lib.hid fun k hk => gtC_of (by rw [gt_at _ (ix_nm k hk)])
  have HNe : Hid (∀ k, k < 12 → k ≠ i → (nmk k == nmk i) = false) := Lib.hid fun k hk hne => by
    have : nmk k ≠ nmk i := fun h => hne (nm_inj hk hi h)
    simpa using this
  obtain ⟨l, hl⟩ : ∃ l, nmk i = l := ⟨_, rfl⟩
  have HL : Hid ((nmk i == l) = true) := by show _ = _; simpa using hl
  generalize hu : st q i x = u at *
  rw [hl] at C GX HNe ⊢
  have HE := Lib.hid hE
  clear hg h1 h2 hs hE hl hu hi
  go_enter Tryd.func6, Tryd.ntmps6
  go_wp2_with (first
      | (refine wl_box rfl _ _ rfl (cw v) rfl ?_; generalize w.alloc (.cells (cw v).toArray 23) = W at *)
      | (refine wl_box rfl _ _ rfl (cw q) rfl ?_; replace HV := Lib.hid (HV.out.add q (al1 W (.cells (cw q).toArray 23)) W.heap.size (Bk.new W _ _)); generalize W.alloc (.cells (cw q).toArray 23) = W0 at *)
      | (go_at_call 9; with_reducible refine (HA.out _ HV.out.gl).mono ?_; rintro e w1 ⟨rfl, hb⟩; replace HV := Lib.hid (HV.out.below hb); clear hb)
      | (refine wl_ld rfl _ rfl w.heap.size rfl v (HV.out.at_ _ _ (by simp)) ?_)
      | (refine wl_ld rfl _ rfl W.heap.size rfl q (HV.out.at_ _ _ (by simp)) ?_)
      | (go_at_call 20; with_reducible refine (P1.out _ HV.out.gl).mono ?_; rintro e w2 ⟨rfl, hb⟩; replace HV := Lib.hid (HV.out.below hb); clear hb)
      | (go_at_call 20; with_reducible refine (P2.out _ HV.out.gl).mono ?_; rintro e w3 ⟨rfl, hb⟩; replace HV := Lib.hid (HV.out.below hb); clear hb)
      | (with_reducible refine wl_eqw rfl _ _ _ rfl _ _ rfl rfl ?_; rw [HE.out])
      | (go_at_call 15; with_reducible refine (C.out _ HV.out.gl).mono ?_; rintro e w4 ⟨rfl, hb⟩; replace HV := Lib.hid (HV.out.below hb); clear hb)
      | (refine wpList_store_mid rfl 23 _ _ rfl w4.heap.size 0 (cw u).toArray rfl rfl (new_there w4 _) wd_size (cw_all _) ?_; obtain ⟨hk, hb⟩ := new_word w4 u; generalize (w4.alloc (.cells #[Value.int IntKind.i64 0, Value.int IntKind.i64 0, Value.int IntKind.i64 0, Value.int IntKind.i64 0, Value.int IntKind.i64 0, Value.int IntKind.i64 0, Value.int IntKind.i64 0, Value.int IntKind.i64 0, Value.int IntKind.i64 0, Value.int IntKind.i64 0, Value.int IntKind.i64 0, Value.int IntKind.i64 0] 23)).setCells w4.heap.size 0 (cw u) = w5 at *; replace HV := Lib.hid (HV.out.add u hb w4.heap.size hk); clear hb hk)
      | (go_at_call 11; refine (names_any _).mono ?_; rintro e w6 ⟨r, rfl, hr, hk, hb⟩; have HD : Hid (Pd w W.heap.size w4.heap.size r q u w6) := Lib.hid ⟨(HV.out.at_ _ _ (by simp)).below hb, (HV.out.at_ _ _ (by simp)).below hb, hk, bel_trans HV.out.bel hb HV.out.bel.size, HV.out.gl.below hb⟩; clear hb hk hr)
      | fail)
  clear HV HA P1 P2 C HE
  generalize W.heap.size = bq at *
  generalize w4.heap.size = bu at *
  go_loopw [58] (fun j W => ∃ k : Nat, k ≤ 12 ∧ j = .int .i64 k ∧ Pd w bq bu r q u W) (fun j _ => 12 - (intOf j).toNat)
  case atStart => exact ⟨0, by omega, rfl, HD.out⟩
  case round =>
    clear HD
    obtain ⟨k, hk, rfl, hD⟩ := hrel
    have HD := Lib.hid hD
    by_cases hlt : k < 12
    · have hk' : (k : Int) < 12 := by omega
      have c := hD.k3.cell k _ (nc_get k hlt)
      by_cases hki : k = i
      · subst hki
        have bn := HL.out
        clear hD hlt
        generalize nmk k = m at *
        go_wp2
        go_quiet (fail)
        go_wp2
        go_roundw
        case rel => exact ⟨k + 1, by omega, by go_num, HD.out.below (drewN_bel _ _)⟩
        case measure => first | (simp [intOf]; done) | (simp [intOf]; omega)
      · have bn := HNe.out k hlt hki
        have G1 := Lib.hid (GU.out k hlt hki)
        have G2 := Lib.hid (GQ.out k hlt)
        clear hD hlt hki
        generalize nmk k = m at *
        generalize q k = y at *
        go_wp2
        refine wp_region_later (by kernel_rfl) (by kernel_rfl) ?_
        repeat (first
          | (go_big_quiet_want; (first | refine quiet_word _ rfl bu (by rfl) u (later_bk HD.out.k2) ?_ | refine quiet_word _ rfl bq (by rfl) q (later_bk HD.out.k1) ?_); simp only [Act.put, List.setIfInBounds_toArray, List.set_cons_succ, List.set_cons_zero]; go_big_quiet_on)
          | go_big_quiet_step (first | (go_at_call 18; with_reducible exact later_of (G1.out _ (HD.out.gl.below (Later.h _)))) | (go_at_call 18; with_reducible exact later_of (G2.out _ (HD.out.gl.below (Later.h _))))))
        refine wpQuiet_nil ?_
        rintro _ ⟨⟨w9, hb9⟩, rfl⟩
        go_wp2
        go_roundw
        case rel => exact ⟨k + 1, by omega, by go_num, HD.out.below hb9⟩
        case measure => first | (simp [intOf]; done) | (simp [intOf]; omega)
    · obtain rfl : k = 12 := by omega
      clear hD
      go_wp2_with (first
        | (refine wl_ld rfl _ rfl bu rfl u HD.out.k2 ?_)
        | (go_at_call 18; with_reducible refine (GX.out _ HD.out.gl).mono ?_; rintro e w9 ⟨rfl, hb⟩; replace HD := Lib.hid (HD.out.below hb); clear hb)
        | fail)
      go_ret
      exact ⟨rfl, HD.out.bel⟩

set_option maxHeartbeats 6400000 in
set_option maxRecDepth 100000 in
theorem parts_ok4 (v q : Nat → Int) (i : Nat) (hi : i < 12) (x n1 n2 : Int) (w : World) (hg : Gl w) (h1 : PkC v n1 0) (h2 : PkC q n2 0) (hs : StC q (nmk i) x (st q i x) 0) (he : (n1 == n2) = false) (hE : eqw v q = false) :
    Calls Tryd.prog 6 #[.agg (cw v).toArray, .agg (cw q).toArray, .string (sb (nmk i)), .int .i64 x] w fun e w' => e = .returned (.bool true) ∧ Below w.heap.size w w' := by
  have HV := Lib.hid (Ws.box w v hg)
  have HA := Lib.hid alive_any
  have P1 := Lib.hid h1
  have P2 := Lib.hid h2
  have C := Lib.hid hs
  have GX := Lib.hid (gtC_of (p := st q i x) (l := nmk i) (x := x) (by rw [gt_at _ (ix_nm i hi), st_same]))
  have GU : Hid (∀ k, k < 12 → k ≠ i → GtC (st q i x) (nmk k) (q k)) := Lib.hid fun k hk hne => gtC_of (by rw [gt_at _ (ix_nm k hk), st_other _ _ hne])
  have GQ : Hid (∀ k, k < 12 → GtC q (nmk k) (q k)) := Lib.hid fun k hk => gtC_of (by rw [gt_at _ (ix_nm k hk)])
  have HNe : Hid (∀ k, k < 12 → k ≠ i → (nmk k == nmk i) = false) := Lib.hid fun k hk hne => by
    have : nmk k ≠ nmk i := fun h => hne (nm_inj hk hi h)
    simpa using this
  obtain ⟨l, hl⟩ : ∃ l, nmk i = l := ⟨_, rfl⟩
  have HL : Hid ((nmk i == l) = true) := by show _ = _; simpa using hl
  generalize hu : st q i x = u at *
  rw [hl] at C GX HNe ⊢
  have HE := Lib.hid hE
  clear hg h1 h2 hs hE hl hu hi
  go_enter Tryd.func6, Tryd.ntmps6
  go_wp2_with (first
      | (refine wl_box rfl _ _ rfl (cw v) rfl ?_; generalize w.alloc (.cells (cw v).toArray 23) = W at *)
      | (refine wl_box rfl _ _ rfl (cw q) rfl ?_; replace HV := Lib.hid (HV.out.add q (al1 W (.cells (cw q).toArray 23)) W.heap.size (Bk.new W _ _)); generalize W.alloc (.cells (cw q).toArray 23) = W0 at *)
      | (go_at_call 9; with_reducible refine (HA.out _ HV.out.gl).mono ?_; rintro e w1 ⟨rfl, hb⟩; replace HV := Lib.hid (HV.out.below hb); clear hb)
      | (refine wl_ld rfl _ rfl w.heap.size rfl v (HV.out.at_ _ _ (by simp)) ?_)
      | (refine wl_ld rfl _ rfl W.heap.size rfl q (HV.out.at_ _ _ (by simp)) ?_)
      | (go_at_call 20; with_reducible refine (P1.out _ HV.out.gl).mono ?_; rintro e w2 ⟨rfl, hb⟩; replace HV := Lib.hid (HV.out.below hb); clear hb)
      | (go_at_call 20; with_reducible refine (P2.out _ HV.out.gl).mono ?_; rintro e w3 ⟨rfl, hb⟩; replace HV := Lib.hid (HV.out.below hb); clear hb)
      | (with_reducible refine wl_eqw rfl _ _ _ rfl _ _ rfl rfl ?_; rw [HE.out])
      | (go_at_call 15; with_reducible refine (C.out _ HV.out.gl).mono ?_; rintro e w4 ⟨rfl, hb⟩; replace HV := Lib.hid (HV.out.below hb); clear hb)
      | (refine wpList_store_mid rfl 23 _ _ rfl w4.heap.size 0 (cw u).toArray rfl rfl (new_there w4 _) wd_size (cw_all _) ?_; obtain ⟨hk, hb⟩ := new_word w4 u; generalize (w4.alloc (.cells #[Value.int IntKind.i64 0, Value.int IntKind.i64 0, Value.int IntKind.i64 0, Value.int IntKind.i64 0, Value.int IntKind.i64 0, Value.int IntKind.i64 0, Value.int IntKind.i64 0, Value.int IntKind.i64 0, Value.int IntKind.i64 0, Value.int IntKind.i64 0, Value.int IntKind.i64 0, Value.int IntKind.i64 0] 23)).setCells w4.heap.size 0 (cw u) = w5 at *; replace HV := Lib.hid (HV.out.add u hb w4.heap.size hk); clear hb hk)
      | (go_at_call 11; refine (names_any _).mono ?_; rintro e w6 ⟨r, rfl, hr, hk, hb⟩; have HD : Hid (Pd w W.heap.size w4.heap.size r q u w6) := Lib.hid ⟨(HV.out.at_ _ _ (by simp)).below hb, (HV.out.at_ _ _ (by simp)).below hb, hk, bel_trans HV.out.bel hb HV.out.bel.size, HV.out.gl.below hb⟩; clear hb hk hr)
      | fail)
  clear HV HA P1 P2 C HE
  generalize W.heap.size = bq at *
  generalize w4.heap.size = bu at *
  go_loopw [58] (fun j W => ∃ k : Nat, k ≤ 12 ∧ j = .int .i64 k ∧ Pd w bq bu r q u W) (fun j _ => 12 - (intOf j).toNat)
  case atStart => exact ⟨0, by omega, rfl, HD.out⟩
  case round =>
    clear HD
    obtain ⟨k, hk, rfl, hD⟩ := hrel
    have HD := Lib.hid hD
    by_cases hlt : k < 12
    · have hk' : (k : Int) < 12 := by omega
      have c := hD.k3.cell k _ (nc_get k hlt)
      by_cases hki : k = i
      · subst hki
        have bn := HL.out
        clear hD hlt
        generalize nmk k = m at *
        go_wp2
        go_quiet (fail)
        go_wp2
        go_roundw
        case rel => exact ⟨k + 1, by omega, by go_num, HD.out.below (drewN_bel _ _)⟩
        case measure => first | (simp [intOf]; done) | (simp [intOf]; omega)
      · have bn := HNe.out k hlt hki
        have G1 := Lib.hid (GU.out k hlt hki)
        have G2 := Lib.hid (GQ.out k hlt)
        clear hD hlt hki
        generalize nmk k = m at *
        generalize q k = y at *
        go_wp2
        refine wp_region_later (by kernel_rfl) (by kernel_rfl) ?_
        repeat (first
          | (go_big_quiet_want; (first | refine quiet_word _ rfl bu (by rfl) u (later_bk HD.out.k2) ?_ | refine quiet_word _ rfl bq (by rfl) q (later_bk HD.out.k1) ?_); simp only [Act.put, List.setIfInBounds_toArray, List.set_cons_succ, List.set_cons_zero]; go_big_quiet_on)
          | go_big_quiet_step (first | (go_at_call 18; with_reducible exact later_of (G1.out _ (HD.out.gl.below (Later.h _)))) | (go_at_call 18; with_reducible exact later_of (G2.out _ (HD.out.gl.below (Later.h _))))))
        refine wpQuiet_nil ?_
        rintro _ ⟨⟨w9, hb9⟩, rfl⟩
        go_wp2
        go_roundw
        case rel => exact ⟨k + 1, by omega, by go_num, HD.out.below hb9⟩
        case measure => first | (simp [intOf]; done) | (simp [intOf]; omega)
    · obtain rfl : k = 12 := by omega
      clear hD
      go_wp2_with (first
        | (refine wl_ld rfl _ rfl bu rfl u HD.out.k2 ?_)
        | (go_at_call 18; with_reducible refine (GX.out _ HD.out.gl).mono ?_; rintro e w9 ⟨rfl, hb⟩; replace HD := Lib.hid (HD.out.below hb); clear hb)
        | fail)
      go_ret
      exact ⟨rfl, HD.out.bel⟩

theorem eq_pn {v q : Nat → Int} (hv : gd v = true) (hq : gd q = true) : (pn v == pn q) = eqw v q := by
  rw [Bool.eq_iff_iff, beq_iff_eq, eqw_iff]
  exact ⟨fun h => pn_inj hv hq h, fun h => by
    have e : ∀ k, k ≤ 12 → pk v k = pk q k := fun k => by
      induction k with
      | zero => intro _; rfl
      | succ k ih => intro hk; rw [pk, pk, ih (by omega), h k (by omega)]
    exact e 12 (by omega)⟩

theorem parts_walk (v q : Nat → Int) (s : ByteArray) (x : Int) (w : World) (_ : (Lit.int .i64 x).wf = true) (hg : Gl w) :
    Calls Tryd.prog 6 #[.agg (cw v).toArray, .agg (cw q).toArray, .string s, .int .i64 x] w fun e w' => e = .returned (.bool true) ∧ Below w.heap.size w w' := by
  rw [sb_of s]
  generalize s.data.toList = l
  have P1 := pkC_of v
  have P2 := pkC_of q
  rcases stF_cases q l x with ⟨e, h, hn⟩ | ⟨i, hi, _, rfl, _, h⟩
  · have hn' : ¬ e = 0 := by simpa using hn
    cases hv : gd v
    · rw [hv] at P1
      exact parts_not v q l x _ _ _ _ e w hg P1 P2 (stC_of h) hn' (.inl (by decide))
    · cases hq : gd q
      · rw [hv] at P1; rw [hq] at P2
        exact parts_not v q l x _ _ _ _ e w hg P1 P2 (stC_of h) hn' (.inr (.inl ⟨rfl, by decide⟩))
      · rw [hv] at P1; rw [hq] at P2
        exact parts_not v q l x _ _ _ _ e w hg P1 P2 (stC_of h) hn' (.inr (.inr ⟨rfl, rfl, eq_pn hv hq⟩))
  · cases hv : gd v
    · rw [hv] at P1
      exact parts_ok1 v q i hi x _ _ _ _ _ w hg P1 P2 (stC_of h) (by decide) rfl
    · cases hq : gd q
      · rw [hv] at P1; rw [hq] at P2
        exact parts_ok2 v q i hi x _ _ _ _ w hg P1 P2 (stC_of h) (by decide) rfl
      · have e := eq_pn hv hq
        rw [hv] at P1; rw [hq] at P2
        cases hE : eqw v q
        · exact parts_ok4 v q i hi x _ _ w hg P1 P2 (stC_of h) (by rw [if_pos rfl, if_pos rfl, e, hE]) hE
        · exact parts_ok3 v q i hi x _ _ w hg P1 P2 (stC_of h) (by rw [if_pos rfl, if_pos rfl, e, hE]) hE
end Go.Proofs.YtdchaalmjhjejaaDoor.Cs
