/- Contracts of the document's translation: Store. -/
import Derived.Test.YtfpdemlcmfaieaaRSt
namespace Go.Proofs.Ytfpdemlcmfaieaa.Cs
open Go.RowKit

/-- The state of Store's loops. -/
structure Lm (w : World) (h rh hr th : Nat) (T0 T : Nat → Prop) (t : Tabs) (pl : Bool) (v : Value) (ps : List Int) (A : Option Addr) (c : Nat) (ys : List Int) (xs : List Int) (rows : Rows) (W : World) : Prop where
  list : Tl.R1 W v ps
  ap : Tl.Apart (Rg T hr) (Tl.Bl v)
  sl : Sl W (Rg T hr) A c ys
  rs : Rs W h rh hr th T t pl rows xs
  st : Tl.Step T0 (Rg T hr) w W
  ft : Ft W w.heap.size
section
variable {w W W' : World} {h rh hr th : Nat} {T0 T T' : Nat → Prop} {t : Tabs} {pl : Bool} {v : Value} {ps : List Int} {A : Option Addr} {c : Nat} {ys xs xs' : List Int} {rows rows' : Rows}
theorem ft_rs {F : Nat} (f : Ft W F) (x : Rs W h rh hr th T t pl rows xs) : ¬ Rg T hr F := fun e => by
  rcases e with e | e
  · exact rf_not x.mx.rf f.typ (by decide) (by decide) e
  · rw [e] at f; exact absurd (f.typ.ne x.mem.typ.2) (by decide)
theorem Lm.below (l : Lm w h rh hr th T0 T t pl v ps A c ys xs rows W) (b : Below W.heap.size W W') : Lm w h rh hr th T0 T t pl v ps A c ys xs rows W' :=
  ⟨Tl.own_below l.list b, l.ap, l.sl.step (Tl.Step.of_below b), l.rs.below b, l.st.trans (Tl.Step.of_below b), l.ft.below b⟩
theorem Lm.step (l : Lm w h rh hr th T0 T t pl v ps A c ys xs rows W) (x : Rs W' h rh hr th T' t pl rows' xs') (s : Tl.Step (Rg T hr) (Rg T' hr) W W') : Lm w h rh hr th T0 T' t pl v ps A c ys xs' rows' W' :=
  ⟨Tl.own_mods l.list s.mods l.ap, s.apart l.ap (Tl.own_lo l.list), l.sl.step s, x, l.st.trans s, l.ft.mods s.mods (ft_rs l.ft l.rs)⟩
end
theorem rs_set {W : World} {h rh hr th F : Nat} {T : Nat → Prop} {t : Tabs} {pl : Bool} {rows : Rows} {xs : List Int} {a b c : Value} (x : Rs W h rh hr th T t pl rows xs) (f : Ft W F) :
    Rs (((W.setCell ⟨F, 0, none⟩ a).setCell ⟨F, 1, none⟩ b).setCell ⟨F, 2, none⟩ c) h rh hr th T t pl rows xs :=
  ⟨x.mx.keep (set3 (by rintro rfl; exact absurd (x.mx.typ.ne f.typ) (by decide))) (fun k hk => set3 (by rintro rfl; exact rf_not x.mx.rf f.typ (by decide) (by decide) hk)), x.mem.keep (set3 (by rintro rfl; exact absurd (x.mem.typ.1.ne f.typ) (by decide))) (set3 (by rintro rfl; exact absurd (x.mem.typ.2.ne f.typ) (by decide)))⟩

set_option maxRecDepth 100000 in
set_option maxHeartbeats 1000000 in
theorem rstore_bad (h rh hr th : Nat) (T : Nat → Prop) (t : Tabs) (pl : Bool) (rows rows' : Rows) (xs : List Int) (va k va' i : Int) (u : Bool) (A : Option Addr) (m c : Nat) (w : World) (x0 : Rs w h rh hr th T t pl rows xs) (hv : U va) (hn' : m ≤ 100000) (hW : walk t xs u true (true && !pl) rows [] va m = (.bad k va' i, rows')) :
    Calls Try.prog 42 #[(Value.pointer (some ⟨h, 0, none⟩)), .int .u32 va, .bool u, .slice A m c] w fun e w' => e = .returned ((Value.agg #[Value.int .i64 k, Value.int .u32 va', Value.int .u32 i])) ∧ ∃ T', Rs w' h rh hr th T' t pl rows' xs ∧ Tl.Step T T' w w' := by
  have H := Lib.hid x0
  have HV := Lib.hid hv
  have HF := Lib.hid (new_flt w)
  have HW := Lib.hid hW
  have hk := (walk_bad_kd _ _ _ _ _ _ _ _ hv hW).1.1
  have hk' : (k != 0) = true := by simp; omega
  have HFit : Hid (Tl.Fit rows') := by
    have := walk_fit x0.mem.byt m rows [] va hv x0.mx.fit (t := t) (u := u) (wr := true) (keep := (true && !pl))
    rw [hW] at this
    exact this
  clear x0 hv hW hk
  go_enter Try.func42, Try.ntmps42
  go_wp2_with fail
  refine (places_any h rh hr th T t pl rows rows' xs va m u true _ _ (H.out.below (by go_grown)) HV.out (by omega) (by rw [Int.toNat_natCast]; exact HW.out)).mono ?_
  rintro e w1 ⟨T1, hE, hT, hs⟩
  have hF1 := Ft.mods HF.out hs.mods (rf_not (H.out.mx.rf.below (by go_grown)) (Ft.typ HF.out) (by decide) (by decide))
  obtain ⟨c0, c1, c2, f0, f1, f2⟩ := hF1.cells
  have hz := hF1.lt
  have HRs := Lib.hid ((H.out.below (by go_grown)).turn hT HFit.out hs)
  have HS := Lib.hid ((Tl.Step.of_below (S := T) (w := w) (by go_grown)).trans hs)
  have HFt := Lib.hid hF1
  clear hT hs hF1
  obtain rfl := hE
  go_wp2
  refine bodyPost_ret (v := (Value.agg #[Value.int .i64 k, Value.int .u32 va', Value.int .u32 i])) (by simp [results, Try.results42, go_sem, c0, c1, c2, hz]) rfl ⟨rfl, T1, (rs_set HRs.out HFt.out).below (by go_grown), ?_⟩
  exact Tl.Step.trans (S' := T1) ⟨((HS.out.mods.set _ (.inr (Nat.le_refl _))).set _ (.inr (Nat.le_refl _))).set _ (.inr (Nat.le_refl _)), HS.out.grow⟩ (Tl.Step.of_below (by go_grown))

set_option maxRecDepth 100000 in
set_option maxHeartbeats 4000000 in
theorem rstore_ok (h rh hr th : Nat) (T : Nat → Prop) (t : Tabs) (pl : Bool) (rows rows' : Rows) (xs ys : List Int) (l : List Run) (va : Int) (u : Bool) (A : Option Addr) (m c : Nat) (w : World) (x0 : Rs w h rh hr th T t pl rows xs) (hv : U va) (hm : ys.length = m) (hn' : m ≤ 100000) (hS : Sl w (Rg T hr) A c ys) (hW : walk t xs u true (true && !pl) rows [] va m = (.ok l, rows')) :
    Calls Try.prog 42 #[(Value.pointer (some ⟨h, 0, none⟩)), .int .u32 va, .bool u, .slice A m c] w fun e w' => e = .returned ((Value.agg #[Value.int .i64 0, Value.int .u32 0, Value.int .u32 0])) ∧ ∃ T', Rs w' h rh hr th T' t pl (mks t l (xs, rows')).2 (pts l (mks t l (xs, rows')).1 ys) ∧ Tl.Step (Rg T hr) (Rg T' hr) w w' := by
  have H := Lib.hid x0
  have HV := Lib.hid hv
  have HF := Lib.hid (new_flt w)
  have HW := Lib.hid hW
  have HSl := Lib.hid hS
  have HM := Lib.hid hm
  have HG := Lib.hid (walk_good hv hW)
  have hsum := walk_sum m rows [] va hW
  have HFl : Hid ((flat l).length = m) := by show _ = _; rw [flat_length]; simpa using hsum
  have HIn := Lib.hid (flat_in xs.length l (walk_good hv hW))
  obtain ⟨o, ho⟩ : ∃ o, mks t l (xs, rows') = o := ⟨_, rfl⟩
  have HB : Hid (bms t va 0 m (xs, rows') = o) := (bms_walk hv hW _).trans ho
  have HOl : Hid (o.1.length = xs.length) := by show _ = _; rw [← ho]; exact mks_length t l (xs, rows')
  have HP : Hid (bps o.1 (flat l) ys = pts l o.1 ys) := bps_flat l o.1 ys xs.length HOl.out HG.out (by rw [hm]; simpa using hsum)
  rw [ho]
  obtain ⟨o', ho'⟩ : ∃ o', pts l o.1 ys = o' := ⟨_, rfl⟩
  rw [ho'] at HP ⊢
  have HFit : Hid (Tl.Fit rows') := by
    have := walk_fit x0.mem.byt m rows [] va hv x0.mx.fit (t := t) (u := u) (wr := true) (keep := (true && !pl))
    rw [hW] at this
    exact this
  have HMe0 : Hid (t.me = t.me) := rfl
  clear x0 hv hW hS hm ho ho' hsum
  go_enter Try.func42, Try.ntmps42
  go_wp2_with fail
  refine (places_any h rh hr th T t pl rows rows' xs va m u true _ _ (H.out.below (by go_grown)) HV.out (by omega) (by rw [Int.toNat_natCast]; exact HW.out)).mono ?_
  rintro e w1 ⟨T1, hE, hT, hs⟩
  have hF1 := Ft.mods HF.out hs.mods (rf_not (H.out.mx.rf.below (by go_grown)) (Ft.typ HF.out) (by decide) (by decide))
  obtain ⟨v, rfl, hr1, _, hap⟩ := hE
  obtain ⟨B, cp, rfl⟩ := R1.shape hr1
  have HL : Hid (Lm w h rh hr th (Rg T hr) T1 t pl (.slice B (flat l).length cp) (flat l) A c ys xs rows' (w1.alloc (.cells #[.int .i64 0, .int .u32 0, .int .u32 0] 50))) := by
    have st : Tl.Step (Rg T hr) (Rg T1 hr) w w1 := (Tl.Step.of_below (w := w) (by go_grown)).trans (step_rg hs)
    have hrs := (H.out.below (by go_grown)).turn hT HFit.out hs
    refine Lm.below (W := w1) ⟨hr1, fun k e1 e2 => ?_, HSl.out.step st, hrs, st, hF1⟩ (by go_grown)
    rcases e1 with e1 | rfl
    · exact hap k e1 e2
    · exact absurd ((own_typ hr1 e2).ne hrs.mem.typ.2) (by decide)
  rw [HFl.out] at HL ⊢
  have hv01 := HV.out
  obtain ⟨v0, v1⟩ := hv01
  clear hT hs hF1 hr1 hap
  go_wp2
  go_loopw [29] (fun i W => ∃ k : Nat, k ≤ m ∧ i = .int .i64 k ∧ ∃ T1 xs1 rows1, o = bms t va k (m - k) (xs1, rows1) ∧ Lm w h rh hr th (Rg T hr) T1 t pl (.slice B m cp) (flat l) A c ys xs1 rows1 W) (fun i _ => m - (intOf i).toNat)
  case atStart => exact ⟨0, Nat.zero_le _, rfl, T1, xs, rows', HB.out.symm, HL.out⟩
  case round =>
    clear HL
    obtain ⟨k, hk, rfl, T1, xs1, rows1, hEq, hL⟩ := hrel
    have HEq := Lib.hid hEq
    have HL := Lib.hid hL
    by_cases hlt : k < m
    · have c6 := hL.rs.mx.c6
      clear hEq hL
      by_cases hE : t.me = 0
      · have hst := bst_off hE va k (xs1, rows1)
        rw [hE] at c6
        clear hE
        have HN : Hid (bms t va k (m - k) (xs1, rows1) = bms t va (k + 1) (m - (k + 1)) (xs1, rows1)) := by
          show _ = _
          rw [show m - k = (m - (k + 1)) + 1 by omega, bms, hst]
        clear hst
        go_wp2
        go_roundw
        case rel => exact ⟨k + 1, by omega, by go_num, T1, xs1, rows1, HEq.out.trans HN.out, HL.out⟩
        case measure => simp [intOf]; omega
      · have HMe := Lib.hid hE
        have hE' : (t.me != 0) = true := by simpa using hE
        generalize t.me = me at c6 hE'
        clear hE
        by_cases h0 : k = 0
        · subst h0
          have hst : bst t va 0 (xs1, rows1) = mk1 t va (xs1, rows1) := by rw [bst, if_pos (.inl rfl), show (va + ((0 : Nat) : Int)) % 4294967296 = va by omega]
          have e00 : ((0 : Nat) : Int) = 0 := rfl
          rw [e00]
          have HN : Hid (bms t va 0 (m - 0) (xs1, rows1) = bms t va (0 + 1) (m - (0 + 1)) (mkMem t xs1 rows1 (va), mkRows t rows1 (va))) := by
            show _ = _
            rw [show m - 0 = (m - (0 + 1)) + 1 by omega, bms, hst]; rfl
          have HUk : Hid (U (va)) := HV.out
          clear hst
          go_wp2_with fail
          refine (rmark_any h rh hr th T1 t pl rows1 xs1 _ _ HL.out.rs HUk.out HMe.out).mono ?_
          rintro e w3 ⟨rfl, T3, hR3, hs3⟩
          have HL3 := Lib.hid (HL.out.step hR3 hs3)
          clear hR3 hs3
          go_wp2
          go_roundw
          case rel => exact ⟨0 + 1, by omega, by go_num, T3, _, _, HEq.out.trans HN.out, HL3.out⟩
          case measure => simp [intOf]; omega
        · have h0' : ((k : Int) == 0) = false := by simp; omega
          by_cases hp : (va + (k : Int)) % 512 = 0
          · have hst : bst t va k (xs1, rows1) = mk1 t ((va + k) % 4294967296) (xs1, rows1) := by rw [bst, if_pos (.inr hp)]
            have hp' : (va + (k : Int)) % 4294967296 % 512 = 0 := by omega
            clear hp
            have HN : Hid (bms t va k (m - k) (xs1, rows1) = bms t va (k + 1) (m - (k + 1)) (mkMem t xs1 rows1 ((va + k) % 4294967296), mkRows t rows1 ((va + k) % 4294967296))) := by
              show _ = _
              rw [show m - k = (m - (k + 1)) + 1 by omega, bms, hst]; rfl
            have HUk : Hid (U ((va + k) % 4294967296)) := ⟨by omega, by omega⟩
            clear hst
            go_wp2_with fail
            refine (rmark_any h rh hr th T1 t pl rows1 xs1 _ _ HL.out.rs HUk.out HMe.out).mono ?_
            rintro e w3 ⟨rfl, T3, hR3, hs3⟩
            have HL3 := Lib.hid (HL.out.step hR3 hs3)
            clear hR3 hs3
            go_wp2
            go_roundw
            case rel => exact ⟨k + 1, by omega, by go_num, T3, _, _, HEq.out.trans HN.out, HL3.out⟩
            case measure => simp [intOf]; omega
          · have hst : bst t va k (xs1, rows1) = (xs1, rows1) := by rw [bst, if_neg (fun e => e.elim h0 hp)]
            have hp' : ((va + (k : Int)) % 4294967296 % 512 == 0) = false := by simp; omega
            clear hp
            have HN : Hid (bms t va k (m - k) (xs1, rows1) = bms t va (k + 1) (m - (k + 1)) (xs1, rows1)) := by
              show _ = _
              rw [show m - k = (m - (k + 1)) + 1 by omega, bms, hst]
            clear hst
            go_wp2
            go_roundw
            case rel => exact ⟨k + 1, by omega, by go_num, T1, xs1, rows1, HEq.out.trans HN.out, HL.out⟩
            case measure => simp [intOf]; omega
    · obtain rfl : k = m := by omega
      have HE : Hid (o = (xs1, rows1)) := by
        show _ = _
        rw [hEq, Nat.sub_self]; rfl
      clear hEq hL
      have HR : Hid (rows1 = o.2) := by show _ = _; rw [HE.out]
      have HX0 : Hid (bps xs1 (flat l) ys = o') := by show _ = _; rw [← HP.out, HE.out]
      have HXl : Hid (xs1.length = xs.length) := by have := HOl.out; rw [HE.out] at this; exact this
      go_wp2
      go_loopw [59] (fun i W => ∃ j : Nat, j ≤ k ∧ i = .int .i64 j ∧ ∃ xs2, xs2.length = xs.length ∧ bps xs2 ((flat l).drop j) (ys.drop j) = o' ∧ Lm w h rh hr th (Rg T hr) T1 t pl (.slice B k cp) (flat l) A c ys xs2 rows1 W) (fun i _ => k - (intOf i).toNat)
      case atStart => exact ⟨0, Nat.zero_le _, rfl, xs1, HXl.out, HX0.out, HL.out⟩
      case round =>
        clear HL HX0
        obtain ⟨j, hj, rfl, xs2, hl2, hbp, hL⟩ := hrel
        have HBp := Lib.hid hbp
        have HL := Lib.hid hL
        have HL2 := Lib.hid hl2
        by_cases hlt : j < k
        · obtain ⟨b, cap, e, hb, x1⟩ := R1.at_ hL.list (k := j) (by rw [HFl.out]; exact hlt)
          have e1 : B = some ⟨b, 0, none⟩ := by injection e
          subst e1
          have hj2 : j < (flat l).length := by rw [HFl.out]; exact hlt
          have hpm : (flat l).getD j 0 ∈ flat l := by
            simp only [List.getD, List.getElem?_eq_getElem hj2, Option.getD_some]
            exact List.getElem_mem _
          obtain ⟨q0, q1⟩ := HIn.out _ hpm
          obtain ⟨p, hp⟩ : ∃ p : Nat, (flat l).getD j 0 = p := ⟨((flat l).getD j 0).toNat, by omega⟩
          rw [hp] at x1 q0 q1
          obtain ⟨ad, rfl, hal, hac⟩ := hL.sl.src (by rw [HM.out]; omega)
          have hj3 : j < ys.length := by rw [HM.out]; exact hlt
          have hy := hac j _ (Rm.cel_get ys j hj3)
          have hyb := hL.sl.byt.at_ j
          have hxl := hL.rs.mem.len
          have hcB := hL.rs.mem.byte (i := p) (by omega)
          have hfB := hL.rs.mem.free p
          have hc0 := hL.rs.mx.c0
          have hcS := hL.rs.mem.cell
          rw [hl2] at hcS hxl
          have hset := hL.rs.mem.set p (ys.getD j 0) hyb
          have HNx : Hid (bps (xs2.set p (ys.getD j 0)) ((flat l).drop (j + 1)) (ys.drop (j + 1)) = o') := by
            have e5 := hbp
            rw [List.drop_eq_getElem_cons hj2, List.drop_eq_getElem_cons hj3] at e5
            have e6 : (flat l)[j] = (p : Int) := by rw [← hp]; simp [List.getD, hj2]
            have e7 : ys[j] = ys.getD j 0 := by simp [List.getD, hj3]
            rw [e6, e7, bps] at e5
            exact e5
          have HRs := Lib.hid (hL.rs.wrote hset ((Tl.Mods.refl _ _).set _ (.inl rfl)))
          generalize ys.getD j 0 = y at *
          generalize xs2.getD p 0 = z at hcB
          generalize xs.length = xn at *
          clear hbp hL hl2 hac e hpm hset hp
          go_wp2
          go_region
          go_wp2
          go_roundw
          case rel => exact ⟨j + 1, by omega, by go_num, xs2.set p y, by rw [List.length_set]; exact HL2.out, HNx.out, (HL.out.step HRs.out.1 HRs.out.2).below (by go_grown)⟩
          case measure => simp [intOf]; omega
        · obtain rfl : j = k := by omega
          have HE2 : Hid (xs2 = o') := by
            show _ = _
            rw [← hbp, List.drop_of_length_le (by rw [HFl.out]; exact Nat.le_refl _)]; simp [bps]
          obtain ⟨c0, c1, c2, f0, f1, f2⟩ := hL.ft.cells
          clear hbp hL hl2
          go_wp2
          refine bodyPost_ret (v := (Value.agg #[Value.int .i64 0, Value.int .u32 0, Value.int .u32 0])) (by simp [results, Try.results42, go_sem, c0, c1, c2]) rfl ⟨rfl, T1, ?_, ⟨((HL.out.st.mods.set _ (.inr (Nat.le_refl _))).set _ (.inr (Nat.le_refl _))).set _ (.inr (Nat.le_refl _)), HL.out.st.grow⟩⟩
          rw [← HE2.out, ← HR.out]
          exact rs_set HL.out.rs HL.out.ft

end Go.Proofs.Ytfpdemlcmfaieaa.Cs
