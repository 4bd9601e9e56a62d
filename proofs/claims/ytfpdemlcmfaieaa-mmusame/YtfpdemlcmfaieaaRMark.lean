/- Contracts of the document's translation: mark. -/
import Derived.Test.YtfpdemlcmfaieaaRPlc
namespace Go.Proofs.Ytfpdemlcmfaieaa.Cs
open Go.RowKit

theorem num_inj : ∀ l k : List Int, Rm.Byt l → Rm.Byt k → l.length = k.length → Rm.num l = Rm.num k → l = k := by
  intro l
  induction l with
  | nil => intro k _ _ h _; exact (List.eq_nil_of_length_eq_zero h.symm).symm
  | cons x l ih =>
    intro k hl hk h e
    cases k with
    | nil => simp at h
    | cons y k =>
      have hx := hl x List.mem_cons_self
      have hy := hk y List.mem_cons_self
      simp only [Rm.num] at e
      have e1 : x = y := by omega
      have e2 : Rm.num l = Rm.num k := by omega
      rw [e1, ih k (fun z hz => hl z (List.mem_cons_of_mem _ hz)) (fun z hz => hk z (List.mem_cons_of_mem _ hz)) (by simpa using h) e2]
/-- The number that is there, put there. -/
theorem splice_same (xs : List Int) (n : Nat) (hb : Rm.Byt xs) (hf : n + 4 ≤ xs.length) : splice xs n (Rm.low (Rm.val xs n 4) 4) = xs := by
  have hv := Rm.val_bound xs n hb 4 hf
  have e : Rm.low (Rm.val xs n 4) 4 = (xs.drop n).take 4 := by
    refine num_inj _ _ (Rm.low_byt _ _) ((hb.drop n).take 4) (by rw [Rm.low_length]; simp; omega) ?_
    rw [Rm.num_low]
    exact Int.emod_eq_of_lt hv.1 hv.2
  rw [e]
  unfold splice
  rw [show ((xs.drop n).take 4).length = 4 by simp; omega, ← List.drop_drop, List.take_append_drop, List.take_append_drop]
theorem rbit26_as (x : Int) (b : Bool) (hx : U x) (hb : Pt.im x = b) (w : World) :
    Calls Try.prog 54 #[.int .u32 x, .int .i64 26] w fun e w' => e = .returned (.bool b) ∧ w = w' := hb ▸ Pt.rbit26 x hx w

set_option maxRecDepth 100000 in
set_option maxHeartbeats 2000000 in
theorem rmark_any (h rh hr th : Nat) (T : Nat → Prop) (t : Tabs) (pl : Bool) (rows : Rows) (xs : List Int) (va : Int) (w : World) (x0 : Rs w h rh hr th T t pl rows xs) (hv : U va) (hE : t.me ≠ 0) :
    Calls Try.prog 56 #[(Value.pointer (some ⟨h, 0, none⟩)), .int .u32 va] w fun e w' => e = .returned (.tuple #[]) ∧ ∃ T', Rs w' h rh hr th T' t pl (mkRows t rows va) (mkMem t xs rows va) ∧ Tl.Step (Rg T hr) (Rg T' hr) w w' := by
  have h1 := x0.mx.c1
  have H := Lib.hid x0
  have HV := Lib.hid hv
  have HP := Lib.hid (page_U hv)
  have hg := x0.mx.glt
  obtain ⟨v0, v1⟩ := hv
  have HMR : Hid (mkRows t rows va = if Tl.hav rows (va / 512) && !Pt.im (Tl.ent rows (va / 512)) then Tl.putR rows (va / 512) (mkx (Tl.ent rows (va / 512))) else rows) := by show _ = _; rw [mkRows, if_neg hE]
  have HMM : Hid (mkMem t xs rows va = if Tl.hav rows (va / 512) && Pt.im (Tl.ent rows (va / 512)) then xs else if ein t va = true ∧ epl t va + 4 ≤ xs.length then splice xs (epl t va).toNat (Rm.low (mkx (Rm.val xs (epl t va).toNat 4)) 4) else xs) := by show _ = _; rw [mkMem, if_neg hE]
  clear hE
  cases hH : Tl.hav rows (va / 512)
  · have HX := Lib.hid (Tl.ent_out (fun e => by rw [Tl.hav, decide_eq_true e] at hH; cases hH) : Tl.ent rows (va / 512) = 0)
    rw [hH] at HMR HMM
    simp only [Bool.false_and, Bool.false_eq_true, if_false] at HMR HMM
    have HH := Lib.hid hH
    clear hH x0
    go_enter Try.func56, Try.ntmps56
    go_wp2_with fail
    refine (rget_as th T rows (va / 512) 0 false _ H.out.mx.rf H.out.mx.fit.2.1 HX.out HH.out).mono ?_
    rintro e w' ⟨rfl, rfl⟩
    have HMs := Lib.hid H.out
    have HSt : Hid (Tl.Step (Rg T hr) (Rg T hr) w w) := ⟨Tl.Mods.refl _ _, fun _ h => .inl h⟩
    clear h1 H
    obtain ⟨T1, rfl⟩ : ∃ T1, T1 = T := ⟨T, rfl⟩
    obtain ⟨a, ha⟩ : ∃ a, epl t va = a := ⟨_, rfl⟩
    have HA := Lib.hid ha
    have HAU : Hid (U a) := ha ▸ epl_U t va
    have c0 := HMs.out.mx.c0
    rw [ha] at HMM
    clear ha
    cases hI : ein t va
    · have HI := Lib.hid hI
      rw [hI] at HMM
      go_wp2_with fail
      refine (rentry_any h rh th T1 t pl rows va a false _ HMs.out.mx HV.out HA.out HI.out).mono ?_
      rintro e w' ⟨rfl, rfl⟩
      clear hI
      by_cases hF : a + 4 ≤ (xs.length : Int)
      · have HN : Hid (a = a.toNat) := by have := HAU.out.1; show _ = _; omega
        have HF : Hid (a.toNat + 4 ≤ xs.length) := by have := HAU.out.1; show _ ≤ _; omega
        generalize a.toNat = n at HN HF
        clear hF
        go_wp2_with fail
        refine (rget_ok rh hr xs a n _ HMs.out.mem HN.out HF.out).mono ?_
        rintro e w' ⟨rfl, rfl⟩
        go_wp2
        first | go_end0 | (refine bodyPost_ret (results_none rfl _ _ _) rfl ?_)
        exact ⟨rfl, T1, by rw [HMM.out, HMR.out]; exact HMs.out, HSt.out⟩
      · have HF := Lib.hid hF
        clear hF
        go_wp2_with fail
        refine (rget_not rh hr xs a _ HMs.out.mem HAU.out (by have := HF.out; omega)).mono ?_
        rintro e w' ⟨rfl, rfl⟩
        go_wp2
        first | go_end0 | (refine bodyPost_ret (results_none rfl _ _ _) rfl ?_)
        exact ⟨rfl, T1, by rw [HMM.out, HMR.out]; exact HMs.out, HSt.out⟩
    · have HI := Lib.hid hI
      rw [hI] at HMM
      go_wp2_with fail
      refine (rentry_any h rh th T1 t pl rows va a true _ HMs.out.mx HV.out HA.out HI.out).mono ?_
      rintro e w' ⟨rfl, rfl⟩
      clear hI
      by_cases hF : a + 4 ≤ (xs.length : Int)
      · have HN : Hid (a = a.toNat) := by have := HAU.out.1; show _ = _; omega
        have HF : Hid (a.toNat + 4 ≤ xs.length) := by have := HAU.out.1; show _ ≤ _; omega
        rw [if_pos ⟨by trivial, hF⟩] at HMM
        generalize a.toNat = n at HN HF HMM
        have hyU : U (Rm.val xs n 4) := Rm.val_bound xs n HMs.out.mem.byt 4 HF.out
        have HSame := Lib.hid (splice_same xs n HMs.out.mem.byt HF.out)
        obtain ⟨y, hy⟩ : ∃ y, Rm.val xs n 4 = y := ⟨_, rfl⟩
        rw [hy] at HMM hyU HSame
        have HY := Lib.hid hy
        have HYU := Lib.hid hyU
        clear hF hy hyU
        cases hB : Pt.im y
        · have HMK : Hid (mkx y = y + 67108864) := by show _ = _; rw [mkx, hB]; rfl
          have hy2 : y < 4227858432 ∧ 0 ≤ y := by
            have h1 := HYU.out.1
            have h2 := HYU.out.2
            have h3 : Pt.im y = false := hB
            simp only [Pt.im] at h3
            have h4 : ¬ y / 67108864 % 2 = 1 := by simpa using h3
            omega
          rw [HMK.out] at HMM
          obtain ⟨y1, y0⟩ := hy2
          go_wp2_with fail
          refine (rget_four rh hr xs a n y _ HMs.out.mem HN.out HF.out HY.out).mono ?_
          rintro e w' ⟨rfl, rfl⟩
          go_wp2_with fail
          refine (rbit26_as y false HYU.out hB _).mono ?_
          rintro e w' ⟨rfl, rfl⟩
          clear hB
          go_wp2_with fail
          refine (rput_ok rh hr xs a (y + 67108864) n _ HMs.out.mem HN.out ⟨by omega, by omega⟩ HF.out).mono ?_
          rintro e w3 ⟨rfl, hm3, hg3⟩
          have HMs3 := Lib.hid (HMs.out.wrote hm3 hg3)
          clear hm3 hg3
          go_wp2
          first | go_end0 | (refine bodyPost_ret (results_none rfl _ _ _) rfl ?_)
          exact ⟨rfl, T1, by rw [HMM.out, HMR.out]; exact HMs3.out.1, HSt.out.trans HMs3.out.2⟩
        · have HMK : Hid (mkx y = y) := by show _ = _; rw [mkx, hB]; rfl
          rw [HMK.out, HSame.out] at HMM
          go_wp2_with fail
          refine (rget_four rh hr xs a n y _ HMs.out.mem HN.out HF.out HY.out).mono ?_
          rintro e w' ⟨rfl, rfl⟩
          go_wp2_with fail
          refine (rbit26_as y true HYU.out hB _).mono ?_
          rintro e w' ⟨rfl, rfl⟩
          clear hB
          go_wp2
          first | go_end0 | (refine bodyPost_ret (results_none rfl _ _ _) rfl ?_)
          exact ⟨rfl, T1, by rw [HMM.out, HMR.out]; exact HMs.out, HSt.out⟩
      · have HF := Lib.hid hF
        rw [if_neg (fun e => hF e.2)] at HMM
        clear hF
        go_wp2_with fail
        refine (rget_not rh hr xs a _ HMs.out.mem HAU.out (by have := HF.out; omega)).mono ?_
        rintro e w' ⟨rfl, rfl⟩
        go_wp2
        first | go_end0 | (refine bodyPost_ret (results_none rfl _ _ _) rfl ?_)
        exact ⟨rfl, T1, by rw [HMM.out, HMR.out]; exact HMs.out, HSt.out⟩
  · obtain ⟨x, hx⟩ : ∃ x, Tl.ent rows (va / 512) = x := ⟨_, rfl⟩
    have HXU := Lib.hid (hx ▸ ent_U x0.mx.fit (va / 512) : U x)
    rw [hx, hH] at HMR HMM
    simp only [Bool.true_and] at HMR HMM
    have HX := Lib.hid hx
    have HH := Lib.hid hH
    clear hH hx x0
    cases hI : Pt.im x
    · have hx2 : x < 4227858432 ∧ 0 ≤ x := by
        have e1 := HXU.out.1
        have e2 := HXU.out.2
        have e3 : Pt.im x = false := hI
        simp only [Pt.im] at e3
        have e4 : ¬ x / 67108864 % 2 = 1 := by simpa using e3
        omega
      have HMK : Hid (mkx x = x + 67108864) := by show _ = _; rw [mkx, hI]; rfl
      rw [hI] at HMR HMM
      simp only [Bool.false_eq_true, if_false, Bool.not_false, if_true] at HMR HMM
      rw [HMK.out] at HMR
      obtain ⟨x1, x00⟩ := hx2
      go_enter Try.func56, Try.ntmps56
      go_wp2_with fail
      refine (rget_as th T rows (va / 512) x true _ H.out.mx.rf H.out.mx.fit.2.1 HX.out HH.out).mono ?_
      rintro e w' ⟨rfl, rfl⟩
      go_wp2_with fail
      refine (rbit26_as x false HXU.out hI _).mono ?_
      rintro e w' ⟨rfl, rfl⟩
      clear hI
      go_wp2_with fail
      refine (Tl.rput_any th T rows (va / 512) (x + 67108864) _ H.out.mx.rf H.out.mx.fit).mono ?_
      rintro e w2 ⟨rfl, T1, hT, hs⟩
      have HMs := Lib.hid (H.out.turn hT (H.out.mx.fit.put HP.out ⟨by omega, by omega⟩) hs)
      have HSt := Lib.hid (step_rg (r := hr) hs)
      clear hT hs h1
      obtain ⟨a, ha⟩ : ∃ a, epl t va = a := ⟨_, rfl⟩
      have HA := Lib.hid ha
      have HAU : Hid (U a) := ha ▸ epl_U t va
      have c0 := HMs.out.mx.c0
      rw [ha] at HMM
      clear ha
      cases hI : ein t va
      · have HI := Lib.hid hI
        rw [hI] at HMM
        go_wp2_with fail
        refine (rentry_any h rh th T1 t pl (Tl.putR rows (va / 512) (x + 67108864)) va a false _ HMs.out.mx HV.out HA.out HI.out).mono ?_
        rintro e w' ⟨rfl, rfl⟩
        clear hI
        by_cases hF : a + 4 ≤ (xs.length : Int)
        · have HN : Hid (a = a.toNat) := by have := HAU.out.1; show _ = _; omega
          have HF : Hid (a.toNat + 4 ≤ xs.length) := by have := HAU.out.1; show _ ≤ _; omega
          generalize a.toNat = n at HN HF
          clear hF
          go_wp2_with fail
          refine (rget_ok rh hr xs a n _ HMs.out.mem HN.out HF.out).mono ?_
          rintro e w' ⟨rfl, rfl⟩
          go_wp2
          first | go_end0 | (refine bodyPost_ret (results_none rfl _ _ _) rfl ?_)
          exact ⟨rfl, T1, by rw [HMM.out, HMR.out]; exact HMs.out, HSt.out⟩
        · have HF := Lib.hid hF
          clear hF
          go_wp2_with fail
          refine (rget_not rh hr xs a _ HMs.out.mem HAU.out (by have := HF.out; omega)).mono ?_
          rintro e w' ⟨rfl, rfl⟩
          go_wp2
          first | go_end0 | (refine bodyPost_ret (results_none rfl _ _ _) rfl ?_)
          exact ⟨rfl, T1, by rw [HMM.out, HMR.out]; exact HMs.out, HSt.out⟩
      · have HI := Lib.hid hI
        rw [hI] at HMM
        go_wp2_with fail
        refine (rentry_any h rh th T1 t pl (Tl.putR rows (va / 512) (x + 67108864)) va a true _ HMs.out.mx HV.out HA.out HI.out).mono ?_
        rintro e w' ⟨rfl, rfl⟩
        clear hI
        by_cases hF : a + 4 ≤ (xs.length : Int)
        · have HN : Hid (a = a.toNat) := by have := HAU.out.1; show _ = _; omega
          have HF : Hid (a.toNat + 4 ≤ xs.length) := by have := HAU.out.1; show _ ≤ _; omega
          rw [if_pos ⟨by trivial, hF⟩] at HMM
          generalize a.toNat = n at HN HF HMM
          have hyU : U (Rm.val xs n 4) := Rm.val_bound xs n HMs.out.mem.byt 4 HF.out
          have HSame := Lib.hid (splice_same xs n HMs.out.mem.byt HF.out)
          obtain ⟨y, hy⟩ : ∃ y, Rm.val xs n 4 = y := ⟨_, rfl⟩
          rw [hy] at HMM hyU HSame
          have HY := Lib.hid hy
          have HYU := Lib.hid hyU
          clear hF hy hyU
          cases hB : Pt.im y
          · have HMK : Hid (mkx y = y + 67108864) := by show _ = _; rw [mkx, hB]; rfl
            have hy2 : y < 4227858432 ∧ 0 ≤ y := by
              have h1 := HYU.out.1
              have h2 := HYU.out.2
              have h3 : Pt.im y = false := hB
              simp only [Pt.im] at h3
              have h4 : ¬ y / 67108864 % 2 = 1 := by simpa using h3
              omega
            rw [HMK.out] at HMM
            obtain ⟨y1, y0⟩ := hy2
            go_wp2_with fail
            refine (rget_four rh hr xs a n y _ HMs.out.mem HN.out HF.out HY.out).mono ?_
            rintro e w' ⟨rfl, rfl⟩
            go_wp2_with fail
            refine (rbit26_as y false HYU.out hB _).mono ?_
            rintro e w' ⟨rfl, rfl⟩
            clear hB
            go_wp2_with fail
            refine (rput_ok rh hr xs a (y + 67108864) n _ HMs.out.mem HN.out ⟨by omega, by omega⟩ HF.out).mono ?_
            rintro e w3 ⟨rfl, hm3, hg3⟩
            have HMs3 := Lib.hid (HMs.out.wrote hm3 hg3)
            clear hm3 hg3
            go_wp2
            first | go_end0 | (refine bodyPost_ret (results_none rfl _ _ _) rfl ?_)
            exact ⟨rfl, T1, by rw [HMM.out, HMR.out]; exact HMs3.out.1, HSt.out.trans HMs3.out.2⟩
          · have HMK : Hid (mkx y = y) := by show _ = _; rw [mkx, hB]; rfl
            rw [HMK.out, HSame.out] at HMM
            go_wp2_with fail
            refine (rget_four rh hr xs a n y _ HMs.out.mem HN.out HF.out HY.out).mono ?_
            rintro e w' ⟨rfl, rfl⟩
            go_wp2_with fail
            refine (rbit26_as y true HYU.out hB _).mono ?_
            rintro e w' ⟨rfl, rfl⟩
            clear hB
            go_wp2
            first | go_end0 | (refine bodyPost_ret (results_none rfl _ _ _) rfl ?_)
            exact ⟨rfl, T1, by rw [HMM.out, HMR.out]; exact HMs.out, HSt.out⟩
        · have HF := Lib.hid hF
          rw [if_neg (fun e => hF e.2)] at HMM
          clear hF
          go_wp2_with fail
          refine (rget_not rh hr xs a _ HMs.out.mem HAU.out (by have := HF.out; omega)).mono ?_
          rintro e w' ⟨rfl, rfl⟩
          go_wp2
          first | go_end0 | (refine bodyPost_ret (results_none rfl _ _ _) rfl ?_)
          exact ⟨rfl, T1, by rw [HMM.out, HMR.out]; exact HMs.out, HSt.out⟩
    · rw [hI] at HMR HMM
      simp only [Bool.false_eq_true, if_false, Bool.not_true, if_true] at HMR HMM
      go_enter Try.func56, Try.ntmps56
      go_wp2_with fail
      refine (rget_as th T rows (va / 512) x true _ H.out.mx.rf H.out.mx.fit.2.1 HX.out HH.out).mono ?_
      rintro e w' ⟨rfl, rfl⟩
      go_wp2_with fail
      refine (rbit26_as x true HXU.out hI _).mono ?_
      rintro e w' ⟨rfl, rfl⟩
      clear hI
      go_wp2
      first | go_end0 | (refine bodyPost_ret (results_none rfl _ _ _) rfl ?_)
      exact ⟨rfl, T, by rw [HMR.out, HMM.out]; exact H.out, ⟨Tl.Mods.refl _ _, fun _ h => .inl h⟩⟩

end Go.Proofs.Ytfpdemlcmfaieaa.Cs
