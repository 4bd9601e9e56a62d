/- Contracts of package mmu: mark. -/
import Derived.Test.YtfpdemlcmfaieaaMRun2
namespace Go.Proofs.Ytfpdemlcmfaieaa.Cs
open Go.RowKit

/-- A number with its bit 26 set. -/
def mkx (y : Int) : Int := if Pt.im y then y else y + 67108864
theorem or_mark {y : Int} (h : U y) : bits .or .u32 y 67108864 = mkx y := by
  unfold mkx
  split
  · rename_i hi
    obtain ⟨n, rfl⟩ := Int.eq_ofNat_of_zero_le h.1
    have hn : n < 4294967296 := by have := h.2; omega
    have hb : n / 2 ^ 26 % 2 = 1 := by
      simp only [Pt.im, beq_iff_eq] at hi
      omega
    have e : n ||| 2 ^ 26 = n := by
      apply Nat.eq_of_testBit_eq
      intro i
      rw [Nat.testBit_or, Nat.testBit_two_pow]
      by_cases hi : 26 = i
      · subst hi
        have : n.testBit 26 = true := by rw [Nat.testBit_eq_decide_div_mod_eq, hb]; rfl
        simp [this]
      · simp [hi]
    have := u32_or_nat n (2 ^ 26) hn (by omega)
    rw [e] at this
    exact this
  · rename_i hi
    have := Pt.or_one 26 y (by omega) h (by simp only [Pt.im, beq_iff_eq] at hi; omega)
    exact this
theorem mkx_U {y : Int} (h : U y) : U (mkx y) := by
  obtain ⟨h0, h1⟩ := h
  unfold mkx
  split
  · exact ⟨h0, h1⟩
  · rename_i hi
    simp only [Pt.im, beq_iff_eq] at hi
    exact ⟨by omega, by omega⟩

/-- What a mark leaves: the buffer, the memory. -/
def mkRows (t : Tabs) (rows : Rows) (va : Int) : Rows := if t.me = 0 then rows else if Tl.hav rows (va / 512) && !Pt.im (Tl.ent rows (va / 512)) then Tl.putR rows (va / 512) (mkx (Tl.ent rows (va / 512))) else rows
def mkMem (t : Tabs) (xs : List Int) (rows : Rows) (va : Int) : List Int :=
  if t.me = 0 then xs else if Tl.hav rows (va / 512) && Pt.im (Tl.ent rows (va / 512)) then xs else
  if ein t va = true ∧ epl t va + 4 ≤ xs.length then splice xs (epl t va).toNat (Rm.low (mkx (Rm.val xs (epl t va).toNat 4)) 4) else xs
theorem mkMem_length (t : Tabs) (xs : List Int) (rows : Rows) (va : Int) : (mkMem t xs rows va).length = xs.length := by
  unfold mkMem
  split
  · rfl
  · split
    · rfl
    · split
      · rename_i h
        rw [length_splice _ _ _ (by rw [Rm.low_length]; have := (epl_U t va).1; omega)]
      · rfl

/-- A memory behind tables, and the memory. -/
structure Ms (w : World) (g rg r tg : Nat) (S : Nat → Prop) (t : Tabs) (rows : Rows) (xs : List Int) : Prop where
  mx : Mx w g rg tg S t rows
  mem : Rm.Mem w rg r xs
/-- The blocks that turn. -/
def Rg (S : Nat → Prop) (r : Nat) : Nat → Prop := fun k => S k ∨ k = r
section
variable {w w' w2 : World} {g rg r tg : Nat} {S S' S2 : Nat → Prop} {t : Tabs} {rows rows' : Rows} {xs ys : List Int}
theorem Ms.below (h : Ms w g rg r tg S t rows xs) (b : Below w.heap.size w w') : Ms w' g rg r tg S t rows xs := ⟨h.mx.below b, h.mem.below_ b⟩
theorem step_rg (h : Tl.Step S S' w w') : Tl.Step (Rg S r) (Rg S' r) w w' :=
  ⟨h.mods.mono (fun _ _ e => .inl e), fun k hk => by
    rcases hk with hk | hk
    · rcases h.grow k hk with e | e
      · exact .inl (.inl e)
      · exact .inr e
    · exact .inl (.inr hk)⟩
theorem Ms.turn (h : Ms w g rg r tg S t rows xs) (hb : Tl.Tb w' tg S' rows') (s : Tl.Step S S' w w') : Ms w' g rg r tg S' t rows' xs :=
  ⟨h.mx.turn hb s, mem_tb h.mem h.mx.tb s.mods⟩
/-- The memory alone was written. -/
theorem Ms.wrote (h : Ms w g rg r tg S t rows xs) (hm : Rm.Mem w' rg r ys) (hg : w.grownBy w' (some r)) : Ms w' g rg r tg S t rows ys ∧ Tl.Step (Rg S r) (Rg S r) w w' :=
  ⟨⟨mx_mem h.mem h.mx hg, hm⟩, Tl.Mods.of_grown hg (fun k e => .inr (by injection e with e; exact e.symm)), fun _ h => .inl h⟩
theorem Ms.lo (h : Ms w g rg r tg S t rows xs) : Tl.Lo w.heap.size (Rg S r) := fun k hk => by
  rcases hk with hk | rfl
  · exact h.mx.tb.lo k hk
  · exact h.mem.rlt
end

set_option maxRecDepth 100000 in
set_option maxHeartbeats 2000000 in
theorem mark_any (g rg r tg : Nat) (S : Nat → Prop) (t : Tabs) (rows : Rows) (xs : List Int) (va : Int) (w : World) (h : Ms w g rg r tg S t rows xs) (hv : U va) :
    Calls Try.prog 52 #[(Value.pointer (some ⟨g, 0, none⟩)), .int .u32 va] w fun e w' => e = .returned (.tuple #[]) ∧ ∃ S', Ms w' g rg r tg S' t (mkRows t rows va) (mkMem t xs rows va) ∧ Tl.Step (Rg S r) (Rg S' r) w w' := by
  have h5 := h.mx.c5
  have h6 := h.mx.c6
  have H := Lib.hid h
  have HV := Lib.hid hv
  have HP := Lib.hid (page_U hv)
  have hg := h.mx.glt
  obtain ⟨v0, v1⟩ := hv
  by_cases hE : t.me = 0
  · rw [hE] at h5
    have HR : Hid (mkRows t rows va = rows) := by show _ = _; rw [mkRows, if_pos hE]
    have HM : Hid (mkMem t xs rows va = xs) := by show _ = _; rw [mkMem, if_pos hE]
    clear h hE h6
    go_enter Try.func52, Try.ntmps52
    go_wp2
    first | go_end0 | (refine bodyPost_ret (results_none rfl _ _ _) rfl ?_)
    exact ⟨rfl, S, by rw [HR.out, HM.out]; exact H.out, ⟨Tl.Mods.refl _ _, fun _ h => .inl h⟩⟩
  · have hE' : (t.me == 0) = false := by simpa using hE
    have HMR : Hid (mkRows t rows va = if Tl.hav rows (va / 512) && !Pt.im (Tl.ent rows (va / 512)) then Tl.putR rows (va / 512) (mkx (Tl.ent rows (va / 512))) else rows) := by show _ = _; rw [mkRows, if_neg hE]
    have HMM : Hid (mkMem t xs rows va = if Tl.hav rows (va / 512) && Pt.im (Tl.ent rows (va / 512)) then xs else if ein t va = true ∧ epl t va + 4 ≤ xs.length then splice xs (epl t va).toNat (Rm.low (mkx (Rm.val xs (epl t va).toNat 4)) 4) else xs) := by show _ = _; rw [mkMem, if_neg hE]
    generalize t.me = me at h5 hE'
    clear hE
    cases hH : Tl.hav rows (va / 512)
    · have HX := Lib.hid (Tl.ent_out (fun e => by rw [Tl.hav, decide_eq_true e] at hH; cases hH) : Tl.ent rows (va / 512) = 0)
      rw [hH] at HMR HMM
      simp only [Bool.false_and, Bool.false_eq_true, if_false] at HMR HMM
      have HH := Lib.hid hH
      clear hH h
      go_enter Try.func52, Try.ntmps52
      go_wp2_with fail
      refine (Tl.get_as tg S rows (va / 512) 0 false _ H.out.mx.tb HX.out HH.out).mono ?_
      rintro e w1 ⟨rfl, hb1⟩
      have HMs := Lib.hid (H.out.below hb1)
      have HSt := Lib.hid (Tl.Step.of_below (S := Rg S r) hb1)
      clear hb1 h5 h6 H
      obtain ⟨S1, rfl⟩ : ∃ S1, S1 = S := ⟨S, rfl⟩
      obtain ⟨a, ha⟩ : ∃ a, epl t va = a := ⟨_, rfl⟩
      have HA := Lib.hid ha
      have HAU : Hid (U a) := ha ▸ epl_U t va
      have c0 := HMs.out.mx.c0
      have hg1 := HMs.out.mx.glt
      rw [ha] at HMM
      clear ha
      cases hI : ein t va
      · have HI := Lib.hid hI
        rw [hI] at HMM
        go_wp2_with fail
        refine (stands_as g rg tg S1 t rows va a false _ HMs.out.mx HV.out HA.out HI.out).mono ?_
        rintro e w2 ⟨rfl, hb2⟩
        have HMs2 := Lib.hid (HMs.out.below hb2)
        have HS2 := Lib.hid (HSt.out.trans (Tl.Step.of_below hb2))
        have d0 := HMs2.out.mx.c0
        clear hb2 c0 hI
        by_cases hF : a + 4 ≤ (xs.length : Int)
        · have HN : Hid (a = a.toNat) := by have := HAU.out.1; show _ = _; omega
          have HF : Hid (a.toNat + 4 ≤ xs.length) := by have := HAU.out.1; show _ ≤ _; omega
          generalize a.toNat = n at HN HF
          clear hF
          go_wp2_with fail
          refine (Rm.get_at rg r xs a n 4 HN.out _ HMs2.out.mem 4 rfl (by omega) HF.out).mono ?_
          rintro e w' ⟨rfl, rfl⟩
          go_wp2
          first | go_end0 | (refine bodyPost_ret (results_none rfl _ _ _) rfl ?_)
          exact ⟨rfl, S1, by rw [HMM.out, HMR.out]; exact HMs2.out, HS2.out⟩
        · have HF := Lib.hid hF
          clear hF
          go_wp2_with fail
          refine (Rm.get_not rg r xs a 4 _ HMs2.out.mem HAU.out.1 HAU.out.2 (by have := HF.out; omega)).mono ?_
          rintro e w' ⟨rfl, rfl⟩
          go_wp2
          first | go_end0 | (refine bodyPost_ret (results_none rfl _ _ _) rfl ?_)
          exact ⟨rfl, S1, by rw [HMM.out, HMR.out]; exact HMs2.out, HS2.out⟩
      · have HI := Lib.hid hI
        rw [hI] at HMM
        go_wp2_with fail
        refine (stands_as g rg tg S1 t rows va a true _ HMs.out.mx HV.out HA.out HI.out).mono ?_
        rintro e w2 ⟨rfl, hb2⟩
        have HMs2 := Lib.hid (HMs.out.below hb2)
        have HS2 := Lib.hid (HSt.out.trans (Tl.Step.of_below hb2))
        have d0 := HMs2.out.mx.c0
        clear hb2 c0 hI
        by_cases hF : a + 4 ≤ (xs.length : Int)
        · have HN : Hid (a = a.toNat) := by have := HAU.out.1; show _ = _; omega
          have HF : Hid (a.toNat + 4 ≤ xs.length) := by have := HAU.out.1; show _ ≤ _; omega
          rw [if_pos ⟨by trivial, hF⟩] at HMM
          generalize a.toNat = n at HN HF HMM
          have HY := Lib.hid (or_mark (show U (Rm.val xs n 4) from Rm.val_bound xs n HMs2.out.mem.byt 4 HF.out))
          clear hF
          go_wp2_with fail
          refine (Rm.get_at rg r xs a n 4 HN.out _ HMs2.out.mem 4 rfl (by omega) HF.out).mono ?_
          rintro e w' ⟨rfl, rfl⟩
          go_wp2_with fail
          rw [HY.out]
          refine (Rm.put_at rg r xs a 4 n 4 HN.out rfl (mkx (Rm.val xs n 4)) _ HMs2.out.mem (by omega) HF.out).mono ?_
          rintro e w3 ⟨rfl, hm3, hg3⟩
          have HMs3 := Lib.hid (HMs2.out.wrote hm3 hg3)
          clear hm3 hg3
          go_wp2
          first | go_end0 | (refine bodyPost_ret (results_none rfl _ _ _) rfl ?_)
          exact ⟨rfl, S1, by rw [HMM.out, HMR.out]; exact HMs3.out.1, HS2.out.trans HMs3.out.2⟩
        · have HF := Lib.hid hF
          rw [if_neg (fun e => hF e.2)] at HMM
          clear hF
          go_wp2_with fail
          refine (Rm.get_not rg r xs a 4 _ HMs2.out.mem HAU.out.1 HAU.out.2 (by have := HF.out; omega)).mono ?_
          rintro e w' ⟨rfl, rfl⟩
          go_wp2
          first | go_end0 | (refine bodyPost_ret (results_none rfl _ _ _) rfl ?_)
          exact ⟨rfl, S1, by rw [HMM.out, HMR.out]; exact HMs2.out, HS2.out⟩
    · obtain ⟨x, hx⟩ : ∃ x, Tl.ent rows (va / 512) = x := ⟨_, rfl⟩
      have HXU := Lib.hid (hx ▸ ent_U h.mx.tb.fit (va / 512) : U x)
      rw [hx, hH] at HMR HMM
      simp only [Bool.true_and] at HMR HMM
      have HX := Lib.hid hx
      have HH := Lib.hid hH
      clear hH hx h
      cases hI : Pt.im x
      · rw [hI] at HMR HMM
        simp only [Bool.false_eq_true, if_false, Bool.not_false, if_true] at HMR HMM
        have HI := Lib.hid hI
        have HO := Lib.hid (or_mark HXU.out)
        clear hI
        go_enter Try.func52, Try.ntmps52
        go_wp2_with fail
        refine (Tl.get_as tg S rows (va / 512) x true _ H.out.mx.tb HX.out HH.out).mono ?_
        rintro e w1 ⟨rfl, hb1⟩
        have HMs1 := Lib.hid (H.out.below hb1)
        have HSt1 := Lib.hid (Tl.Step.of_below (S := Rg S r) hb1)
        have d6 := HMs1.out.mx.c6
        clear hb1 h5 h6 H
        go_wp2_with fail
        refine (Pt.written_as x false HXU.out HI.out _).mono ?_
        rintro e w' ⟨rfl, rfl⟩
        go_wp2_with fail
        rw [HO.out]
        refine (Tl.put_any tg S rows (va / 512) (mkx x) _ HMs1.out.mx.tb HP.out (mkx_U HXU.out)).mono ?_
        rintro e w2 ⟨rfl, S1, hT, hs⟩
        have HMs := Lib.hid (HMs1.out.turn hT hs)
        have HSt := Lib.hid (HSt1.out.trans (step_rg hs))
        clear hT hs d6 HMs1 HSt1
        obtain ⟨a, ha⟩ : ∃ a, epl t va = a := ⟨_, rfl⟩
        have HA := Lib.hid ha
        have HAU : Hid (U a) := ha ▸ epl_U t va
        have c0 := HMs.out.mx.c0
        have hg1 := HMs.out.mx.glt
        rw [ha] at HMM
        clear ha
        cases hI : ein t va
        · have HI := Lib.hid hI
          rw [hI] at HMM
          go_wp2_with fail
          refine (stands_as g rg tg S1 t (Tl.putR rows (va / 512) (mkx x)) va a false _ HMs.out.mx HV.out HA.out HI.out).mono ?_
          rintro e w2 ⟨rfl, hb2⟩
          have HMs2 := Lib.hid (HMs.out.below hb2)
          have HS2 := Lib.hid (HSt.out.trans (Tl.Step.of_below hb2))
          have d0 := HMs2.out.mx.c0
          clear hb2 c0 hI
          by_cases hF : a + 4 ≤ (xs.length : Int)
          · have HN : Hid (a = a.toNat) := by have := HAU.out.1; show _ = _; omega
            have HF : Hid (a.toNat + 4 ≤ xs.length) := by have := HAU.out.1; show _ ≤ _; omega
            generalize a.toNat = n at HN HF
            clear hF
            go_wp2_with fail
            refine (Rm.get_at rg r xs a n 4 HN.out _ HMs2.out.mem 4 rfl (by omega) HF.out).mono ?_
            rintro e w' ⟨rfl, rfl⟩
            go_wp2
            first | go_end0 | (refine bodyPost_ret (results_none rfl _ _ _) rfl ?_)
            exact ⟨rfl, S1, by rw [HMM.out, HMR.out]; exact HMs2.out, HS2.out⟩
          · have HF := Lib.hid hF
            clear hF
            go_wp2_with fail
            refine (Rm.get_not rg r xs a 4 _ HMs2.out.mem HAU.out.1 HAU.out.2 (by have := HF.out; omega)).mono ?_
            rintro e w' ⟨rfl, rfl⟩
            go_wp2
            first | go_end0 | (refine bodyPost_ret (results_none rfl _ _ _) rfl ?_)
            exact ⟨rfl, S1, by rw [HMM.out, HMR.out]; exact HMs2.out, HS2.out⟩
        · have HI := Lib.hid hI
          rw [hI] at HMM
          go_wp2_with fail
          refine (stands_as g rg tg S1 t (Tl.putR rows (va / 512) (mkx x)) va a true _ HMs.out.mx HV.out HA.out HI.out).mono ?_
          rintro e w2 ⟨rfl, hb2⟩
          have HMs2 := Lib.hid (HMs.out.below hb2)
          have HS2 := Lib.hid (HSt.out.trans (Tl.Step.of_below hb2))
          have d0 := HMs2.out.mx.c0
          clear hb2 c0 hI
          by_cases hF : a + 4 ≤ (xs.length : Int)
          · have HN : Hid (a = a.toNat) := by have := HAU.out.1; show _ = _; omega
            have HF : Hid (a.toNat + 4 ≤ xs.length) := by have := HAU.out.1; show _ ≤ _; omega
            rw [if_pos ⟨by trivial, hF⟩] at HMM
            generalize a.toNat = n at HN HF HMM
            have HY := Lib.hid (or_mark (show U (Rm.val xs n 4) from Rm.val_bound xs n HMs2.out.mem.byt 4 HF.out))
            clear hF
            go_wp2_with fail
            refine (Rm.get_at rg r xs a n 4 HN.out _ HMs2.out.mem 4 rfl (by omega) HF.out).mono ?_
            rintro e w' ⟨rfl, rfl⟩
            go_wp2_with fail
            rw [HY.out]
            refine (Rm.put_at rg r xs a 4 n 4 HN.out rfl (mkx (Rm.val xs n 4)) _ HMs2.out.mem (by omega) HF.out).mono ?_
            rintro e w3 ⟨rfl, hm3, hg3⟩
            have HMs3 := Lib.hid (HMs2.out.wrote hm3 hg3)
            clear hm3 hg3
            go_wp2
            first | go_end0 | (refine bodyPost_ret (results_none rfl _ _ _) rfl ?_)
            exact ⟨rfl, S1, by rw [HMM.out, HMR.out]; exact HMs3.out.1, HS2.out.trans HMs3.out.2⟩
          · have HF := Lib.hid hF
            rw [if_neg (fun e => hF e.2)] at HMM
            clear hF
            go_wp2_with fail
            refine (Rm.get_not rg r xs a 4 _ HMs2.out.mem HAU.out.1 HAU.out.2 (by have := HF.out; omega)).mono ?_
            rintro e w' ⟨rfl, rfl⟩
            go_wp2
            first | go_end0 | (refine bodyPost_ret (results_none rfl _ _ _) rfl ?_)
            exact ⟨rfl, S1, by rw [HMM.out, HMR.out]; exact HMs2.out, HS2.out⟩
      · rw [hI] at HMR HMM
        simp only [Bool.false_eq_true, if_false, Bool.not_true, if_true] at HMR HMM
        have HI := Lib.hid hI
        clear hI
        go_enter Try.func52, Try.ntmps52
        go_wp2_with fail
        refine (Tl.get_as tg S rows (va / 512) x true _ H.out.mx.tb HX.out HH.out).mono ?_
        rintro e w1 ⟨rfl, hb1⟩
        go_wp2_with fail
        refine (Pt.written_as x true HXU.out HI.out _).mono ?_
        rintro e w' ⟨rfl, rfl⟩
        go_wp2
        first | go_end0 | (refine bodyPost_ret (results_none rfl _ _ _) rfl ?_)
        exact ⟨rfl, S, by rw [HMR.out, HMM.out]; exact H.out.below hb1, Tl.Step.of_below hb1⟩

end Go.Proofs.Ytfpdemlcmfaieaa.Cs
