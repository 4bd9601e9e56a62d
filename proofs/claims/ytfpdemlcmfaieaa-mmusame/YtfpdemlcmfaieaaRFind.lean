/- Contracts of the document's translation: Find. -/
import Derived.Test.YtfpdemlcmfaieaaRMmu
namespace Go.Proofs.Ytfpdemlcmfaieaa.Cs
open Go.RowKit

def FnP (t : Tabs) (xs : List Int) (rows : Rows) (th : Nat) (T : Nat → Prop) (va n : Int) (u wr kp : Bool) (w : World) (e : Ending) (w' : World) : Prop :=
  (∃ T', Tl.Rf w' th T' (plR t xs rows va u wr kp) ∧ Tl.Step T T' w w') ∧
  match plE t xs rows va n u wr with
  | .ok a => e = .returned (.tuple #[.int .u32 a, (Value.agg #[Value.int .i64 0, Value.int .u32 0, Value.int .u32 0])])
  | .bad k i => e = .returned (.tuple #[.int .u32 0, (Value.agg #[Value.int .i64 k, Value.int .u32 va, Value.int .u32 i])])
section
variable {t : Tabs} {xs : List Int} {rows rows' : Rows} {th : Nat} {T T1 : Nat → Prop} {va n x k i : Int} {u wr kp : Bool} {w W w' : World}
theorem FnP.ok (h : plE t xs rows va n u wr = .ok x) (h' : ∃ T', Tl.Rf w' th T' (plR t xs rows va u wr kp) ∧ Tl.Step T T' w w') : FnP t xs rows th T va n u wr kp w (.returned (.tuple #[.int .u32 x, (Value.agg #[Value.int .i64 0, Value.int .u32 0, Value.int .u32 0])])) w' := by
  unfold FnP; rw [h]; exact ⟨h', rfl⟩
theorem FnP.bad (h : plE t xs rows va n u wr = .bad k i) (h' : ∃ T', Tl.Rf w' th T' (plR t xs rows va u wr kp) ∧ Tl.Step T T' w w') : FnP t xs rows th T va n u wr kp w (.returned (.tuple #[.int .u32 0, (Value.agg #[Value.int .i64 k, Value.int .u32 va, Value.int .u32 i])])) w' := by
  unfold FnP; rw [h]; exact ⟨h', rfl⟩
theorem fin3f {F : Nat} {a b c : Value} (hT : Tl.Rf W th T1 rows') (hs : Tl.Step T T1 w W) (hF : w.heap.size ≤ F) (hn : ¬ T1 F) :
    ∃ T', Tl.Rf (((W.setCell ⟨F, 0, none⟩ a).setCell ⟨F, 1, none⟩ b).setCell ⟨F, 2, none⟩ c) th T' rows' ∧ Tl.Step T T' w (((W.setCell ⟨F, 0, none⟩ a).setCell ⟨F, 1, none⟩ b).setCell ⟨F, 2, none⟩ c) :=
  ⟨T1, hT.keep (fun k hk => set3 (by rintro rfl; exact hn hk)), ⟨((hs.mods.set _ (.inr hF)).set _ (.inr hF)).set _ (.inr hF), hs.grow⟩⟩
end
theorem rget_as (g : Nat) (S : Nat → Prop) (xs : Rows) (p x : Int) (t : Bool) (w : World) (h : Tl.Rf w g S xs) (hl : xs.length ≤ 8) (hx : Tl.ent xs p = x) (ht : Tl.hav xs p = t) :
    Calls Try.prog 57 #[(Value.pointer (some ⟨g, 0, none⟩)), .int .u32 p] w fun e w' => e = .returned (.tuple #[.int .u32 x, .bool t]) ∧ w = w' := by
  subst hx ht
  exact Tl.rget_any g S xs p w h hl
theorem rget_four (h hr : Nat) (xs : List Int) (a : Int) (p : Nat) (x : Int) (w : World) (b : Rb w h hr xs) (hp : a = p) (hf : p + 4 ≤ xs.length) (hx : Rm.val xs p 4 = x) :
    Calls Try.prog 29 #[(Value.pointer (some ⟨h, 0, none⟩)), .int .u32 a, .int .i64 4] w fun e w' => e = .returned (.tuple #[.int .u32 x, .int .i64 0]) ∧ w = w' := by
  subst hx
  exact rget_ok h hr xs a p w b hp hf
theorem rmay_as (x : Int) (u r b : Bool) (hx : Pt.U x) (hb : Pt.my x u r = b) (w : World) :
    Calls Try.prog 59 #[.int .u32 x, .bool u, .bool r] w fun e w' => e = .returned (.bool b) ∧ w = w' := hb ▸ Pt.rmay_any x u r hx w

set_option maxRecDepth 100000 in
set_option maxHeartbeats 4000000 in
theorem find_any (h rh hr th : Nat) (T : Nat → Prop) (t : Tabs) (pl : Bool) (rows : Rows) (xs : List Int) (va : Int) (n : Nat) (u wr keep : Bool) (w : World) (x0 : Rs w h rh hr th T t pl rows xs) (hv : U va) :
    Calls Try.prog 45 #[(Value.pointer (some ⟨h, 0, none⟩)), .int .u32 va, .int .i64 n, .bool u, .bool wr, .bool keep] w (FnP t xs rows th T va n u wr (keep && !pl) w) := by
  have k0 := x0.mx.c0
  have k1 := x0.mx.c1
  have k6 := x0.mx.c6
  have k7 := x0.mx.c7
  have hg := x0.mx.glt
  have H := Lib.hid x0
  have HV := Lib.hid hv
  have HP := Lib.hid (page_U hv)
  have HF := Lib.hid (new_flt w)
  obtain ⟨v0, v1⟩ := hv
  by_cases hE : t.me = 0
  · rw [hE] at k6
    have HPL : Hid (plE t xs rows va n u wr = fitE xs va n wr) := by show _ = _; rw [plE, if_pos hE]
    have HR : Hid (plR t xs rows va u wr (keep && !pl) = rows) := by show _ = _; rw [plR, if_pos hE]
    have HAU := Lib.hid HV.out
    clear x0 hE
    go_enter Try.func45, Try.ntmps45
    by_cases hF : va + (n : Int) ≤ xs.length
    · have HJ : Hid (plE t xs rows va n u wr = .ok va) := by show _ = _; rw [HPL.out, fitE, if_pos hF]
      have HD := Lib.hid (decide_eq_true hF)
      clear hF
      go_wp2_with fail
      refine (there_any rh hr xs va n true _ (H.out.mem.below (by go_grown)) HAU.out HD.out).mono ?_
      rintro e w' ⟨rfl, rfl⟩
      obtain ⟨d0, d1, d2, e0, e1, e2⟩ := ((show Ft (w.alloc (.cells #[.int .i64 0, .int .u32 0, .int .u32 0] 50)) w.heap.size from HF.out)).cells
      go_wp2
      refine bodyPost_ret (v := .tuple #[.int .u32 va, (Value.agg #[Value.int .i64 0, Value.int .u32 0, Value.int .u32 0])]) (by simp [results, Try.results45, go_sem]) rfl (FnP.ok HJ.out ?_)
      (rw [HR.out]; exact ⟨T, H.out.mx.rf.below (by go_grown), Tl.Step.of_below (by go_grown)⟩)
    · have HJ : Hid (plE t xs rows va n u wr = .bad 1 (inf 0 wr)) := by show _ = _; rw [HPL.out, fitE, if_neg hF]
      have HD := Lib.hid (decide_eq_false hF)
      clear hF
      go_wp2_with fail
      refine (there_any rh hr xs va n false _ (H.out.mem.below (by go_grown)) HAU.out HD.out).mono ?_
      rintro e w' ⟨rfl, rfl⟩
      go_wp2_with fail
      refine (rfault_any 1 va 0 (inf 0 wr) wr _ ⟨.inl rfl, rfl⟩).mono ?_
      rintro e w9 ⟨rfl, hb9⟩
      obtain ⟨d0, d1, d2, e0, e1, e2⟩ := (((show Ft (w.alloc (.cells #[.int .i64 0, .int .u32 0, .int .u32 0] 50)) w.heap.size from HF.out)).below hb9).cells
      have hz9 := (((show Ft (w.alloc (.cells #[.int .i64 0, .int .u32 0, .int .u32 0] 50)) w.heap.size from HF.out)).below hb9).lt
      have HB9 := Lib.hid hb9
      clear hb9
      go_wp2
      refine bodyPost_ret (v := .tuple #[.int .u32 0, (Value.agg #[Value.int .i64 1, Value.int .u32 va, Value.int .u32 (inf 0 wr)])]) (by simp [results, Try.results45, go_sem, d0, d1, d2]) rfl (FnP.bad HJ.out ?_)
      (rw [HR.out]; have hb := Tl.bel2 (a := w) (by go_grown) HB9.out; exact ⟨T, H.out.mx.rf.below (by go_grown), Tl.Step.of_below (by go_grown)⟩)
  · have hE' : (t.me != 0) = true := by simpa using hE
    have HPL0 : Hid (plE t xs rows va n u wr = match enE t xs rows va u wr with | .ok x => fitE xs (Pt.pl x va) n wr | .bad k i => .bad k i) := by show _ = _; rw [plE, if_neg hE]; rfl
    have HR0 : Hid (plR t xs rows va u wr (keep && !pl) = enR t xs rows va u wr (keep && !pl)) := by show _ = _; rw [plR, if_neg hE]
    generalize t.me = me at k6 hE'
    clear x0 hE
    cases hH : Tl.hav rows (va / 512)
    · have HX := Lib.hid (Tl.ent_out (fun e => by rw [Tl.hav, decide_eq_true e] at hH; cases hH) : Tl.ent rows (va / 512) = 0)
      have HH := Lib.hid hH
      have HG0 : Hid (getE t xs rows va wr = rdE t xs va wr) := by show _ = _; rw [getE, hH]; rfl
      obtain ⟨a, ha⟩ : ∃ a, epl t va = a := ⟨_, rfl⟩
      have HA := Lib.hid ha
      have HAU0 : Hid (U a) := ha ▸ epl_U t va
      clear hH
      cases hI : ein t va
      · have HI := Lib.hid hI
        have HEN : Hid (enE t xs rows va u wr = .bad 2 (inf 1 wr)) := by show _ = _; rw [enE, HG0.out, rdE, hI]; rfl
        have HJ : Hid (plE t xs rows va n u wr = .bad 2 (inf 1 wr)) := by show _ = _; rw [HPL0.out, HEN.out]
        have HR : Hid (plR t xs rows va u wr (keep && !pl) = rows) := by show _ = _; rw [HR0.out, enR, HEN.out]
        clear hI ha
        go_enter Try.func45, Try.ntmps45
        go_wp2_with fail
        refine (rget_as th T rows (va / 512) 0 false _ (H.out.mx.rf.below (by go_grown)) H.out.mx.fit.2.1 HX.out HH.out).mono ?_
        rintro e w' ⟨rfl, rfl⟩
        go_wp2_with fail
        refine (rentry_any h rh th T t pl rows va a false _ (H.out.mx.below (by go_grown)) HV.out HA.out HI.out).mono ?_
        rintro e w' ⟨rfl, rfl⟩
        go_wp2_with fail
        refine (rfault_any 2 va 1 (inf 1 wr) wr _ ⟨.inr rfl, rfl⟩).mono ?_
        rintro e w9 ⟨rfl, hb9⟩
        obtain ⟨d0, d1, d2, e0, e1, e2⟩ := (((show Ft (w.alloc (.cells #[.int .i64 0, .int .u32 0, .int .u32 0] 50)) w.heap.size from HF.out)).below hb9).cells
        have hz9 := (((show Ft (w.alloc (.cells #[.int .i64 0, .int .u32 0, .int .u32 0] 50)) w.heap.size from HF.out)).below hb9).lt
        have HB9 := Lib.hid hb9
        clear hb9
        go_wp2
        refine bodyPost_ret (v := .tuple #[.int .u32 0, (Value.agg #[Value.int .i64 2, Value.int .u32 va, Value.int .u32 (inf 1 wr)])]) (by simp [results, Try.results45, go_sem, d0, d1, d2]) rfl (FnP.bad HJ.out ?_)
        (rw [HR.out]; have hb := Tl.bel2 (a := w) (by go_grown) HB9.out; exact ⟨T, H.out.mx.rf.below (by go_grown), Tl.Step.of_below (by go_grown)⟩)
      · have HI := Lib.hid hI
        by_cases hF4 : a + 4 ≤ (xs.length : Int)
        · have HN : Hid (a = a.toNat) := by have := HAU0.out.1; show _ = _; omega
          have HF4 : Hid (a.toNat + 4 ≤ xs.length) := by have := HAU0.out.1; show _ ≤ _; omega
          obtain ⟨x, hx⟩ : ∃ x, Rm.val xs a.toNat 4 = x := ⟨_, rfl⟩
          have HXE := Lib.hid hx
          have HXU : Hid (U x) := hx ▸ Rm.val_bound xs a.toNat H.out.mem.byt 4 HF4.out
          have HGE : Hid (getE t xs rows va wr = .ok x) := by show _ = _; rw [HG0.out, rdE, hI, ha, hx]; simp only [if_true, if_pos hF4]
          generalize a.toNat = p at HN HF4 HXE
          clear hI ha hF4 hx
          go_enter Try.func45, Try.ntmps45
          go_wp2_with fail
          refine (rget_as th T rows (va / 512) 0 false _ (H.out.mx.rf.below (by go_grown)) H.out.mx.fit.2.1 HX.out HH.out).mono ?_
          rintro e w' ⟨rfl, rfl⟩
          go_wp2_with fail
          refine (rentry_any h rh th T t pl rows va a true _ (H.out.mx.below (by go_grown)) HV.out HA.out HI.out).mono ?_
          rintro e w' ⟨rfl, rfl⟩
          go_wp2_with fail
          refine (rget_four rh hr xs a p x _ (H.out.mem.below (by go_grown)) HN.out HF4.out HXE.out).mono ?_
          rintro e w' ⟨rfl, rfl⟩
          go_wp2_with fail
          refine (rmay_as x u wr (Pt.my x u wr) HXU.out rfl _).mono ?_
          rintro e w' ⟨rfl, rfl⟩
          cases hM : Pt.my x u wr
          · have HEN : Hid (enE t xs rows va u wr = .bad 2 (inf 0 wr)) := by show _ = _; rw [enE, HGE.out]; simp only [useE, hM, Bool.false_eq_true, if_false]
            have HJ : Hid (plE t xs rows va n u wr = .bad 2 (inf 0 wr)) := by show _ = _; rw [HPL0.out, HEN.out]
            have HR : Hid (plR t xs rows va u wr (keep && !pl) = rows) := by show _ = _; rw [HR0.out, enR, HEN.out]
            clear hM
            go_wp2_with fail
            refine (rfault_any 2 va 0 (inf 0 wr) wr _ ⟨.inl rfl, rfl⟩).mono ?_
            rintro e w9 ⟨rfl, hb9⟩
            obtain ⟨d0, d1, d2, e0, e1, e2⟩ := (((show Ft (w.alloc (.cells #[.int .i64 0, .int .u32 0, .int .u32 0] 50)) w.heap.size from HF.out)).below hb9).cells
            have hz9 := (((show Ft (w.alloc (.cells #[.int .i64 0, .int .u32 0, .int .u32 0] 50)) w.heap.size from HF.out)).below hb9).lt
            have HB9 := Lib.hid hb9
            clear hb9
            go_wp2
            refine bodyPost_ret (v := .tuple #[.int .u32 0, (Value.agg #[Value.int .i64 2, Value.int .u32 va, Value.int .u32 (inf 0 wr)])]) (by simp [results, Try.results45, go_sem, d0, d1, d2]) rfl (FnP.bad HJ.out ?_)
            (rw [HR.out]; have hb := Tl.bel2 (a := w) (by go_grown) HB9.out; exact ⟨T, H.out.mx.rf.below (by go_grown), Tl.Step.of_below (by go_grown)⟩)
          · go_wp2_with fail
            refine (Pt.rbit31 x HXU.out _).mono ?_
            rintro e w' ⟨rfl, rfl⟩
            cases hI : Pt.iv x
            · have HEN : Hid (enE t xs rows va u wr = .bad 3 (inf 0 wr)) := by show _ = _; rw [enE, HGE.out]; simp only [useE, hM, hI, Bool.false_eq_true, if_false, if_true]
              have HJ : Hid (plE t xs rows va n u wr = .bad 3 (inf 0 wr)) := by show _ = _; rw [HPL0.out, HEN.out]
              have HR : Hid (plR t xs rows va u wr (keep && !pl) = rows) := by show _ = _; rw [HR0.out, enR, HEN.out]
              clear hM hI
              go_wp2_with fail
              refine (rfault_any 3 va 0 (inf 0 wr) wr _ ⟨.inl rfl, rfl⟩).mono ?_
              rintro e w9 ⟨rfl, hb9⟩
              obtain ⟨d0, d1, d2, e0, e1, e2⟩ := (((show Ft (w.alloc (.cells #[.int .i64 0, .int .u32 0, .int .u32 0] 50)) w.heap.size from HF.out)).below hb9).cells
              have hz9 := (((show Ft (w.alloc (.cells #[.int .i64 0, .int .u32 0, .int .u32 0] 50)) w.heap.size from HF.out)).below hb9).lt
              have HB9 := Lib.hid hb9
              clear hb9
              go_wp2
              refine bodyPost_ret (v := .tuple #[.int .u32 0, (Value.agg #[Value.int .i64 3, Value.int .u32 va, Value.int .u32 (inf 0 wr)])]) (by simp [results, Try.results45, go_sem, d0, d1, d2]) rfl (FnP.bad HJ.out ?_)
              (rw [HR.out]; have hb := Tl.bel2 (a := w) (by go_grown) HB9.out; exact ⟨T, H.out.mx.rf.below (by go_grown), Tl.Step.of_below (by go_grown)⟩)
            · have HEN : Hid (enE t xs rows va u wr = .ok x) := by show _ = _; rw [enE, HGE.out]; simp only [useE, hM, hI, if_true]
              have HPL : Hid (plE t xs rows va n u wr = fitE xs (Pt.pl x va) n wr) := by show _ = _; rw [HPL0.out, HEN.out]
              have HR1 : Hid (plR t xs rows va u wr (keep && !pl) = if !Tl.hav rows (va / 512) && (keep && !pl) then Tl.putR rows (va / 512) x else rows) := by show _ = _; rw [HR0.out, enR, HEN.out]
              rw [HH.out] at HR1
              clear hM hI
              cases keep
              · have HR : Hid (plR t xs rows va u wr (false && !pl) = rows) := HR1.out
                go_wp2_with fail
                refine (Pt.rplace_any x va HXU.out HV.out _).mono ?_
                rintro e w' ⟨rfl, rfl⟩
                have HAU := Lib.hid (Pt.pl_U x va)
                generalize Pt.pl x va = a at HPL HAU
                by_cases hF : a + (n : Int) ≤ xs.length
                · have HJ : Hid (plE t xs rows va n u wr = .ok a) := by show _ = _; rw [HPL.out, fitE, if_pos hF]
                  have HD := Lib.hid (decide_eq_true hF)
                  clear hF
                  go_wp2_with fail
                  refine (there_any rh hr xs a n true _ (H.out.mem.below (by go_grown)) HAU.out HD.out).mono ?_
                  rintro e w' ⟨rfl, rfl⟩
                  obtain ⟨d0, d1, d2, e0, e1, e2⟩ := ((show Ft (w.alloc (.cells #[.int .i64 0, .int .u32 0, .int .u32 0] 50)) w.heap.size from HF.out)).cells
                  go_wp2
                  refine bodyPost_ret (v := .tuple #[.int .u32 a, (Value.agg #[Value.int .i64 0, Value.int .u32 0, Value.int .u32 0])]) (by simp [results, Try.results45, go_sem]) rfl (FnP.ok HJ.out ?_)
                  (rw [HR.out]; exact ⟨T, H.out.mx.rf.below (by go_grown), Tl.Step.of_below (by go_grown)⟩)
                · have HJ : Hid (plE t xs rows va n u wr = .bad 1 (inf 0 wr)) := by show _ = _; rw [HPL.out, fitE, if_neg hF]
                  have HD := Lib.hid (decide_eq_false hF)
                  clear hF
                  go_wp2_with fail
                  refine (there_any rh hr xs a n false _ (H.out.mem.below (by go_grown)) HAU.out HD.out).mono ?_
                  rintro e w' ⟨rfl, rfl⟩
                  go_wp2_with fail
                  refine (rfault_any 1 va 0 (inf 0 wr) wr _ ⟨.inl rfl, rfl⟩).mono ?_
                  rintro e w9 ⟨rfl, hb9⟩
                  obtain ⟨d0, d1, d2, e0, e1, e2⟩ := (((show Ft (w.alloc (.cells #[.int .i64 0, .int .u32 0, .int .u32 0] 50)) w.heap.size from HF.out)).below hb9).cells
                  have hz9 := (((show Ft (w.alloc (.cells #[.int .i64 0, .int .u32 0, .int .u32 0] 50)) w.heap.size from HF.out)).below hb9).lt
                  have HB9 := Lib.hid hb9
                  clear hb9
                  go_wp2
                  refine bodyPost_ret (v := .tuple #[.int .u32 0, (Value.agg #[Value.int .i64 1, Value.int .u32 va, Value.int .u32 (inf 0 wr)])]) (by simp [results, Try.results45, go_sem, d0, d1, d2]) rfl (FnP.bad HJ.out ?_)
                  (rw [HR.out]; have hb := Tl.bel2 (a := w) (by go_grown) HB9.out; exact ⟨T, H.out.mx.rf.below (by go_grown), Tl.Step.of_below (by go_grown)⟩)
              · cases pl
                · have HR : Hid (plR t xs rows va u wr (true && !false) = Tl.putR rows (va / 512) x) := HR1.out
                  go_wp2_with fail
                  refine (Tl.rput_any th T rows (va / 512) x _ (H.out.mx.rf.below (by go_grown)) H.out.mx.fit).mono ?_
                  rintro e w5 ⟨rfl, T5, hT5, hs5⟩
                  have HF5 := Lib.hid (Ft.mods HF.out hs5.mods (rf_not (H.out.mx.rf.below (by go_grown)) (Ft.typ HF.out) (by decide) (by decide)))
                  have H5 := Lib.hid ((H.out.below (by go_grown)).turn hT5 (H.out.mx.fit.put HP.out HXU.out) hs5)
                  have HS5 := Lib.hid ((Tl.Step.of_below (S := T) (w := w) (by go_grown)).trans hs5)
                  have HN5 := Lib.hid (rf_not hT5 (Ft.typ HF5.out) (by decide) (by decide))
                  have k0 := H5.out.mx.c0
                  clear hT5 hs5 k1 k6 k7
                  go_wp2_with fail
                  refine (Pt.rplace_any x va HXU.out HV.out _).mono ?_
                  rintro e w' ⟨rfl, rfl⟩
                  have HAU := Lib.hid (Pt.pl_U x va)
                  generalize Pt.pl x va = a at HPL HAU
                  by_cases hF : a + (n : Int) ≤ xs.length
                  · have HJ : Hid (plE t xs rows va n u wr = .ok a) := by show _ = _; rw [HPL.out, fitE, if_pos hF]
                    have HD := Lib.hid (decide_eq_true hF)
                    clear hF
                    go_wp2_with fail
                    refine (there_any rh hr xs a n true _ H5.out.mem HAU.out HD.out).mono ?_
                    rintro e w' ⟨rfl, rfl⟩
                    obtain ⟨d0, d1, d2, e0, e1, e2⟩ := (HF5.out).cells
                    go_wp2
                    refine bodyPost_ret (v := .tuple #[.int .u32 a, (Value.agg #[Value.int .i64 0, Value.int .u32 0, Value.int .u32 0])]) (by simp [results, Try.results45, go_sem, d0, d1, d2]) rfl (FnP.ok HJ.out ?_)
                    (rw [HR.out]; exact fin3f H5.out.mx.rf HS5.out (Nat.le_refl _) HN5.out)
                  · have HJ : Hid (plE t xs rows va n u wr = .bad 1 (inf 0 wr)) := by show _ = _; rw [HPL.out, fitE, if_neg hF]
                    have HD := Lib.hid (decide_eq_false hF)
                    clear hF
                    go_wp2_with fail
                    refine (there_any rh hr xs a n false _ H5.out.mem HAU.out HD.out).mono ?_
                    rintro e w' ⟨rfl, rfl⟩
                    go_wp2_with fail
                    refine (rfault_any 1 va 0 (inf 0 wr) wr _ ⟨.inl rfl, rfl⟩).mono ?_
                    rintro e w9 ⟨rfl, hb9⟩
                    obtain ⟨d0, d1, d2, e0, e1, e2⟩ := ((HF5.out).below hb9).cells
                    have hz9 := ((HF5.out).below hb9).lt
                    have HB9 := Lib.hid hb9
                    clear hb9
                    go_wp2
                    refine bodyPost_ret (v := .tuple #[.int .u32 0, (Value.agg #[Value.int .i64 1, Value.int .u32 va, Value.int .u32 (inf 0 wr)])]) (by simp [results, Try.results45, go_sem, d0, d1, d2]) rfl (FnP.bad HJ.out ?_)
                    (rw [HR.out]; exact fin3f (H5.out.mx.rf.below HB9.out) (HS5.out.trans (Tl.Step.of_below HB9.out)) (Nat.le_refl _) HN5.out)
                · have HR : Hid (plR t xs rows va u wr (true && !true) = rows) := HR1.out
                  go_wp2_with fail
                  refine (Pt.rplace_any x va HXU.out HV.out _).mono ?_
                  rintro e w' ⟨rfl, rfl⟩
                  have HAU := Lib.hid (Pt.pl_U x va)
                  generalize Pt.pl x va = a at HPL HAU
                  by_cases hF : a + (n : Int) ≤ xs.length
                  · have HJ : Hid (plE t xs rows va n u wr = .ok a) := by show _ = _; rw [HPL.out, fitE, if_pos hF]
                    have HD := Lib.hid (decide_eq_true hF)
                    clear hF
                    go_wp2_with fail
                    refine (there_any rh hr xs a n true _ (H.out.mem.below (by go_grown)) HAU.out HD.out).mono ?_
                    rintro e w' ⟨rfl, rfl⟩
                    obtain ⟨d0, d1, d2, e0, e1, e2⟩ := ((show Ft (w.alloc (.cells #[.int .i64 0, .int .u32 0, .int .u32 0] 50)) w.heap.size from HF.out)).cells
                    go_wp2
                    refine bodyPost_ret (v := .tuple #[.int .u32 a, (Value.agg #[Value.int .i64 0, Value.int .u32 0, Value.int .u32 0])]) (by simp [results, Try.results45, go_sem]) rfl (FnP.ok HJ.out ?_)
                    (rw [HR.out]; exact ⟨T, H.out.mx.rf.below (by go_grown), Tl.Step.of_below (by go_grown)⟩)
                  · have HJ : Hid (plE t xs rows va n u wr = .bad 1 (inf 0 wr)) := by show _ = _; rw [HPL.out, fitE, if_neg hF]
                    have HD := Lib.hid (decide_eq_false hF)
                    clear hF
                    go_wp2_with fail
                    refine (there_any rh hr xs a n false _ (H.out.mem.below (by go_grown)) HAU.out HD.out).mono ?_
                    rintro e w' ⟨rfl, rfl⟩
                    go_wp2_with fail
                    refine (rfault_any 1 va 0 (inf 0 wr) wr _ ⟨.inl rfl, rfl⟩).mono ?_
                    rintro e w9 ⟨rfl, hb9⟩
                    obtain ⟨d0, d1, d2, e0, e1, e2⟩ := (((show Ft (w.alloc (.cells #[.int .i64 0, .int .u32 0, .int .u32 0] 50)) w.heap.size from HF.out)).below hb9).cells
                    have hz9 := (((show Ft (w.alloc (.cells #[.int .i64 0, .int .u32 0, .int .u32 0] 50)) w.heap.size from HF.out)).below hb9).lt
                    have HB9 := Lib.hid hb9
                    clear hb9
                    go_wp2
                    refine bodyPost_ret (v := .tuple #[.int .u32 0, (Value.agg #[Value.int .i64 1, Value.int .u32 va, Value.int .u32 (inf 0 wr)])]) (by simp [results, Try.results45, go_sem, d0, d1, d2]) rfl (FnP.bad HJ.out ?_)
                    (rw [HR.out]; have hb := Tl.bel2 (a := w) (by go_grown) HB9.out; exact ⟨T, H.out.mx.rf.below (by go_grown), Tl.Step.of_below (by go_grown)⟩)
        · have HF4 := Lib.hid hF4
          have HEN : Hid (enE t xs rows va u wr = .bad 1 (inf 0 wr)) := by show _ = _; rw [enE, HG0.out, rdE, hI, ha]; simp only [if_true, if_neg hF4]
          have HJ : Hid (plE t xs rows va n u wr = .bad 1 (inf 0 wr)) := by show _ = _; rw [HPL0.out, HEN.out]
          have HR : Hid (plR t xs rows va u wr (keep && !pl) = rows) := by show _ = _; rw [HR0.out, enR, HEN.out]
          clear hI ha hF4
          go_enter Try.func45, Try.ntmps45
          go_wp2_with fail
          refine (rget_as th T rows (va / 512) 0 false _ (H.out.mx.rf.below (by go_grown)) H.out.mx.fit.2.1 HX.out HH.out).mono ?_
          rintro e w' ⟨rfl, rfl⟩
          go_wp2_with fail
          refine (rentry_any h rh th T t pl rows va a true _ (H.out.mx.below (by go_grown)) HV.out HA.out HI.out).mono ?_
          rintro e w' ⟨rfl, rfl⟩
          go_wp2_with fail
          refine (rget_not rh hr xs a _ (H.out.mem.below (by go_grown)) HAU0.out (by have := HF4.out; omega)).mono ?_
          rintro e w' ⟨rfl, rfl⟩
          go_wp2_with fail
          refine (rfault_any 1 va 0 (inf 0 wr) wr _ ⟨.inl rfl, rfl⟩).mono ?_
          rintro e w9 ⟨rfl, hb9⟩
          obtain ⟨d0, d1, d2, e0, e1, e2⟩ := (((show Ft (w.alloc (.cells #[.int .i64 0, .int .u32 0, .int .u32 0] 50)) w.heap.size from HF.out)).below hb9).cells
          have hz9 := (((show Ft (w.alloc (.cells #[.int .i64 0, .int .u32 0, .int .u32 0] 50)) w.heap.size from HF.out)).below hb9).lt
          have HB9 := Lib.hid hb9
          clear hb9
          go_wp2
          refine bodyPost_ret (v := .tuple #[.int .u32 0, (Value.agg #[Value.int .i64 1, Value.int .u32 va, Value.int .u32 (inf 0 wr)])]) (by simp [results, Try.results45, go_sem, d0, d1, d2]) rfl (FnP.bad HJ.out ?_)
          (rw [HR.out]; have hb := Tl.bel2 (a := w) (by go_grown) HB9.out; exact ⟨T, H.out.mx.rf.below (by go_grown), Tl.Step.of_below (by go_grown)⟩)
    · obtain ⟨x, hx⟩ : ∃ x, Tl.ent rows (va / 512) = x := ⟨_, rfl⟩
      have HXU := Lib.hid (hx ▸ ent_U H.out.mx.fit (va / 512) : U x)
      have HGE : Hid (getE t xs rows va wr = .ok x) := by show _ = _; rw [getE, hH, hx]; rfl
      have HX := Lib.hid hx
      have HH := Lib.hid hH
      clear hH hx
      go_enter Try.func45, Try.ntmps45
      go_wp2_with fail
      refine (rget_as th T rows (va / 512) x true _ (H.out.mx.rf.below (by go_grown)) H.out.mx.fit.2.1 HX.out HH.out).mono ?_
      rintro e w' ⟨rfl, rfl⟩
      go_wp2_with fail
      refine (rmay_as x u wr (Pt.my x u wr) HXU.out rfl _).mono ?_
      rintro e w' ⟨rfl, rfl⟩
      cases hM : Pt.my x u wr
      · have HEN : Hid (enE t xs rows va u wr = .bad 2 (inf 0 wr)) := by show _ = _; rw [enE, HGE.out]; simp only [useE, hM, Bool.false_eq_true, if_false]
        have HJ : Hid (plE t xs rows va n u wr = .bad 2 (inf 0 wr)) := by show _ = _; rw [HPL0.out, HEN.out]
        have HR : Hid (plR t xs rows va u wr (keep && !pl) = rows) := by show _ = _; rw [HR0.out, enR, HEN.out]
        clear hM
        go_wp2_with fail
        refine (rfault_any 2 va 0 (inf 0 wr) wr _ ⟨.inl rfl, rfl⟩).mono ?_
        rintro e w9 ⟨rfl, hb9⟩
        obtain ⟨d0, d1, d2, e0, e1, e2⟩ := (((show Ft (w.alloc (.cells #[.int .i64 0, .int .u32 0, .int .u32 0] 50)) w.heap.size from HF.out)).below hb9).cells
        have hz9 := (((show Ft (w.alloc (.cells #[.int .i64 0, .int .u32 0, .int .u32 0] 50)) w.heap.size from HF.out)).below hb9).lt
        have HB9 := Lib.hid hb9
        clear hb9
        go_wp2
        refine bodyPost_ret (v := .tuple #[.int .u32 0, (Value.agg #[Value.int .i64 2, Value.int .u32 va, Value.int .u32 (inf 0 wr)])]) (by simp [results, Try.results45, go_sem, d0, d1, d2]) rfl (FnP.bad HJ.out ?_)
        (rw [HR.out]; have hb := Tl.bel2 (a := w) (by go_grown) HB9.out; exact ⟨T, H.out.mx.rf.below (by go_grown), Tl.Step.of_below (by go_grown)⟩)
      · go_wp2_with fail
        refine (Pt.rbit31 x HXU.out _).mono ?_
        rintro e w' ⟨rfl, rfl⟩
        cases hI : Pt.iv x
        · have HEN : Hid (enE t xs rows va u wr = .bad 3 (inf 0 wr)) := by show _ = _; rw [enE, HGE.out]; simp only [useE, hM, hI, Bool.false_eq_true, if_false, if_true]
          have HJ : Hid (plE t xs rows va n u wr = .bad 3 (inf 0 wr)) := by show _ = _; rw [HPL0.out, HEN.out]
          have HR : Hid (plR t xs rows va u wr (keep && !pl) = rows) := by show _ = _; rw [HR0.out, enR, HEN.out]
          clear hM hI
          go_wp2_with fail
          refine (rfault_any 3 va 0 (inf 0 wr) wr _ ⟨.inl rfl, rfl⟩).mono ?_
          rintro e w9 ⟨rfl, hb9⟩
          obtain ⟨d0, d1, d2, e0, e1, e2⟩ := (((show Ft (w.alloc (.cells #[.int .i64 0, .int .u32 0, .int .u32 0] 50)) w.heap.size from HF.out)).below hb9).cells
          have hz9 := (((show Ft (w.alloc (.cells #[.int .i64 0, .int .u32 0, .int .u32 0] 50)) w.heap.size from HF.out)).below hb9).lt
          have HB9 := Lib.hid hb9
          clear hb9
          go_wp2
          refine bodyPost_ret (v := .tuple #[.int .u32 0, (Value.agg #[Value.int .i64 3, Value.int .u32 va, Value.int .u32 (inf 0 wr)])]) (by simp [results, Try.results45, go_sem, d0, d1, d2]) rfl (FnP.bad HJ.out ?_)
          (rw [HR.out]; have hb := Tl.bel2 (a := w) (by go_grown) HB9.out; exact ⟨T, H.out.mx.rf.below (by go_grown), Tl.Step.of_below (by go_grown)⟩)
        · have HEN : Hid (enE t xs rows va u wr = .ok x) := by show _ = _; rw [enE, HGE.out]; simp only [useE, hM, hI, if_true]
          have HPL : Hid (plE t xs rows va n u wr = fitE xs (Pt.pl x va) n wr) := by show _ = _; rw [HPL0.out, HEN.out]
          have HR1 : Hid (plR t xs rows va u wr (keep && !pl) = if !Tl.hav rows (va / 512) && (keep && !pl) then Tl.putR rows (va / 512) x else rows) := by show _ = _; rw [HR0.out, enR, HEN.out]
          rw [HH.out] at HR1
          clear hM hI
          have HR : Hid (plR t xs rows va u wr (keep && !pl) = rows) := HR1.out
          go_wp2_with fail
          refine (Pt.rplace_any x va HXU.out HV.out _).mono ?_
          rintro e w' ⟨rfl, rfl⟩
          have HAU := Lib.hid (Pt.pl_U x va)
          generalize Pt.pl x va = a at HPL HAU
          by_cases hF : a + (n : Int) ≤ xs.length
          · have HJ : Hid (plE t xs rows va n u wr = .ok a) := by show _ = _; rw [HPL.out, fitE, if_pos hF]
            have HD := Lib.hid (decide_eq_true hF)
            clear hF
            go_wp2_with fail
            refine (there_any rh hr xs a n true _ (H.out.mem.below (by go_grown)) HAU.out HD.out).mono ?_
            rintro e w' ⟨rfl, rfl⟩
            obtain ⟨d0, d1, d2, e0, e1, e2⟩ := ((show Ft (w.alloc (.cells #[.int .i64 0, .int .u32 0, .int .u32 0] 50)) w.heap.size from HF.out)).cells
            go_wp2
            refine bodyPost_ret (v := .tuple #[.int .u32 a, (Value.agg #[Value.int .i64 0, Value.int .u32 0, Value.int .u32 0])]) (by simp [results, Try.results45, go_sem]) rfl (FnP.ok HJ.out ?_)
            (rw [HR.out]; exact ⟨T, H.out.mx.rf.below (by go_grown), Tl.Step.of_below (by go_grown)⟩)
          · have HJ : Hid (plE t xs rows va n u wr = .bad 1 (inf 0 wr)) := by show _ = _; rw [HPL.out, fitE, if_neg hF]
            have HD := Lib.hid (decide_eq_false hF)
            clear hF
            go_wp2_with fail
            refine (there_any rh hr xs a n false _ (H.out.mem.below (by go_grown)) HAU.out HD.out).mono ?_
            rintro e w' ⟨rfl, rfl⟩
            go_wp2_with fail
            refine (rfault_any 1 va 0 (inf 0 wr) wr _ ⟨.inl rfl, rfl⟩).mono ?_
            rintro e w9 ⟨rfl, hb9⟩
            obtain ⟨d0, d1, d2, e0, e1, e2⟩ := (((show Ft (w.alloc (.cells #[.int .i64 0, .int .u32 0, .int .u32 0] 50)) w.heap.size from HF.out)).below hb9).cells
            have hz9 := (((show Ft (w.alloc (.cells #[.int .i64 0, .int .u32 0, .int .u32 0] 50)) w.heap.size from HF.out)).below hb9).lt
            have HB9 := Lib.hid hb9
            clear hb9
            go_wp2
            refine bodyPost_ret (v := .tuple #[.int .u32 0, (Value.agg #[Value.int .i64 1, Value.int .u32 va, Value.int .u32 (inf 0 wr)])]) (by simp [results, Try.results45, go_sem, d0, d1, d2]) rfl (FnP.bad HJ.out ?_)
            (rw [HR.out]; have hb := Tl.bel2 (a := w) (by go_grown) HB9.out; exact ⟨T, H.out.mx.rf.below (by go_grown), Tl.Step.of_below (by go_grown)⟩)

end Go.Proofs.Ytfpdemlcmfaieaa.Cs
