/- Contracts of package mmu: place. -/
import Derived.Test.YtfpdemlcmfaieaaMEnt
namespace Go.Proofs.Ytfpdemlcmfaieaa.Cs
open Go.RowKit

/-- What place answers, and what is buffered behind it. -/
def PlP (t : Tabs) (xs : List Int) (rows : Rows) (tg : Nat) (S : Nat → Prop) (va n : Int) (u wr ah : Bool) (w : World) (e : Ending) (w' : World) : Prop :=
  (∃ S', Tl.Tb w' tg S' (plR t xs rows va u wr (!ah)) ∧ Tl.Step S S' w w') ∧
  match plE t xs rows va n u wr with
  | .ok a => e = .returned (.tuple #[.int .u32 a, (Value.agg #[Value.int .i64 0, Value.int .u32 0, Value.int .u32 0])])
  | .bad k i => e = .returned (.tuple #[.int .u32 0, (Value.agg #[Value.int .i64 k, Value.int .u32 va, Value.int .u32 i])])
section
variable {t : Tabs} {xs : List Int} {rows : Rows} {tg : Nat} {S S1 : Nat → Prop} {va n x k i : Int} {u wr ah : Bool} {w W w' : World}
theorem PlP.ok (h : plE t xs rows va n u wr = .ok x) (h' : ∃ S', Tl.Tb w' tg S' (plR t xs rows va u wr (!ah)) ∧ Tl.Step S S' w w') : PlP t xs rows tg S va n u wr ah w (.returned (.tuple #[.int .u32 x, (Value.agg #[Value.int .i64 0, Value.int .u32 0, Value.int .u32 0])])) w' := by
  unfold PlP; rw [h]; exact ⟨h', rfl⟩
theorem PlP.bad (h : plE t xs rows va n u wr = .bad k i) (h' : ∃ S', Tl.Tb w' tg S' (plR t xs rows va u wr (!ah)) ∧ Tl.Step S S' w w') : PlP t xs rows tg S va n u wr ah w (.returned (.tuple #[.int .u32 0, (Value.agg #[Value.int .i64 k, Value.int .u32 va, Value.int .u32 i])])) w' := by
  unfold PlP; rw [h]; exact ⟨h', rfl⟩
/-- The fault's block is stored into. -/
theorem fin3 {F : Nat} {a b c : Value} {rows' : Rows} (hT : Tl.Tb W tg S1 rows') (hs : Tl.Step S S1 w W) (hF : w.heap.size ≤ F) (hn : ¬ S1 F) :
    ∃ S', Tl.Tb (((W.setCell ⟨F, 0, none⟩ a).setCell ⟨F, 1, none⟩ b).setCell ⟨F, 2, none⟩ c) tg S' rows' ∧ Tl.Step S S' w (((W.setCell ⟨F, 0, none⟩ a).setCell ⟨F, 1, none⟩ b).setCell ⟨F, 2, none⟩ c) :=
  ⟨S1, tb_set (tb_set (tb_set hT hn _ _) hn _ _) hn _ _, ⟨((hs.mods.set _ (.inr hF)).set _ (.inr hF)).set _ (.inr hF), hs.grow⟩⟩
theorem fin3a {F : Nat} {a b c : Value} {rows' : Rows} {o : Obj} (hT : Tl.Tb W tg S1 rows') (hs : Tl.Step S S1 w W) (hF : w.heap.size ≤ F) (hn : ¬ S1 F) :
    ∃ S', Tl.Tb ((((W.setCell ⟨F, 0, none⟩ a).setCell ⟨F, 1, none⟩ b).setCell ⟨F, 2, none⟩ c).alloc o) tg S' rows' ∧ Tl.Step S S' w ((((W.setCell ⟨F, 0, none⟩ a).setCell ⟨F, 1, none⟩ b).setCell ⟨F, 2, none⟩ c).alloc o) := by
  obtain ⟨S', h1, h2⟩ := fin3 (a := a) (b := b) (c := c) hT hs hF hn
  exact ⟨S', h1.below (by go_grown), h2.trans (Tl.Step.of_below (by go_grown))⟩
end

set_option maxRecDepth 100000 in
set_option maxHeartbeats 1000000 in
theorem place_any (g rg tg r : Nat) (S : Nat → Prop) (t : Tabs) (rows : Rows) (xs : List Int) (va n : Int) (u wr ah : Bool) (w : World) (h : Mx w g rg tg S t rows) (hm : Rm.Mem w rg r xs) (hv : U va) (hn : 0 ≤ n) (hn' : n ≤ 512) :
    Calls Try.prog 64 #[(Value.pointer (some ⟨g, 0, none⟩)), .int .u32 va, .int .i64 n, (Value.agg #[Value.bool u, Value.bool wr, Value.bool ah])] w (PlP t xs rows tg S va n u wr ah w) := by
  have h5 := h.c5
  have h0 := h.c0
  have H := Lib.hid h
  have HM := Lib.hid hm
  have HVa := Lib.hid hv
  have hg := h.glt
  obtain ⟨v0, v1⟩ := hv
  obtain ⟨m, hlen⟩ : ∃ m, xs.length = m := ⟨_, rfl⟩
  have HLen := Lib.hid hlen
  have hl := hm.len
  rw [hlen] at hl
  by_cases hE : t.me = 0
  · rw [hE] at h5
    have HPL : Hid (plE t xs rows va n u wr = fitE xs va n wr) := by show _ = _; rw [plE, if_pos hE]
    have HR : Hid (plR t xs rows va u wr (!ah) = rows) := by show _ = _; rw [plR, if_pos hE]
    clear h hm hE hlen
    have HFR := Lib.hid (Fr.new (w := w) (u := u) (wr := wr) (ah := ah))
    obtain ⟨u0, u1, u2⟩ := HFR.out.uses
    have HM1 : Hid (Rm.Mem ((w.alloc (.cells #[.bool u, .bool wr, .bool ah] 99)).alloc (.cells #[.int .i64 0, .int .u32 0, .int .u32 0] 50)) rg r xs) := HM.out.below_ (by go_grown)
    go_enter Try.func64, Try.ntmps64
    go_wp2_with fail
    refine (Rm.size_of rg r m xs HLen.out _ HM1.out).mono ?_
    rintro e w' ⟨rfl, rfl⟩
    by_cases hF : va + n ≤ (m : Int)
    · have HJ : Hid (plE t xs rows va n u wr = .ok va) := by show _ = _; rw [HPL.out, fitE, HLen.out, if_pos hF]
      have hF' : ¬ (m : Int) < va + n := by omega
      obtain ⟨c0, c1, c2, f0, f1, f2⟩ := HFR.out.flts
      clear hF u0 u1 u2
      go_wp2
      exact bodyPost_ret (v := .tuple #[.int .u32 va, (Value.agg #[Value.int .i64 0, Value.int .u32 0, Value.int .u32 0])]) (by simp [results, Try.results64, go_sem, c0, c1, c2]) rfl (PlP.ok HJ.out (by rw [HR.out]; exact ⟨S, H.out.tb.below (by go_grown), Tl.Step.of_below (by go_grown)⟩))
    · have HJ : Hid (plE t xs rows va n u wr = .bad 1 (inf 0 wr)) := by show _ = _; rw [HPL.out, fitE, HLen.out, if_neg hF]
      have hF' : (m : Int) < va + n := by omega
      clear hF
      go_wp2_with fail
      refine (fault_any u wr ah 1 va 0 (inf 0 wr) _ ⟨.inl rfl, rfl⟩).mono ?_
      rintro e w5 ⟨rfl, hb5⟩
      obtain ⟨c0, c1, c2, f0, f1, f2⟩ := ((HFR.out.below (by go_grown)).below hb5).flts
      have HB5 := Lib.hid hb5
      clear hb5 u0 u1 u2
      go_wp2
      exact bodyPost_ret (v := .tuple #[.int .u32 0, (Value.agg #[Value.int .i64 1, Value.int .u32 va, Value.int .u32 (inf 0 wr)])]) (by simp [results, Try.results64, go_sem, c0, c1, c2]) rfl (PlP.bad HJ.out (by rw [HR.out]; have hb := Tl.bel2 (a := w) (by go_grown) HB5.out; exact ⟨S, H.out.tb.below (by go_grown), Tl.Step.of_below (by go_grown)⟩))
  · have hE' : (t.me != 0) = true := by simpa using hE
    have HPL0 : Hid (plE t xs rows va n u wr = match enE t xs rows va u wr with | .ok x => fitE xs (Pt.pl x va) n wr | .bad k i => .bad k i) := by show _ = _; rw [plE, if_neg hE]; rfl
    have HR : Hid (plR t xs rows va u wr (!ah) = enR t xs rows va u wr (!ah)) := by show _ = _; rw [plR, if_neg hE]
    generalize t.me = me at h5 hE'
    clear h hm hE hlen
    go_enter Try.func64, Try.ntmps64
    go_wp2_with fail
    refine (entry_any g rg tg r S t rows xs va u wr ah _ (H.out.below (by go_grown)) (HM.out.below_ (by go_grown)) HVa.out).mono ?_
    intro e w1 hP
    unfold EnP at hP
    have hlo := H.out.tb.lo
    cases hen : enE t xs rows va u wr with
    | bad k i =>
      rw [hen] at hP
      obtain ⟨rfl, hb1⟩ := hP
      have HJ : Hid (plE t xs rows va n u wr = .bad k i) := by show _ = _; rw [HPL0.out, hen]
      have HR' : Hid (plR t xs rows va u wr (!ah) = rows) := by show _ = _; rw [HR.out, enR, hen]
      have hk := (enE_bad hen).1
      have hk' : (k != 0) = true := by simp; omega
      have hb := Tl.bel2 (a := w) (by go_grown) hb1
      have hz := (Fr.new.below hb1).lt
      obtain ⟨c0, c1, c2, f0, f1, f2⟩ := (Fr.new.below hb1).flts
      clear hb1 hen hk hlo
      go_wp2
      go_region
      go_wp2
      exact bodyPost_ret (v := .tuple #[.int .u32 0, (Value.agg #[Value.int .i64 k, Value.int .u32 va, Value.int .u32 i])]) (by simp [results, Try.results64, go_sem, c0, c1, c2, hz]) rfl (PlP.bad HJ.out (by rw [HR'.out]; exact ⟨S, H.out.tb.below (by go_grown), Tl.Step.of_below (by go_grown)⟩))
    | ok x =>
      rw [hen] at hP
      obtain ⟨rfl, S1, hT1, hs1⟩ := hP
      have HXU := Lib.hid (enE_U HM.out.byt H.out.tb.fit hen)
      have HPL : Hid (plE t xs rows va n u wr = fitE xs (Pt.pl x va) n wr) := by show _ = _; rw [HPL0.out, hen]
      have HFR := Lib.hid (Fr.new.mods hs1.mods (fun e => by have := hlo _ e; omega) (fun e => by have := hlo _ e; omega))
      have HS := Lib.hid ((Tl.Step.of_below (S := S) (w := w) (by go_grown)).trans hs1)
      have HN1 : Hid (¬ S1 (w.heap.size + 1)) := fun e => by
        rcases hs1.grow _ e with e | e
        · have := hlo _ e; omega
        · simp at e; omega
      have HTb := Lib.hid hT1
      have HMx := Lib.hid ((H.out.below (by go_grown)).turn hT1 hs1)
      have HM0 := Lib.hid (mem_tb (HM.out.below_ (by go_grown)) (H.out.tb.below (by go_grown)) hs1.mods)
      have hp0 := HMx.out.c0
      have hg1 := HMx.out.glt
      have hz1 := HFR.out.lt
      have hz0 : w.heap.size < w1.heap.size := by omega
      clear hT1 hs1 hen HPL0 hlo h0
      obtain ⟨u0, u1, u2⟩ := HFR.out.uses
      go_wp2_with fail
      refine (Pt.place_as x va (Pt.pl x va) HXU.out HVa.out rfl _).mono ?_
      rintro e w' ⟨rfl, rfl⟩
      obtain ⟨p0, p1⟩ := Pt.pl_U x va
      generalize Pt.pl x va = a at p0 p1 HPL
      have HM1 : Hid (Rm.Mem (w1.alloc (.cells #[.int .i64 0, .int .u32 0, .int .u32 0] 50)) rg r xs) := HM0.out.below_ (by go_grown)
      go_wp2_with fail
      refine (Rm.size_of rg r m xs HLen.out _ HM1.out).mono ?_
      rintro e w' ⟨rfl, rfl⟩
      by_cases hF : a + n ≤ (m : Int)
      · have HJ : Hid (plE t xs rows va n u wr = .ok a) := by show _ = _; rw [HPL.out, fitE, HLen.out, if_pos hF]
        have hF' : ¬ (m : Int) < a + n := by omega
        obtain ⟨c0, c1, c2, f0, f1, f2⟩ := HFR.out.flts
        clear hF u0 u1 u2
        go_wp2
        exact bodyPost_ret (v := .tuple #[.int .u32 a, (Value.agg #[Value.int .i64 0, Value.int .u32 0, Value.int .u32 0])]) (by simp [results, Try.results64, go_sem, c0, c1, c2, hz1]) rfl (PlP.ok HJ.out (by rw [HR.out]; exact fin3a HTb.out HS.out (by omega) HN1.out))
      · have HJ : Hid (plE t xs rows va n u wr = .bad 1 (inf 0 wr)) := by show _ = _; rw [HPL.out, fitE, HLen.out, if_neg hF]
        have hF' : (m : Int) < a + n := by omega
        clear hF
        go_wp2_with fail
        refine (fault_any u wr ah 1 va 0 (inf 0 wr) _ ⟨.inl rfl, rfl⟩).mono ?_
        rintro e w5 ⟨rfl, hb5⟩
        obtain ⟨c0, c1, c2, f0, f1, f2⟩ := ((HFR.out.below (by go_grown)).below hb5).flts
        have HB5 := Lib.hid hb5
        clear hb5 u0 u1 u2
        go_wp2
        exact bodyPost_ret (v := .tuple #[.int .u32 0, (Value.agg #[Value.int .i64 1, Value.int .u32 va, Value.int .u32 (inf 0 wr)])]) (by simp [results, Try.results64, go_sem, c0, c1, c2]) rfl (PlP.bad HJ.out (by rw [HR.out]; exact fin3 (HTb.out.below (Tl.bel2 (by go_grown) HB5.out)) (HS.out.trans (Tl.Step.of_below (Tl.bel2 (by go_grown) HB5.out))) (by omega) HN1.out))

end Go.Proofs.Ytfpdemlcmfaieaa.Cs
