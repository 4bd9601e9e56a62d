/- Contracts of package mmu: stands, fault, read, entry, place. -/
import Derived.Test.YtfpdemlcmfaieaaMMem
import Derived.WalkKit
import Derived.WalkLawsBesides
import Derived.Outline
import Derived.Handy
import Derived.OpenShut
namespace Go.Proofs.Ytfpdemlcmfaieaa.Cs
open Go.RowKit

theorem and_sys {va : Int} (h : U va) : (bits .and .u32 va 2147483648 != 0) = sys va := Pt.and_valid h
theorem and_now {va : Int} (h : U va) : (bits .and .u32 va 1073741824 == 0) = (va / 1073741824 % 2 == 0) := by
  obtain ⟨h0, h1⟩ := h
  rw [u32_and _ _ h0 h1 (by omega) (by omega)]
  show ((((va.toNat &&& 2 ^ 30 : Nat) : Int)) == 0) = _
  rw [nat_bit]
  have : va / 1073741824 % 2 = 1 ∨ va / 1073741824 % 2 = 0 := by omega
  rcases this with h | h
  · rw [h, show va.toNat / 2 ^ 30 % 2 = 1 by omega]; rfl
  · rw [h, show va.toNat / 2 ^ 30 % 2 = 0 by omega]; rfl

set_option maxHeartbeats 400000 in
theorem stands_any (g rg tg : Nat) (S : Nat → Prop) (t : Tabs) (rows : Rows) (va : Int) (w : World) (h : Mx w g rg tg S t rows) (hv : U va) :
    Calls Try.prog 68 #[.pointer (some ⟨g, 0, none⟩), .int .u32 va] w fun e w' => e = .returned (.tuple #[.int .u32 (epl t va), .bool (ein t va)]) ∧ Below w.heap.size w w' := by
  have h1 := h.c1
  have h2 := h.c2
  have h3 := h.c3
  have h4 := h.c4
  have hs := and_sys hv
  have hn := and_now hv
  obtain ⟨v0, v1⟩ := hv
  obtain ⟨⟨b0, b1⟩, ⟨b2, b3⟩, ⟨b4, b5⟩, ⟨b6, b7⟩, _⟩ := h.ok
  have HS : Hid (epl t va = ((if sys va then t.sb else t.pb) + 4 * (va / 512 % 2097152)) % 4294967296) := rfl
  have HN : Hid (ein t va = (va / 1073741824 % 2 == 0 && decide (va / 512 % 2097152 < (if sys va then t.sn else t.pn)))) := rfl
  generalize epl t va = E at HS ⊢
  generalize ein t va = I at HN ⊢
  clear h
  cases hS : sys va <;> cases hN : (va / 1073741824 % 2 == 0)
  all_goals
    rw [hS] at hs HS HN
    rw [hN] at hn HN
    simp only [if_true, Bool.false_eq_true, if_false, Bool.false_and, Bool.true_and] at HS HN
    clear hS hN
    go_enter Try.func68, Try.ntmps68
    go_wp2
    go_region
    go_wp2
    try (go_region; go_wp2)
    go_ret2
    exact ⟨by rw [HS.out, HN.out]; rfl, by first | exact (Below.refl _ _).drew | exact (Below.refl _ _).drew.drew⟩
theorem stands_as (g rg tg : Nat) (S : Nat → Prop) (t : Tabs) (rows : Rows) (va a : Int) (b : Bool) (w : World) (h : Mx w g rg tg S t rows) (hv : U va) (ha : epl t va = a) (hb : ein t va = b) :
    Calls Try.prog 68 #[(Value.pointer (some ⟨g, 0, none⟩)), .int .u32 va] w fun e w' => e = .returned (.tuple #[.int .u32 a, .bool b]) ∧ Below w.heap.size w w' := by
  subst ha hb
  exact stands_any g rg tg S t rows va w h hv

set_option maxHeartbeats 400000 in
theorem fault_any (u wr ah : Bool) (k va i j : Int) (w : World) (h : (i = 0 ∨ i = 1) ∧ inf i wr = j) :
    Calls Try.prog 76 #[(Value.agg #[Value.bool u, Value.bool wr, Value.bool ah]), .int .i64 k, .int .u32 va, .int .u32 i] w fun e w' => e = .returned ((Value.agg #[Value.int .i64 k, Value.int .u32 va, Value.int .u32 j])) ∧ Below w.heap.size w w' := by
  obtain ⟨h, rfl⟩ := h
  rcases h with rfl | rfl <;> cases wr
  all_goals
    go_enter Try.func76, Try.ntmps76
    go_wp2
    go_returns
    exact ⟨rfl, by go_grown⟩

theorem bcell {W w1 : World} (hb : Below W.heap.size W w1) : (∀ b o, b < W.heap.size → w1.cell? ⟨b, o, none⟩ = W.cell? ⟨b, o, none⟩) ∧ (∀ b o, b < W.heap.size → w1.frozen? ⟨b, o, none⟩ = W.frozen? ⟨b, o, none⟩) :=
  ⟨fun b o h => hb.cell (p := ⟨b, o, none⟩) h, fun b o h => hb.frozen (p := ⟨b, o, none⟩) h⟩

set_option maxHeartbeats 400000 in
theorem read_ok (g rg tg r : Nat) (S : Nat → Prop) (t : Tabs) (rows : Rows) (xs : List Int) (va x : Int) (u wr ah : Bool) (w : World) (h : Mx w g rg tg S t rows) (hm : Rm.Mem w rg r xs) (hv : U va) (hE : rdE t xs va wr = .ok x) :
    Calls Try.prog 77 #[(Value.pointer (some ⟨g, 0, none⟩)), .int .u32 va, (Value.agg #[Value.bool u, Value.bool wr, Value.bool ah])] w fun e w' => e = .returned (.tuple #[.int .u32 x, (Value.agg #[Value.int .i64 0, Value.int .u32 0, Value.int .u32 0])]) ∧ Below w.heap.size w w' := by
  obtain ⟨e1, e2, rfl, _⟩ := rdE_ok hm.byt hE
  have h0 := h.c0
  have H := Lib.hid h
  have HM := Lib.hid hm
  have HV := Lib.hid hv
  have hg := h.glt
  obtain ⟨a0, a1⟩ := epl_U t va
  have HI := Lib.hid e1
  obtain ⟨a, ha⟩ : ∃ a, epl t va = a := ⟨_, rfl⟩
  rw [ha] at a0 a1 e2
  have HA := Lib.hid ha
  have HN : Hid (a = a.toNat) := by show _ = _; omega
  have HF : Hid (a.toNat + 4 ≤ xs.length) := by show _ ≤ _; omega
  rw [ha]
  generalize a.toNat = n at HN HF ⊢
  clear h hm hv hE e1 ha e2 a0 a1
  go_enter Try.func77, Try.ntmps77
  go_wp2_with fail
  refine (stands_as g rg tg S t rows va a true _ (H.out.below (by go_grown)) HV.out HA.out HI.out).mono ?_
  rintro e w1 ⟨rfl, hb1⟩
  obtain ⟨hc, hf⟩ := bcell hb1
  have hb := Tl.bel2 (a := w) (by go_grown) hb1
  have hz : w.heap.size + 1 < w1.heap.size := by have := hb1.size; simp at this; omega
  have hc0 := (H.out.below hb).c0
  have HB := Lib.hid hb
  clear hb hb1
  go_wp2_with fail
  refine (Rm.get_at rg r xs a n 4 HN.out w1 (HM.out.below_ HB.out) 4 rfl (by omega) HF.out).mono ?_
  rintro e w2 ⟨rfl, rfl⟩
  go_wp2
  have hb := HB.out
  exact bodyPost_ret (v := .tuple #[.int .u32 (Rm.val xs n 4), (Value.agg #[Value.int .i64 0, Value.int .u32 0, Value.int .u32 0])]) (by simp [results, Try.results77, go_sem, hc]) rfl ⟨rfl, by go_grown⟩

set_option maxHeartbeats 400000 in
theorem read_bad (g rg tg r : Nat) (S : Nat → Prop) (t : Tabs) (rows : Rows) (xs : List Int) (va k i : Int) (u wr ah : Bool) (w : World) (h : Mx w g rg tg S t rows) (hm : Rm.Mem w rg r xs) (hv : U va) (hE : rdE t xs va wr = .bad k i) :
    Calls Try.prog 77 #[(Value.pointer (some ⟨g, 0, none⟩)), .int .u32 va, (Value.agg #[Value.bool u, Value.bool wr, Value.bool ah])] w fun e w' => e = .returned (.tuple #[.int .u32 0, (Value.agg #[Value.int .i64 k, Value.int .u32 va, Value.int .u32 i])]) ∧ Below w.heap.size w w' := by
  have h0 := h.c0
  have H := Lib.hid h
  have HM := Lib.hid hm
  have HV := Lib.hid hv
  have hg := h.glt
  have HAU := Lib.hid (epl_U t va)
  unfold rdE at hE
  obtain ⟨a, ha⟩ : ∃ a, epl t va = a := ⟨_, rfl⟩
  rw [ha] at hE HAU
  have HA := Lib.hid ha
  split at hE
  · rename_i hI
    split at hE
    · cases hE
    · rename_i hN
      injection hE with e1 e2
      subst e1
      have HI := Lib.hid hI
      have HJ := Lib.hid e2
      have HN := Lib.hid hN
      clear h hm hv hI ha hN e2
      go_enter Try.func77, Try.ntmps77
      go_wp2_with fail
      refine (stands_as g rg tg S t rows va a true _ (H.out.below (by go_grown)) HV.out HA.out HI.out).mono ?_
      rintro e w1 ⟨rfl, hb1⟩
      obtain ⟨hc, hf⟩ := bcell hb1
      have hb := Tl.bel2 (a := w) (by go_grown) hb1
      have hz : w.heap.size + 1 < w1.heap.size := by have := hb1.size; simp at this; omega
      have hc0 := (H.out.below hb).c0
      have HB := Lib.hid hb
      clear hb hb1
      go_wp2_with fail
      refine (Rm.get_not rg r xs a 4 w1 (HM.out.below_ HB.out) HAU.out.1 HAU.out.2 (by have := HN.out; omega)).mono ?_
      rintro e w2 ⟨rfl, rfl⟩
      go_wp2_with fail
      refine (fault_any u wr ah 1 va 0 i _ ⟨.inl rfl, HJ.out⟩).mono ?_
      rintro e w2 ⟨rfl, hb2⟩
      obtain ⟨hc2, hf2⟩ := bcell hb2
      have hb := Tl.bel2 HB.out hb2
      clear hb2
      go_wp2
      exact bodyPost_ret (v := .tuple #[.int .u32 0, (Value.agg #[Value.int .i64 1, Value.int .u32 va, Value.int .u32 i])]) (by simp [results, Try.results77, go_sem, hc2, hc, hz]) rfl ⟨rfl, by go_grown⟩
  · rename_i hI
    injection hE with e1 e2
    subst e1
    have HI : Hid (ein t va = false) := by show _ = _; simpa using hI
    have HJ := Lib.hid e2
    clear h hm hv hI ha e2
    go_enter Try.func77, Try.ntmps77
    go_wp2_with fail
    refine (stands_as g rg tg S t rows va a false _ (H.out.below (by go_grown)) HV.out HA.out HI.out).mono ?_
    rintro e w1 ⟨rfl, hb1⟩
    obtain ⟨hc, hf⟩ := bcell hb1
    have hb := Tl.bel2 (a := w) (by go_grown) hb1
    have hz : w.heap.size + 1 < w1.heap.size := by have := hb1.size; simp at this; omega
    have HB := Lib.hid hb
    clear hb hb1
    go_wp2_with fail
    refine (fault_any u wr ah 2 va 1 i _ ⟨.inr rfl, HJ.out⟩).mono ?_
    rintro e w2 ⟨rfl, hb2⟩
    obtain ⟨hc2, hf2⟩ := bcell hb2
    have hb := Tl.bel2 HB.out hb2
    clear hb2
    go_wp2
    exact bodyPost_ret (v := .tuple #[.int .u32 0, (Value.agg #[Value.int .i64 2, Value.int .u32 va, Value.int .u32 i])]) (by simp [results, Try.results77, go_sem, hc2, hc, hz]) rfl ⟨rfl, by go_grown⟩

/-- A function's own blocks: who asks for what, and the fault that it will answer. -/
structure Fr (n : Nat) (u wr ah : Bool) (W : World) : Prop where
  us : W.heap[n]? = some (.cells #[.bool u, .bool wr, .bool ah] 99 (0, 0))
  fl : W.heap[n + 1]? = some (.cells #[.int .i64 0, .int .u32 0, .int .u32 0] 50 (0, 0))
section
variable {n : Nat} {u wr ah : Bool} {w W W' : World} {S : Nat → Prop}
theorem Fr.new : Fr w.heap.size u wr ah ((w.alloc (.cells #[.bool u, .bool wr, .bool ah] 99)).alloc (.cells #[.int .i64 0, .int .u32 0, .int .u32 0] 50)) :=
  ⟨(Below.heap_alloc _ _ _ (by simp)).trans (heap_alloc_new _ _), by simpa using heap_alloc_new (w.alloc (.cells #[.bool u, .bool wr, .bool ah] 99)) (.cells #[.int .i64 0, .int .u32 0, .int .u32 0] 50)⟩
theorem Fr.lt (h : Fr n u wr ah W) : n + 1 < W.heap.size := Tl.lt_of_heap h.fl
theorem Fr.below (h : Fr n u wr ah W) (b : Below W.heap.size W W') : Fr n u wr ah W' :=
  ⟨(b.block _ (Tl.lt_of_heap h.us)).trans h.us, (b.block _ h.lt).trans h.fl⟩
theorem Fr.mods (h : Fr n u wr ah W) (b : Tl.Mods S W W') (h0 : ¬ S n) (h1 : ¬ S (n + 1)) : Fr n u wr ah W' :=
  ⟨(b.block _ (Tl.lt_of_heap h.us) h0).trans h.us, (b.block _ h.lt h1).trans h.fl⟩
theorem Fr.uses (h : Fr n u wr ah W) : W.cell? ⟨n, 0, none⟩ = some (.bool u) ∧ W.cell? ⟨n, 1, none⟩ = some (.bool wr) ∧ W.cell? ⟨n, 2, none⟩ = some (.bool ah) := by
  rw [cell_of_row W n 0 _ _ _ h.us, cell_of_row W n 1 _ _ _ h.us, cell_of_row W n 2 _ _ _ h.us]; exact ⟨rfl, rfl, rfl⟩
theorem Fr.flts (h : Fr n u wr ah W) : W.cell? ⟨n + 1, 0, none⟩ = some (.int .i64 0) ∧ W.cell? ⟨n + 1, 1, none⟩ = some (.int .u32 0) ∧ W.cell? ⟨n + 1, 2, none⟩ = some (.int .u32 0) ∧
    W.frozen? ⟨n + 1, 0, none⟩ = false ∧ W.frozen? ⟨n + 1, 1, none⟩ = false ∧ W.frozen? ⟨n + 1, 2, none⟩ = false := by
  rw [cell_of_row W _ 0 _ _ _ h.fl, cell_of_row W _ 1 _ _ _ h.fl, cell_of_row W _ 2 _ _ _ h.fl]
  exact ⟨rfl, rfl, rfl, frozen_of_row W _ 0 _ _ h.fl, frozen_of_row W _ 1 _ _ h.fl, frozen_of_row W _ 2 _ _ h.fl⟩
end
/-- Stores into the fault's block leave all else. -/
theorem tb_set {w : World} {g F : Nat} {S : Nat → Prop} {rows : Rows} (h : Tl.Tb w g S rows) (hF : ¬ S F) (o : Nat) (v : Value) : Tl.Tb (w.setCell ⟨F, o, none⟩ v) g S rows :=
  h.keep fun k hk => Below.heap_setCell _ _ _ _ (by rintro rfl; exact hF hk)

/-- What entry answers, and what is buffered behind it. -/
def EnP (t : Tabs) (xs : List Int) (rows : Rows) (tg : Nat) (S : Nat → Prop) (va : Int) (u wr ah : Bool) (w : World) (e : Ending) (w' : World) : Prop :=
  match enE t xs rows va u wr with
  | .ok x => e = .returned (.tuple #[.int .u32 x, (Value.agg #[Value.int .i64 0, Value.int .u32 0, Value.int .u32 0])]) ∧ ∃ S', Tl.Tb w' tg S' (enR t xs rows va u wr (!ah)) ∧ Tl.Step S S' w w'
  | .bad k i => e = .returned (.tuple #[.int .u32 0, (Value.agg #[Value.int .i64 k, Value.int .u32 va, Value.int .u32 i])]) ∧ Below w.heap.size w w'
section
variable {t : Tabs} {xs : List Int} {rows : Rows} {tg : Nat} {S : Nat → Prop} {va x k i : Int} {u wr ah : Bool} {w w' : World}
theorem EnP.ok (h : enE t xs rows va u wr = .ok x) (h' : ∃ S', Tl.Tb w' tg S' (enR t xs rows va u wr (!ah)) ∧ Tl.Step S S' w w') : EnP t xs rows tg S va u wr ah w (.returned (.tuple #[.int .u32 x, (Value.agg #[Value.int .i64 0, Value.int .u32 0, Value.int .u32 0])])) w' := by
  unfold EnP; rw [h]; exact ⟨rfl, h'⟩
theorem EnP.bad (h : enE t xs rows va u wr = .bad k i) (h' : Below w.heap.size w w') : EnP t xs rows tg S va u wr ah w (.returned (.tuple #[.int .u32 0, (Value.agg #[Value.int .i64 k, Value.int .u32 va, Value.int .u32 i])])) w' := by
  unfold EnP; rw [h]; exact ⟨rfl, h'⟩
end

set_option maxRecDepth 100000 in
set_option maxHeartbeats 1000000 in
theorem entry_any (g rg tg r : Nat) (S : Nat → Prop) (t : Tabs) (rows : Rows) (xs : List Int) (va : Int) (u wr ah : Bool) (w : World) (h : Mx w g rg tg S t rows) (hm : Rm.Mem w rg r xs) (hv : U va) :
    Calls Try.prog 73 #[(Value.pointer (some ⟨g, 0, none⟩)), .int .u32 va, (Value.agg #[Value.bool u, Value.bool wr, Value.bool ah])] w (EnP t xs rows tg S va u wr ah w) := by
  have h6 := h.c6
  have H := Lib.hid h
  have HM := Lib.hid hm
  have HVa := Lib.hid hv
  have HP := Lib.hid (page_U hv)
  have hg := h.glt
  obtain ⟨v0, v1⟩ := hv
  cases hV : Tl.hav rows (va / 512)
  · have HV := Lib.hid hV
    have HX := Lib.hid (Tl.ent_out (fun e => by rw [Tl.hav, decide_eq_true e] at hV; cases hV) : Tl.ent rows (va / 512) = 0)
    clear h hm hV
    go_enter Try.func73, Try.ntmps73
    go_wp2_with fail
    refine (Tl.get_as tg S rows (va / 512) 0 false _ (H.out.tb.below (by go_grown)) HX.out HV.out).mono ?_
    rintro e w1 ⟨rfl, hb1⟩
    have HF1 := Lib.hid (Fr.new.below hb1)
    have HB1 := Lib.hid (Tl.bel2 (a := w) (by go_grown) hb1)
    obtain ⟨u0, u1, u2⟩ := HF1.out.uses
    clear hb1 h6
    cases hR : rdE t xs va wr with
    | bad k i =>
      have HR := Lib.hid hR
      have HJ : Hid (enE t xs rows va u wr = .bad k i) := by show _ = _; rw [enE, getE, HV.out, hR]; rfl
      have hk := (rdE_bad hR).1
      have hk' : (k != 0) = true := by simp; omega
      clear hR hk
      go_wp2_with fail
      refine (read_bad g rg tg r S t rows xs va k i u wr ah _ (H.out.below HB1.out) (HM.out.below_ HB1.out) HVa.out HR.out).mono ?_
      rintro e w2 ⟨rfl, hb2⟩
      have hb := Tl.bel2 HB1.out hb2
      have hz := (HF1.out.below hb2).lt
      obtain ⟨c0, c1, c2, f0, f1, f2⟩ := (HF1.out.below hb2).flts
      clear hb2 u0 u1 u2
      go_wp2
      go_region
      go_wp2
      exact bodyPost_ret (v := .tuple #[.int .u32 0, (Value.agg #[Value.int .i64 k, Value.int .u32 va, Value.int .u32 i])]) (by simp [results, Try.results73, go_sem, c0, c1, c2, hz]) rfl (EnP.bad HJ.out (by go_grown))
    | ok x =>
      have HR := Lib.hid hR
      have HEN : Hid (enE t xs rows va u wr = useE x u wr) := by show _ = _; rw [enE, getE, HV.out, hR]; rfl
      have HXU := Lib.hid (rdE_ok HM.out.byt hR).2.2.2
      clear hR
      go_wp2_with fail
      refine (read_ok g rg tg r S t rows xs va x u wr ah _ (H.out.below HB1.out) (HM.out.below_ HB1.out) HVa.out HR.out).mono ?_
      rintro e w2 ⟨rfl, hb2⟩
      have hb := Tl.bel2 HB1.out hb2
      have HFR := Lib.hid (HF1.out.below hb2)
      have h6 := (H.out.below hb).c6
      have hg2 := (H.out.below hb).glt
      have hz1 := HFR.out.lt
      have hz0 : w.heap.size < w2.heap.size := by omega
      clear HR hb2 u0 u1 u2
      obtain ⟨u0, u1, u2⟩ := HFR.out.uses
      go_wp2_with fail
      refine (Pt.may_as x u wr (Pt.my x u wr) HXU.out rfl _).mono ?_
      rintro e w' ⟨rfl, rfl⟩
      cases hM : Pt.my x u wr
      · have HJ : Hid (enE t xs rows va u wr = .bad 2 (inf 0 wr)) := by show _ = _; rw [HEN.out, useE, hM]; rfl
        clear hM
        go_wp2_with fail
        refine (fault_any u wr ah 2 va 0 (inf 0 wr) _ ⟨.inl rfl, rfl⟩).mono ?_
        rintro e w5 ⟨rfl, hb5⟩
        obtain ⟨c0, c1, c2, f0, f1, f2⟩ := ((HFR.out.below (by go_grown)).below hb5).flts
        have hb := Tl.bel2 (a := w) (by go_grown) hb5
        clear hb5 u0 u1 u2
        go_wp2
        exact bodyPost_ret (v := .tuple #[.int .u32 0, (Value.agg #[Value.int .i64 2, Value.int .u32 va, Value.int .u32 (inf 0 wr)])]) (by simp [results, Try.results73, go_sem, c0, c1, c2]) rfl (EnP.bad HJ.out (by go_grown))
      · go_wp2_with fail
        refine (Pt.is_as x (Pt.iv x) HXU.out rfl _).mono ?_
        rintro e w' ⟨rfl, rfl⟩
        cases hI : Pt.iv x
        · have HJ : Hid (enE t xs rows va u wr = .bad 3 (inf 0 wr)) := by show _ = _; rw [HEN.out, useE, hM, hI]; rfl
          clear hM hI
          go_wp2_with fail
          refine (fault_any u wr ah 3 va 0 (inf 0 wr) _ ⟨.inl rfl, rfl⟩).mono ?_
          rintro e w5 ⟨rfl, hb5⟩
          obtain ⟨c0, c1, c2, f0, f1, f2⟩ := ((HFR.out.below (by go_grown)).below hb5).flts
          have hb := Tl.bel2 (a := w) (by go_grown) hb5
          clear hb5 u0 u1 u2
          go_wp2
          exact bodyPost_ret (v := .tuple #[.int .u32 0, (Value.agg #[Value.int .i64 3, Value.int .u32 va, Value.int .u32 (inf 0 wr)])]) (by simp [results, Try.results73, go_sem, c0, c1, c2]) rfl (EnP.bad HJ.out (by go_grown))
        · have HJ : Hid (enE t xs rows va u wr = .ok x) := by show _ = _; rw [HEN.out, useE, hM, hI]; rfl
          have HR : Hid (enR t xs rows va u wr (!ah) = if !Tl.hav rows (va / 512) && !ah then Tl.putR rows (va / 512) x else rows) := by show _ = _; rw [enR, HJ.out]
          rw [HV.out] at HR
          clear hM hI
          cases ah
          · go_wp2_with fail
            refine (Tl.put_any tg S rows (va / 512) x _ (H.out.tb.below (by go_grown)) HP.out HXU.out).mono ?_
            rintro e w5 ⟨rfl, S5, hT5, hs5⟩
            have hlo := H.out.tb.lo
            obtain ⟨c0, c1, c2, f0, f1, f2⟩ := ((HFR.out.below (by go_grown)).mods hs5.mods (fun e => by have := hlo _ e; omega) (fun e => by have := hlo _ e; omega)).flts
            have HS5 := Lib.hid ((Tl.Step.of_below (S := S) (w := w) (by go_grown)).trans hs5)
            have HN5 : Hid (¬ S5 (w.heap.size + 1)) := fun e => by
              rcases hs5.grow _ e with e | e
              · have := hlo _ e; omega
              · simp at e; omega
            have HTb := Lib.hid hT5
            clear hs5 hT5 hlo u0 u1 u2
            go_wp2
            refine bodyPost_ret (v := .tuple #[.int .u32 x, (Value.agg #[Value.int .i64 0, Value.int .u32 0, Value.int .u32 0])]) (by simp [results, Try.results73, go_sem, c0, c1, c2]) rfl (EnP.ok HJ.out ⟨S5, ?_, ⟨((HS5.out.mods.set _ (.inr (by simp))).set _ (.inr (by simp))).set _ (.inr (by simp)), HS5.out.grow⟩⟩)
            rw [HR.out]
            exact tb_set (tb_set (tb_set HTb.out HN5.out _ _) HN5.out _ _) HN5.out _ _
          · obtain ⟨c0, c1, c2, f0, f1, f2⟩ := HFR.out.flts
            go_wp2
            exact bodyPost_ret (v := .tuple #[.int .u32 x, (Value.agg #[Value.int .i64 0, Value.int .u32 0, Value.int .u32 0])]) (by simp [results, Try.results73, go_sem, c0, c1, c2, hz1]) rfl (EnP.ok HJ.out ⟨S, by rw [HR.out]; exact H.out.tb.below (by go_grown), Tl.Step.of_below (by go_grown)⟩)
  · have HV := Lib.hid hV
    obtain ⟨x, hx⟩ : ∃ x, Tl.ent rows (va / 512) = x := ⟨_, rfl⟩
    have HXU := Lib.hid (hx ▸ ent_U h.tb.fit (va / 512) : U x)
    have HX := Lib.hid hx
    have HEN : Hid (enE t xs rows va u wr = useE x u wr) := by show _ = _; rw [enE, getE, hV, hx]; rfl
    clear h hm hV hx
    go_enter Try.func73, Try.ntmps73
    go_wp2_with fail
    refine (Tl.get_as tg S rows (va / 512) x true _ (H.out.tb.below (by go_grown)) HX.out HV.out).mono ?_
    rintro e w1 ⟨rfl, hb1⟩
    have HFR := Lib.hid (Fr.new.below hb1)
    have hb := Tl.bel2 (a := w) (by go_grown) hb1
    obtain ⟨u0, u1, u2⟩ := HFR.out.uses
    clear hb1 h6
    go_wp2_with fail
    refine (Pt.may_as x u wr (Pt.my x u wr) HXU.out rfl _).mono ?_
    rintro e w' ⟨rfl, rfl⟩
    cases hM : Pt.my x u wr
    · have HJ : Hid (enE t xs rows va u wr = .bad 2 (inf 0 wr)) := by show _ = _; rw [HEN.out, useE, hM]; rfl
      clear hM
      go_wp2_with fail
      refine (fault_any u wr ah 2 va 0 (inf 0 wr) _ ⟨.inl rfl, rfl⟩).mono ?_
      rintro e w5 ⟨rfl, hb5⟩
      obtain ⟨c0, c1, c2, f0, f1, f2⟩ := ((HFR.out.below (by go_grown)).below hb5).flts
      have hb := Tl.bel2 (a := w) (by go_grown) hb5
      clear hb5 u0 u1 u2
      go_wp2
      exact bodyPost_ret (v := .tuple #[.int .u32 0, (Value.agg #[Value.int .i64 2, Value.int .u32 va, Value.int .u32 (inf 0 wr)])]) (by simp [results, Try.results73, go_sem, c0, c1, c2]) rfl (EnP.bad HJ.out (by go_grown))
    · go_wp2_with fail
      refine (Pt.is_as x (Pt.iv x) HXU.out rfl _).mono ?_
      rintro e w' ⟨rfl, rfl⟩
      cases hI : Pt.iv x
      · have HJ : Hid (enE t xs rows va u wr = .bad 3 (inf 0 wr)) := by show _ = _; rw [HEN.out, useE, hM, hI]; rfl
        clear hM hI
        go_wp2_with fail
        refine (fault_any u wr ah 3 va 0 (inf 0 wr) _ ⟨.inl rfl, rfl⟩).mono ?_
        rintro e w5 ⟨rfl, hb5⟩
        obtain ⟨c0, c1, c2, f0, f1, f2⟩ := ((HFR.out.below (by go_grown)).below hb5).flts
        have hb := Tl.bel2 (a := w) (by go_grown) hb5
        clear hb5 u0 u1 u2
        go_wp2
        exact bodyPost_ret (v := .tuple #[.int .u32 0, (Value.agg #[Value.int .i64 3, Value.int .u32 va, Value.int .u32 (inf 0 wr)])]) (by simp [results, Try.results73, go_sem, c0, c1, c2]) rfl (EnP.bad HJ.out (by go_grown))
      · have HJ : Hid (enE t xs rows va u wr = .ok x) := by show _ = _; rw [HEN.out, useE, hM, hI]; rfl
        have HR : Hid (enR t xs rows va u wr (!ah) = if !Tl.hav rows (va / 512) && !ah then Tl.putR rows (va / 512) x else rows) := by show _ = _; rw [enR, HJ.out]
        rw [HV.out] at HR
        clear hM hI
        obtain ⟨c0, c1, c2, f0, f1, f2⟩ := HFR.out.flts
        go_wp2
        exact bodyPost_ret (v := .tuple #[.int .u32 x, (Value.agg #[Value.int .i64 0, Value.int .u32 0, Value.int .u32 0])]) (by simp [results, Try.results73, go_sem, c0, c1, c2]) rfl (EnP.ok HJ.out ⟨S, by rw [HR.out]; exact H.out.tb.below (by go_grown), Tl.Step.of_below (by go_grown)⟩)

end Go.Proofs.Ytfpdemlcmfaieaa.Cs
