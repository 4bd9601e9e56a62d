/- Contracts of package mmu: Store. -/
import Derived.Test.YtfpdemlcmfaieaaMStore
namespace Go.Proofs.Ytfpdemlcmfaieaa.Cs
open Go.RowKit

theorem run_hi (ad : Addr) (yn c xn : Nat) (h : xn ≤ c) (w : World) : (Instr.slice 22 (.slice (some ad) yn c) none (some (.int .i64 xn)) none).run Try.prog w = .ok (.slice (some ad) xn c) w := by
  simp [Instr.slice, Instr.sliceBounds, Instr.sliceBound, asIntOf, run_underlying Rm.under_slice, go_sem]
  intro h'
  omega
theorem run_lo (ad : Addr) (yn c xn : Nat) (h : xn ≤ yn) (w : World) : (Instr.slice 22 (.slice (some ad) yn c) (some (.int .i64 xn)) none none).run Try.prog w = .ok (.slice (some (if c = xn then ad else ad.add xn)) (yn - xn) (c - xn)) w := by
  simp [Instr.slice, Instr.sliceBounds, Instr.sliceBound, asIntOf, run_underlying Rm.under_slice, go_sem, h]
  split <;> rfl
theorem Sl.low {W : World} {T : Nat → Prop} {ad : Addr} {c n : Nat} {ys : List Int} (h : Sl W T (some ad) c ys) (hn : n ≤ ys.length) : Sl W T (some (if c = n then ad else ad.add n)) (c - n) (ys.drop n) := by
  split
  · rename_i e
    have h1 := h.cap
    have e2 : ys.drop n = [] := List.drop_eq_nil_of_le (by omega)
    rw [e2, show c - n = 0 by omega]
    exact Sl.none
  · exact h.drop hn
/-- Marks and bytes leave the length. -/
theorem mks_length (t : Tabs) (l : List Run) (o : List Int × Rows) : (mks t l o).1.length = o.1.length := by
  induction l generalizing o with
  | nil => rfl
  | cons x l ih => rw [mks, ih]; exact mkMem_length _ _ _ _

set_option maxRecDepth 100000 in
set_option maxHeartbeats 1000000 in
theorem store_bad (g rg tg r : Nat) (S : Nat → Prop) (t : Tabs) (rows rows' : Rows) (xs : List Int) (va k va' i : Int) (u : Bool) (A : Option Addr) (m c : Nat) (w : World) (h : Ms w g rg r tg S t rows xs) (hv : U va) (hn' : m ≤ 1000000) (hW : walk t xs u true true rows [] va m = (.bad k va' i, rows')) :
    Calls Try.prog 25 #[(Value.pointer (some ⟨g, 0, none⟩)), .int .u32 va, .bool u, .slice A m c] w fun e w' => e = .returned ((Value.agg #[Value.int .i64 k, Value.int .u32 va', Value.int .u32 i])) ∧ ∃ S', Ms w' g rg r tg S' t rows' xs ∧ Tl.Step S S' w w' := by
  have H := Lib.hid h
  have HV := Lib.hid hv
  have HF := Lib.hid (new_flt w)
  have HW := Lib.hid hW
  have hk := (walk_bad_kd _ _ _ _ _ _ _ _ hv hW).1.1
  have hk' : (k != 0) = true := by simp; omega
  clear h hv hW hk
  go_enter Try.func25, Try.ntmps25
  go_wp2_with fail
  refine (runs_any g rg tg r S t rows xs va m u true false _ (H.out.mx.below (by go_grown)) (H.out.mem.below_ (by go_grown)) HV.out (by omega)).mono ?_
  rintro e w1 ⟨hE, S1, hT, hs⟩
  simp only [Bool.not_false, Int.toNat_natCast, HW.out] at hE hT
  have hF1 := Ft.mods HF.out hs.mods (Ft.tb HF.out (H.out.mx.tb.below (by go_grown)))
  obtain ⟨c0, c1, c2, f0, f1, f2⟩ := hF1.cells
  have hz := hF1.lt
  have HMs := Lib.hid ((H.out.below (by go_grown)).turn hT hs)
  have HS := Lib.hid ((Tl.Step.of_below (S := S) (w := w) (by go_grown)).trans hs)
  have HFt := Lib.hid hF1
  clear hT hs hF1
  obtain rfl := hE
  go_wp2
  refine bodyPost_ret (v := (Value.agg #[Value.int .i64 k, Value.int .u32 va', Value.int .u32 i])) (by simp [results, Try.results25, go_sem, c0, c1, c2, hz]) rfl ⟨rfl, S1, ?_⟩
  obtain ⟨a1, a2⟩ := ms_set HMs.out HS.out (Nat.le_refl _) HFt.out
  exact ⟨a1.below (by go_grown), a2.trans (Tl.Step.of_below (by go_grown))⟩

theorem ms_set0 {W : World} {g rg r tg F : Nat} {S1 : Nat → Prop} {t : Tabs} {rows : Rows} {xs : List Int} {a b c : Value} (h : Ms W g rg r tg S1 t rows xs) (hf : Ft W F) :
    Ms (((W.setCell ⟨F, 0, none⟩ a).setCell ⟨F, 1, none⟩ b).setCell ⟨F, 2, none⟩ c) g rg r tg S1 t rows xs := by
  have n1 : g ≠ F := by rintro rfl; exact absurd (h.mx.typ.ne hf.typ) (by decide)
  have n2 : rg ≠ F := by rintro rfl; exact absurd ((mem_typ h.mem).1.ne hf.typ) (by decide)
  have n3 : r ≠ F := by rintro rfl; exact absurd ((mem_typ h.mem).2.ne hf.typ) (by decide)
  exact ⟨h.mx.keep (set3 n1) (fun k hk => set3 (by rintro rfl; exact hf.tb h.mx.tb hk)), h.mem.keep (set3 n2) (set3 n3)⟩
theorem ms_set_rg {w W : World} {g rg r tg F : Nat} {T0 S1 : Nat → Prop} {t : Tabs} {rows : Rows} {xs : List Int} {a b c : Value} (h : Ms W g rg r tg S1 t rows xs) (hs : Tl.Step T0 (Rg S1 r) w W) (hF : w.heap.size ≤ F) (hf : Ft W F) :
    Ms (((W.setCell ⟨F, 0, none⟩ a).setCell ⟨F, 1, none⟩ b).setCell ⟨F, 2, none⟩ c) g rg r tg S1 t rows xs ∧ Tl.Step T0 (Rg S1 r) w (((W.setCell ⟨F, 0, none⟩ a).setCell ⟨F, 1, none⟩ b).setCell ⟨F, 2, none⟩ c) :=
  ⟨ms_set0 h hf, ⟨((hs.mods.set _ (.inr hF)).set _ (.inr hF)).set _ (.inr hF), hs.grow⟩⟩
theorem load_at (g r : Nat) (xs ys : List Int) (a : Int) (p m c : Nat) (A : Option Addr) (hp : a = p) (w : World) (h : Rm.Mem w g r xs) (hs : Rm.Src w A ys) (hm : ys.length = m) (hby : Rm.Byt ys) (hf : p + m ≤ xs.length) :
    Calls Try.prog 13 #[(Value.pointer (some ⟨g, 0, none⟩)), .int .u32 a, .slice A m c] w fun e w' => e = .returned (.int .i64 0) ∧ Rm.Mem w' g r (splice xs p ys) ∧ w.grownBy w' (some r) := by
  subst hp
  exact Rm.load_ok g r xs ys p m c A w h hs hm hby hf

set_option maxRecDepth 100000 in
set_option maxHeartbeats 4000000 in
theorem store_ok (g rg tg r : Nat) (S : Nat → Prop) (t : Tabs) (rows rows' : Rows) (xs ys : List Int) (l : List Run) (va : Int) (u : Bool) (A : Option Addr) (m c : Nat) (w : World) (h : Ms w g rg r tg S t rows xs) (hv : U va) (hm : ys.length = m) (hn' : m ≤ 1000000) (hS : Sl w (Rg S r) A c ys) (hW : walk t xs u true true rows [] va m = (.ok l, rows')) :
    Calls Try.prog 25 #[(Value.pointer (some ⟨g, 0, none⟩)), .int .u32 va, .bool u, .slice A m c] w fun e w' => e = .returned ((Value.agg #[Value.int .i64 0, Value.int .u32 0, Value.int .u32 0])) ∧ ∃ S', Ms w' g rg r tg S' t (mks t l (xs, rows')).2 (pts l (mks t l (xs, rows')).1 ys) ∧ Tl.Step (Rg S r) (Rg S' r) w w' := by
  have H := Lib.hid h
  have HV := Lib.hid hv
  have HF := Lib.hid (new_flt w)
  have HW := Lib.hid hW
  have HSl := Lib.hid hS
  have HM := Lib.hid hm
  have HG := Lib.hid (walk_good hv hW)
  have hln := walk_len hW
  have HSum := Lib.hid (walk_sum m rows [] va hW)
  obtain ⟨o, ho⟩ : ∃ o, mks t l (xs, rows') = o := ⟨_, rfl⟩
  rw [ho]
  obtain ⟨o', ho'⟩ : ∃ o', pts l o.1 ys = o' := ⟨_, rfl⟩
  rw [ho']
  have HO := Lib.hid ho
  have HO' := Lib.hid ho'
  clear h hv hW hS hm ho ho'
  go_enter Try.func25, Try.ntmps25
  go_wp2_with fail
  refine (runs_any g rg tg r S t rows xs va m u true false _ (H.out.mx.below (by go_grown)) (H.out.mem.below_ (by go_grown)) HV.out (by omega)).mono ?_
  rintro e w1 ⟨hE, S1, hT, hs⟩
  simp only [Bool.not_false, Int.toNat_natCast, HW.out] at hE hT
  have hF1 := Ft.mods HF.out hs.mods (Ft.tb HF.out (H.out.mx.tb.below (by go_grown)))
  obtain ⟨v, rfl, hr, ha⟩ := hE
  obtain ⟨B, cp, rfl⟩ := hr.shape
  have HL : Hid (L1 w g rg tg r (Rg S r) S1 t xs rows' l o (.slice B l.length cp) A c ys 0 (w1.alloc (.cells #[.int .i64 0, .int .u32 0, .int .u32 0] 50))) := by
    have st : Tl.Step (Rg S r) (Rg S1 r) w w1 := (Tl.Step.of_below (w := w) (by go_grown)).trans (step_rg hs)
    exact L1.below (W := w1) ⟨by rw [← HO.out]; rfl, hr, HSl.out.step st, (H.out.below (by go_grown)).turn hT hs, st, hF1⟩ (by go_grown)
  generalize hL : l.length = ln at HL hln
  have HLn := Lib.hid hL
  clear hT hs hF1 hr ha hL
  go_wp2
  go_loopw [31] (fun i W => ∃ k : Nat, k ≤ ln ∧ i = .int .i64 k ∧ ∃ S1 xs1 rows1, L1 w g rg tg r (Rg S r) S1 t xs1 rows1 l o (.slice B ln cp) A c ys k W) (fun i _ => ln - (intOf i).toNat)
  case atStart => exact ⟨0, Nat.zero_le _, rfl, S1, xs, rows', HL.out⟩
  case round =>
    clear HL
    obtain ⟨k, hk, rfl, S1, xs1, rows1, hL⟩ := hrel
    by_cases hlt : k < ln
    · obtain ⟨x, hx⟩ : ∃ x, l[k]? = some x := ⟨_, List.getElem?_eq_getElem (by rw [HLn.out]; exact hlt)⟩
      have HVx := Lib.hid (HG.out x (List.mem_of_getElem? hx)).1
      obtain ⟨b, cap, e, hb, x0, x1, x2⟩ := hL.list.at_ hx
      have e1 : B = some ⟨b, 0, none⟩ := by injection e
      subst e1
      have HX := Lib.hid hx
      have HL := Lib.hid hL
      clear hL hx e
      go_wp2_with fail
      refine (mark_any g rg r tg S1 t rows1 xs1 x.va _ (HL.out.ms.below (by go_grown)) HVx.out).mono ?_
      rintro e w3 ⟨rfl, S3, hM3, hs3⟩
      have HN := Lib.hid ((HL.out.below (by go_grown)).next HX.out hM3 hs3)
      clear hM3 hs3
      go_wp2
      go_roundw
      case rel => exact ⟨k + 1, by omega, by go_num, _, _, _, HN.out⟩
      case measure => simp [intOf]; omega
    · obtain rfl : k = ln := by omega
      have hd : l.drop k = [] := List.drop_eq_nil_of_le (by rw [HLn.out]; exact Nat.le_refl _)
      have HE : Hid (o = (xs1, rows1)) := by
        show _ = _
        rw [hL.eq, hd]; rfl
      have HL : Hid (L2 xs.length w g rg tg r (Rg S r) S1 t xs1 rows1 l o' (.slice B k cp) A c ys 0 wr) := by
        refine ⟨?_, ?_, HG.out, ?_, hL.list, hL.sl, hL.ms, hL.st, hL.ft⟩
        · rw [← HO'.out, HE.out]; rfl
        · have := mks_length t l (xs, rows')
          rw [HO.out, HE.out] at this
          exact this
        · have := HSum.out
          simp at this
          rw [List.drop_zero, this, HM.out]
      have HR : Hid (rows1 = o.2) := by show _ = _; rw [HE.out]
      clear hL hd HE
      go_wp2
      go_loopw [42, 3] (fun i s W => ∃ j : Nat, j ≤ k ∧ i = .int .i64 j ∧ ∃ A1 c1 ys1 xs2, s = .slice A1 ys1.length c1 ∧ L2 xs.length w g rg tg r (Rg S r) S1 t xs2 rows1 l o' (.slice B k cp) A1 c1 ys1 j W) (fun i _ _ => k - (intOf i).toNat)
      case atStart => exact ⟨0, Nat.zero_le _, rfl, A, c, ys, xs1, by rw [HM.out], HL.out⟩
      case round =>
        clear HL
        obtain ⟨j, hj, rfl, A1, c1, ys1, xs2, rfl, hL⟩ := hrel
        by_cases hlt : j < k
        · obtain ⟨x, hx⟩ : ∃ x, l[j]? = some x := ⟨_, List.getElem?_eq_getElem (by rw [HLn.out]; exact hlt)⟩
          obtain ⟨_, ⟨p0, p1⟩, hfit0, hn0, hn1⟩ := HG.out x (List.mem_of_getElem? hx)
          have hsum := hL.len
          rw [drop_at hx, List.map_cons, List.sum_cons] at hsum
          have hny : x.n ≤ ys1.length := by omega
          obtain ⟨ad, rfl, _, _⟩ := hL.sl.src (by omega)
          obtain ⟨b, cap, e, hb, x0, x1, x2⟩ := hL.list.at_ hx
          have e1 : B = some ⟨b, 0, none⟩ := by injection e
          subst e1
          have c0 := hL.ms.mx.c0
          have hg := hL.ms.mx.glt
          have hcc := hL.sl.cap
          have hcm := hL.sl.max
          have HX := Lib.hid hx
          have HL := Lib.hid hL
          have HTk : Hid ((ys1.take x.n).length = x.n) := by show _ = _; rw [List.length_take]; omega
          have HP : Hid (x.pa = x.pa.toNat) := by show _ = _; omega
          have hfit : x.pa.toNat + x.n ≤ xs.length := by omega
          clear hL hx e hsum hfit0
          generalize hpa : x.pa = pa at *
          generalize hxn : x.n = xn at *
          have HPA := Lib.hid hpa
          have HXN := Lib.hid hxn
          generalize hyn : ys1.length = yn at *
          have HYN := Lib.hid hyn
          clear hpa hxn hyn
          have hhi := fun W => run_hi ad yn c1 xn (by omega) W
          go_wp2_with fail
          have HLa := Lib.hid (HL.out.below (W' := wr.alloc (.cells #[.int .u32 x.va, .int .u32 pa, .int .i64 xn] 101)) (by go_grown))
          have hq := heap_alloc_new wr (.cells #[.int .u32 x.va, .int .u32 pa, .int .i64 xn] 101)
          generalize wr.alloc (.cells #[.int .u32 x.va, .int .u32 pa, .int .i64 xn] 101) = W at HLa hq ⊢
          have d0 := HLa.out.ms.mx.c0
          have d1 : W.cell? ⟨wr.heap.size, 1, none⟩ = some (.int .u32 pa) := by rw [cell_of_row W _ 1 _ _ _ hq]; rfl
          have d2 : W.cell? ⟨wr.heap.size, 2, none⟩ = some (.int .i64 xn) := by rw [cell_of_row W _ 2 _ _ _ hq]; rfl
          clear x0 x1 x2 c0 hg HL
          go_still_tail 10, (by kernel_rfl)
          change wpList _ _ _ _ _ W.drew
          have HLd := Lib.hid (HLa.out.below (W' := W.drew) (by go_grown))
          have hqd : W.drew.heap[wr.heap.size]? = some (.cells #[.int .u32 x.va, .int .u32 pa, .int .i64 xn] 101 (0, 0)) := hq
          generalize W.drew = W2 at HLd hqd ⊢
          clear d0 d1 d2 HLa hq
          have HFit : Hid (pa.toNat + xn ≤ xs2.length) := by show _ ≤ _; rw [HLd.out.ln]; omega
          go_wp2_with fail
          refine (load_at rg r xs2 (ys1.take xn) pa pa.toNat xn c1 (some ad) HP.out _ HLd.out.ms.mem (HLd.out.sl.take xn) HTk.out (HLd.out.sl.byt.take xn) HFit.out).mono ?_
          rintro e w5 ⟨rfl, hm5, hg5⟩
          have HL5 := Lib.hid (HLd.out.next (A' := some (if c1 = xn then ad else ad.add xn)) (c' := c1 - xn) HX.out (by rw [HPA.out, HXN.out]; exact hm5) hg5 (by rw [HXN.out]; exact HLd.out.sl.low (by rw [HYN.out]; exact hny)))
          rw [HPA.out, HXN.out] at HL5
          have hq5 := (hg5.block _ (Tl.lt_of_heap hqd) (fun e => by
            injection e with e
            have t1 : Typ W2 wr.heap.size 101 := ⟨_, _, hqd⟩
            rw [e] at t1
            exact absurd (t1.ne (mem_typ HLd.out.ms.mem).2) (by decide))).trans hqd
          have e2 : w5.cell? ⟨wr.heap.size, 2, none⟩ = some (.int .i64 xn) := by rw [cell_of_row w5 wr.heap.size 2 _ _ _ hq5]; rfl
          have HDl : Hid ((ys1.drop xn).length = yn - xn) := by show _ = _; rw [List.length_drop, HYN.out]
          clear hm5 hg5 hq5 hqd HLd
          have hlo := fun W => run_lo ad yn c1 xn hny W
          go_wp2
          go_roundw
          case rel => exact ⟨j + 1, by omega, by go_num, _, _, _, _, by rw [HDl.out], HL5.out⟩
          case measure => simp [intOf]; omega
        · obtain rfl : j = k := by omega
          have HE : Hid (o' = xs2) := by
            have hd : l.drop j = [] := List.drop_eq_nil_of_le (by rw [HLn.out]; exact Nat.le_refl _)
            show _ = _
            rw [hL.eq, hd]; rfl
          have HL := Lib.hid hL
          obtain ⟨c0, c1, c2, f0, f1, f2⟩ := hL.ft.cells
          clear hL
          go_wp2
          refine bodyPost_ret (v := (Value.agg #[Value.int .i64 0, Value.int .u32 0, Value.int .u32 0])) (by simp [results, Try.results25, go_sem, c0, c1, c2]) rfl ⟨rfl, S1, ?_⟩
          rw [HE.out, ← HR.out]
          exact ms_set_rg HL.out.ms HL.out.st (Nat.le_refl _) HL.out.ft

end Go.Proofs.Ytfpdemlcmfaieaa.Cs
