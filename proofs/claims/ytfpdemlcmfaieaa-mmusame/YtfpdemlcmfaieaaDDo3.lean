/- A call on both: Get, Put, Store. -/
import Derived.Test.YtfpdemlcmfaieaaDMem
import Derived.Deep.RegionHeld3
import Derived.Deep.RegionWith
namespace Go.Proofs.Ytfpdemlcmfaieaa.Cs
open Go.RowKit

theorem Sl.weak {W : World} {T T' : Nat → Prop} {A : Option Addr} {c : Nat} {ys : List Int} (h : Sl W T A c ys) (hT : ∀ k, T' k → T k) : Sl W T' A c ys :=
  ⟨h.src, h.byt, h.cap, h.max, fun h0 ad e => ⟨fun ht => (h.far h0 ad e).1 (hT _ ht), (h.far h0 ad e).2⟩⟩
theorem rstore_any (h rh hr th : Nat) (T : Nat → Prop) (t : Tabs) (pl : Bool) (rows rows' : Rows) (xs ys : List Int) (a : Acc) (va : Int) (u : Bool) (A : Option Addr) (m c : Nat) (w : World) (x0 : Rs w h rh hr th T t pl rows xs) (hv : U va) (hm : ys.length = m) (hn' : m ≤ 100000) (hS : Sl w (Rg T hr) A c ys) (hW : walk t xs u true (true && !pl) rows [] va m = (a, rows')) :
    Calls Try.prog 42 #[(Value.pointer (some ⟨h, 0, none⟩)), .int .u32 va, .bool u, .slice A m c] w fun e w' => e = .returned (Value.agg #[Value.int .i64 (fk a), Value.int .u32 (fa a), Value.int .u32 (fi a)]) ∧ ∃ T', Rs w' h rh hr th T' t pl (stR t xs rows' a) (stM t xs rows' ys a) ∧ Tl.Step (Rg T hr) (Rg T' hr) w w' := by
  cases a with
  | ok l => exact rstore_ok h rh hr th T t pl rows rows' xs ys l va u A m c w x0 hv hm hn' hS hW
  | bad k va' i =>
    refine (rstore_bad h rh hr th T t pl rows rows' xs va k va' i u A m c w x0 hv hn' hW).mono ?_
    rintro e w' ⟨rfl, T', hM, hs⟩
    exact ⟨rfl, T', hM, step_rg hs⟩

theorem Cq.set3 {W : World} {q F : Nat} {cl : Cal} {a b c : Value} (h : Cq W q cl) (hne : q ≠ F) : Cq (((W.setCell ⟨F, 0, none⟩ a).setCell ⟨F, 1, none⟩ b).setCell ⟨F, 2, none⟩ c) q cl := (Cs.set3 hne).trans h
theorem Fv.set3 {W : World} {q F : Nat} {k va i : Int} {a b c : Value} (h : Fv W q k va i) (hne : q ≠ F) : Fv (((W.setCell ⟨F, 0, none⟩ a).setCell ⟨F, 1, none⟩ b).setCell ⟨F, 2, none⟩ c) q k va i := (Cs.set3 hne).trans h
theorem Bw.fset {w W : World} {d : Ids} {S0 T0 S T : Nat → Prop} {s s2 : St} {pl : Bool} {F : Nat} {a b c : Value} (h : Bw w d S0 T0 S T s s2 pl W) (f : Ft W F) (hF : w.heap.size ≤ F) : Bw w d S0 T0 S T s s2 pl (((W.setCell ⟨F, 0, none⟩ a).setCell ⟨F, 1, none⟩ b).setCell ⟨F, 2, none⟩ c) :=
  ⟨ms_set0 h.ms f, rs_set h.rs f, h.rr, ⟨((h.st.mods.set _ (.inr hF)).set _ (.inr hF)).set _ (.inr hF), h.st.grow⟩⟩
theorem ft_rload {W w2 : World} {th : Nat} {T T2 : Nat → Prop} {rows : Rows} (hrf : Tl.Rf W th T rows) (hs : Tl.Step T T2 (W.alloc (.cells #[.int .i64 0, .int .u32 0, .int .u32 0] 50)).drew w2) : Ft w2 W.heap.size := by
  have h0 : Ft (W.alloc (.cells #[.int .i64 0, .int .u32 0, .int .u32 0] 50)).drew W.heap.size := heap_alloc_new W _
  exact h0.mods hs.mods (rf_not (hrf.below (by go_grown)) h0.typ (by decide) (by decide))

set_option maxRecDepth 100000 in
set_option maxHeartbeats 4000000 in
theorem does_3 (d : Ids) (S T : Nat → Prop) (t : Tabs) (xs : List Int) (rows rows2 : Rows) (pl : Bool) (va x n : Int) (u wt : Bool) (A : Option Addr) (m cc : Nat) (tc : Tabs) (w : World) (b : Bw w d S T S T ⟨t, xs, rows⟩ ⟨t, xs, rows2⟩ pl w) (hv : U va) (a : Acc) (r1 r2 : Rows) (hW1 : walk t xs u true true rows [] va m = (a, r1)) (hW2 : walk t xs u true (true && !pl) rows2 [] va m = (a, r2)) (ys : List Int) (hm : ys.length = m) (hm1 : m ≤ 1024) (hS : Sl w (Ux d S T) A cc ys) :
    Calls Try.prog 18 #[(Value.pointer (some ⟨d.rg, 0, none⟩)), (Value.pointer (some ⟨d.g, 0, none⟩)), (Value.pointer (some ⟨d.h, 0, none⟩)), .agg #[.int .i64 3, .int .u32 va, .int .u32 x, .int .i64 n, .bool u, .bool wt, .slice A m cc, .int .u32 tc.pb, .int .u32 tc.pn, .int .u32 tc.sb, .int .u32 tc.sn, .int .u32 tc.me]] w fun e w' => e = .returned (.bool true) ∧ ∃ S' T', Bw w d S T S' T' ⟨t, stM t xs r1 ys a, stR t xs r1 a⟩ ⟨t, stM t xs r2 ys a, stR t xs r2 a⟩ pl w' := by
  have HC := Lib.hid (Cq.new (W := w) (c := ⟨3, va, x, n, u, wt, A, m, cc, tc⟩))
  dsimp only at HC
  have HB : Hid (Bw w d S T S T ⟨t, xs, rows⟩ ⟨t, xs, rows2⟩ pl (w.alloc (.cells #[.int .i64 3, .int .u32 va, .int .u32 x, .int .i64 n, .bool u, .bool wt, .slice A m cc, .int .u32 tc.pb, .int .u32 tc.pn, .int .u32 tc.sb, .int .u32 tc.sn, .int .u32 tc.me] 45))) := b.below (by go_grown)
  have HV := Lib.hid hv
  clear b
  have HW1 := Lib.hid hW1
  have HW2 := Lib.hid hW2
  have HM := Lib.hid hm
  have HSl := Lib.hid (hS.step (T' := Ux d S T) (W' := w.alloc (.cells #[.int .i64 3, .int .u32 va, .int .u32 x, .int .i64 n, .bool u, .bool wt, .slice A m cc, .int .u32 tc.pb, .int .u32 tc.pn, .int .u32 tc.sb, .int .u32 tc.sn, .int .u32 tc.me] 45)) (Tl.Step.of_below (by go_grown)))
  clear hv hW1 hW2 hm hS
  obtain ⟨k0, k1, k2, k3, k4, k5, k6⟩ := HC.out.cells
  go_enter Try.func18, Try.ntmps18
  go_wp2_with fail
  generalize w.alloc (.cells #[.int .i64 3, .int .u32 va, .int .u32 x, .int .i64 n, .bool u, .bool wt, .slice A m cc, .int .u32 tc.pb, .int .u32 tc.pn, .int .u32 tc.sb, .int .u32 tc.sn, .int .u32 tc.me] 45) = W at HC HB HSl k0 k1 k2 k3 k4 k5 k6 ⊢
  have HSt := Lib.hid (fun W1 (hms : Ms W1 d.g d.rg d.r d.tg S t rows xs) (hsl : Sl W1 (Rg S d.r) A cc ys) => store_any d.g d.rg d.tg d.r S t rows r1 xs ys a va u A m cc W1 hms HV.out HM.out (by omega) hsl HW1.out)
  have HSr := Lib.hid (fun W1 (hrs : Rs W1 d.h d.rh d.hr d.th T t pl rows2 xs) (hsl : Sl W1 (Rg T d.hr) A cc ys) => rstore_any d.h d.rh d.hr d.th T t pl rows2 r2 xs ys a va u A m cc W1 hrs HV.out HM.out (by omega) hsl HW2.out)
  generalize fk a = K1 at *
  generalize fa a = V1 at *
  generalize fi a = I1 at *
  go_region_held3 (fun w' => w'.cell? ⟨w.heap.size, 1, none⟩ = some (.int .u32 va) ∧ w'.cell? ⟨w.heap.size, 4, none⟩ = some (.bool u) ∧ w'.cell? ⟨w.heap.size, 6, none⟩ = some (.slice A m cc))
    (first | go_keep | exact ⟨k1, k4, k6⟩ | exact ⟨((HC.out.below (by go_grown)).ux (HB.out.below (by go_grown)) hs1.mods ux1).cells.2.1, ((HC.out.below (by go_grown)).ux (HB.out.below (by go_grown)) hs1.mods ux1).cells.2.2.2.2.1, ((HC.out.below (by go_grown)).ux (HB.out.below (by go_grown)) hs1.mods ux1).cells.2.2.2.2.2.2⟩ | exact ⟨((((HC.out.below (by go_grown)).ux (HB.out.below (by go_grown)) hs1.mods ux1).below (by go_grown)).ux (((HB.out.below (by go_grown)).one (s' := ⟨t, stM t xs r1 ys a, stR t xs r1 a⟩) hm1' hs1).below (by go_grown)) hs2.mods ux2).cells.2.1, ((((HC.out.below (by go_grown)).ux (HB.out.below (by go_grown)) hs1.mods ux1).below (by go_grown)).ux (((HB.out.below (by go_grown)).one (s' := ⟨t, stM t xs r1 ys a, stR t xs r1 a⟩) hm1' hs1).below (by go_grown)) hs2.mods ux2).cells.2.2.2.2.1, ((((HC.out.below (by go_grown)).ux (HB.out.below (by go_grown)) hs1.mods ux1).below (by go_grown)).ux (((HB.out.below (by go_grown)).one (s' := ⟨t, stM t xs r1 ys a, stR t xs r1 a⟩) hm1' hs1).below (by go_grown)) hs2.mods ux2).cells.2.2.2.2.2.2⟩)
    (first | (go_at_call 25; refine (HSt.out _ (HB.out.ms.below (by go_grown)) ((HSl.out.step (Tl.Step.of_below (by go_grown))).weak ux1)).mono ?_; rintro e w1 ⟨rfl, S1, hm1', hs1⟩) | (go_at_call 42; refine (HSr.out _ ((((HB.out.below (by go_grown)).one (s' := ⟨t, stM t xs r1 ys a, stR t xs r1 a⟩) hm1' hs1).rs).below (by go_grown)) ((((HSl.out.step (Tl.Step.of_below (by go_grown))).step (step_ux1 hs1)).step (Tl.Step.of_below (by go_grown))).weak ux2)).mono ?_; rintro e w2 ⟨rfl, T2, hm2', hs2⟩))
  go_wp2
  go_ret
  exact ⟨rfl, S1, T2, (((HB.out.below (by go_grown)).one (s' := ⟨t, stM t xs r1 ys a, stR t xs r1 a⟩) hm1' hs1).below (by go_grown)).two (s' := ⟨t, stM t xs r2 ys a, stR t xs r2 a⟩) hm2' hs2⟩

set_option maxRecDepth 100000 in
set_option maxHeartbeats 4000000 in
theorem does_0 (d : Ids) (S T : Nat → Prop) (t : Tabs) (xs : List Int) (rows rows2 : Rows) (pl : Bool) (va x n : Int) (u wt : Bool) (A : Option Addr) (m cc : Nat) (tc : Tabs) (w : World) (b : Bw w d S T S T ⟨t, xs, rows⟩ ⟨t, xs, rows2⟩ pl w) (hv : U va) (a : Acc) (r1 r2 : Rows) (mm : Nat) (hW1 : walk t xs u false true rows [] va mm = (a, r1)) (hW2 : walk t xs u false (true && !pl) rows2 [] va mm = (a, r2)) (hmm : (max 0 (min n 4)) = (mm : Int)) :
    Calls Try.prog 18 #[(Value.pointer (some ⟨d.rg, 0, none⟩)), (Value.pointer (some ⟨d.g, 0, none⟩)), (Value.pointer (some ⟨d.h, 0, none⟩)), .agg #[.int .i64 0, .int .u32 va, .int .u32 x, .int .i64 n, .bool u, .bool wt, .slice A m cc, .int .u32 tc.pb, .int .u32 tc.pn, .int .u32 tc.sb, .int .u32 tc.sn, .int .u32 tc.me]] w fun e w' => e = .returned (.bool true) ∧ ∃ S' T', Bw w d S T S' T' ⟨t, xs, r1⟩ ⟨t, xs, r2⟩ pl w' := by
  have HC := Lib.hid (Cq.new (W := w) (c := ⟨0, va, x, n, u, wt, A, m, cc, tc⟩))
  dsimp only at HC
  have HB : Hid (Bw w d S T S T ⟨t, xs, rows⟩ ⟨t, xs, rows2⟩ pl (w.alloc (.cells #[.int .i64 0, .int .u32 va, .int .u32 x, .int .i64 n, .bool u, .bool wt, .slice A m cc, .int .u32 tc.pb, .int .u32 tc.pn, .int .u32 tc.sb, .int .u32 tc.sn, .int .u32 tc.me] 45))) := b.below (by go_grown)
  have HV := Lib.hid hv
  clear b
  have HW1 : Hid (walk t xs u false true rows [] va (min n 4).toNat = (a, r1)) := by show _ = _; rw [show (min n 4).toNat = mm by omega]; exact hW1
  have HW2 : Hid (walk t xs u false (true && !pl) rows2 [] va ((mm : Int)).toNat = (a, r2)) := by show _ = _; rw [Int.toNat_natCast]; exact hW2
  have HMM := Lib.hid hmm
  have HY := Lib.hid (accY_len hv hW1).1
  have hm4 : mm ≤ 4 := by omega
  have HBy := Lib.hid (byt_accY HB.out.ms.mem.byt a)
  clear hv hW1 hW2 hmm
  obtain ⟨k0, k1, k2, k3, k4, k5, k6⟩ := HC.out.cells
  go_enter Try.func18, Try.ntmps18
  go_wp2_with fail
  refine (get_any d.g d.rg d.tg d.r S t rows r1 xs a va n u _ HB.out.ms HV.out HW1.out).mono ?_
  rintro e w1 ⟨rfl, S1, hm1, hs1⟩
  have HC1 := Lib.hid (HC.out.ux HB.out (step_rg (r := d.r) hs1).mods ux1)
  have HB1 := Lib.hid (HB.out.one (s' := ⟨t, xs, r1⟩) hm1 (step_rg hs1))
  clear hm1 hs1 HC HB k0 k1 k2 k3 k4 k5 k6
  go_wp2_with fail
  have HLd := Lib.hid (fun W1 (hrs : Rs W1 d.h d.rh d.hr d.th T t pl rows2 xs) => rload_any d.h d.rh d.hr d.th T t pl rows2 r2 xs va mm u a W1 hrs HV.out (by omega) HW2.out)
  have HSz := Lib.hid (fun W1 => rsize_any n mm HMM.out W1)
  obtain ⟨N, hN⟩ : ∃ N, Rm.num (accY xs a) = N := ⟨_, rfl⟩
  rw [hN]
  have HNum : Hid (∀ A1 c1 W1, R8 W1 (.slice A1 (accY xs a).length c1) (accY xs a) → Calls Try.prog 32 #[.slice A1 (accY xs a).length c1] W1 fun e w' => e = .returned (.int .u32 N) ∧ W1 = w') := fun A1 c1 W1 h => by
    rw [← hN]
    exact number_any A1 _ c1 (accY xs a) W1 rfl (Nat.le_trans HY.out hm4) HBy.out h
  clear hN
  generalize fk a = K1 at *
  generalize fa a = V1 at *
  generalize fi a = I1 at *
  have HBw := Lib.hid (HB1.out.below (W' := w1.alloc (.cells #[.int .i64 K1, .int .u32 V1, .int .u32 I1] 50)) (by go_grown))
  have HCw := Lib.hid (HC1.out.below (W' := w1.alloc (.cells #[.int .i64 K1, .int .u32 V1, .int .u32 I1] 50)) (by go_grown))
  have HFw := Lib.hid (Fv.new (W := w1) (k := K1) (va := V1) (i := I1))
  generalize w1.alloc (.cells #[.int .i64 K1, .int .u32 V1, .int .u32 I1] 50) = W at HBw HCw HFw ⊢
  obtain ⟨_, k1, _, k3, k4, _, _⟩ := HCw.out.cells
  clear HB1 HC1
  have hne : w.heap.size ≠ W.heap.size := by have := HCw.out.lt; omega
  have hneF : w1.heap.size ≠ W.heap.size := by have := HFw.out.lt; omega
  have hwW : w.heap.size ≤ W.heap.size := by have := HCw.out.lt; omega
  go_region_held3 (fun w' => w'.cell? ⟨w.heap.size, 1, none⟩ = some (.int .u32 va) ∧ w'.cell? ⟨w.heap.size, 3, none⟩ = some (.int .i64 n) ∧ w'.cell? ⟨w.heap.size, 4, none⟩ = some (.bool u))
    (first | go_keep | exact ⟨k1, k3, k4⟩ | exact ⟨((HCw.out.below (by go_grown)).ux (HBw.out.below (by go_grown)) (step_rg (r := d.hr) hs2).mods ux2).cells.2.1, ((HCw.out.below (by go_grown)).ux (HBw.out.below (by go_grown)) (step_rg (r := d.hr) hs2).mods ux2).cells.2.2.2.1, ((HCw.out.below (by go_grown)).ux (HBw.out.below (by go_grown)) (step_rg (r := d.hr) hs2).mods ux2).cells.2.2.2.2.1⟩ | exact ⟨(((HCw.out.below (by go_grown)).ux (HBw.out.below (by go_grown)) (step_rg (r := d.hr) hs2).mods ux2).set3 hne).cells.2.1, (((HCw.out.below (by go_grown)).ux (HBw.out.below (by go_grown)) (step_rg (r := d.hr) hs2).mods ux2).set3 hne).cells.2.2.2.1, (((HCw.out.below (by go_grown)).ux (HBw.out.below (by go_grown)) (step_rg (r := d.hr) hs2).mods ux2).set3 hne).cells.2.2.2.2.1⟩ | exact ⟨(((HCw.out.below (by go_grown)).ux (HBw.out.below (by go_grown)) (step_rg (r := d.hr) hs2).mods ux2).below (by go_grown)).cells.2.1, (((HCw.out.below (by go_grown)).ux (HBw.out.below (by go_grown)) (step_rg (r := d.hr) hs2).mods ux2).below (by go_grown)).cells.2.2.2.1, (((HCw.out.below (by go_grown)).ux (HBw.out.below (by go_grown)) (step_rg (r := d.hr) hs2).mods ux2).below (by go_grown)).cells.2.2.2.2.1⟩)
    (first | (go_at_call 41; refine (HSz.out _).mono ?_; rintro e w9 ⟨rfl, rfl⟩) | (go_at_call 40; refine (HLd.out _ (HBw.out.rs.below (by go_grown))).mono ?_; rintro e w2 ⟨⟨v2, rfl, hr2, hab2⟩, T2, hm2, hs2⟩; obtain ⟨A2, c2, rfl⟩ := hr2.shape; try (have hFt2 := ft_rload HBw.out.rs.mx.rf hs2; obtain ⟨z0, z1, z2, y0, y1, y2⟩ := hFt2.cells; have hz2 := hFt2.lt)))
  all_goals
    have HB2 := Lib.hid ((HBw.out.below (by go_grown)).two (s' := ⟨t, xs, r2⟩) hm2 (step_rg hs2))
    have HF2 := Lib.hid ((HFw.out.below (by go_grown)).ux (HBw.out.below (by go_grown)) (step_rg (r := d.hr) hs2).mods ux2)
    have HR2 := Lib.hid hr2
    first
    | (have HFt2 := Lib.hid hFt2
       have HB3 := Lib.hid (HB2.out.fset (a := .int .i64 K1) (b := .int .u32 V1) (c := .int .u32 I1) HFt2.out hwW)
       have HFa := Lib.hid (HF2.out.set3 (a := .int .i64 K1) (b := .int .u32 V1) (c := .int .u32 I1) hneF)
       have HFb : Hid (Fv (((w2.setCell ⟨W.heap.size, 0, none⟩ (.int .i64 K1)).setCell ⟨W.heap.size, 1, none⟩ (.int .u32 V1)).setCell ⟨W.heap.size, 2, none⟩ (.int .u32 I1)) W.heap.size K1 V1 I1) := Fv.set (k := 0) (va := 0) (i := 0) HFt2.out K1 V1 I1
       have HR3 : Hid (R8 (((w2.setCell ⟨W.heap.size, 0, none⟩ (.int .i64 K1)).setCell ⟨W.heap.size, 1, none⟩ (.int .u32 V1)).setCell ⟨W.heap.size, 2, none⟩ (.int .u32 I1)) (.slice A2 (accY xs a).length c2) (accY xs a)) := Tl.own_keep HR2.out (fun i hi => set3 (by rintro rfl; exact absurd ((R8.typ HR2.out hi).ne HFt2.out.typ) (by decide)))
       clear hr2 hab2 hm2 hs2 hFt2 z0 z1 z2 y0 y1 y2 hz2 HB2 HF2 HR2 HFt2 k1 k3 k4
       generalize ((w2.setCell ⟨W.heap.size, 0, none⟩ (.int .i64 K1)).setCell ⟨W.heap.size, 1, none⟩ (.int .u32 V1)).setCell ⟨W.heap.size, 2, none⟩ (.int .u32 I1) = W3 at HB3 HFa HFb HR3 ⊢
       obtain ⟨f0, f1, f2, _, _, _⟩ := HFa.out.cells
       obtain ⟨g0, g1, g2, _, _, _⟩ := HFb.out.cells
       go_wp2_with fail
       refine (HNum.out A2 c2 _ HR3.out).mono ?_
       rintro e w8 ⟨rfl, rfl⟩
       go_wp2
       go_ret
       exact ⟨rfl, S1, T2, HB3.out⟩)
    | (obtain ⟨f0, f1, f2, _, _, _⟩ := HF2.out.cells
       have hzf := HF2.out.lt
       clear hr2 hab2 hm2 hs2 k1 k3 k4
       go_wp2_with fail
       refine (HNum.out A2 c2 _ (Tl.own_below HR2.out (by go_grown))).mono ?_
       rintro e w8 ⟨rfl, rfl⟩
       go_wp2
       go_ret
       exact ⟨rfl, S1, T2, HB2.out.below (by go_grown)⟩)

end Go.Proofs.Ytfpdemlcmfaieaa.Cs
