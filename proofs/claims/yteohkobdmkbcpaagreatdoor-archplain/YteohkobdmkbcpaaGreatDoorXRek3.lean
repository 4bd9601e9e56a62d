/- Contract: reckon of three operands. -/
import Derived.Test.YteohkobdmkbcpaaGreatDoorXRek
namespace Go.Proofs.YteohkobdmkbcpaaGreatDoor.Cs
open Go.RowKit
set_option linter.unusedVariables false
set_option linter.unusedSimpArgs false

set_option maxHeartbeats 4000000 in
set_option maxRecDepth 100000 in
theorem reckon_3 (w0 : World) (a : Ad) (S0 : Nat → Prop) (c : Mc) (w : World) (d : Nat) (D : Dg) (h : Ch w0 a S0 c w) (hd : Do w a d D) (hn : D.l.length = 3) (az ax ar aa bz bx br ba lz lx lr la cl al : Int)
    (hcl : D.op.cls = cl) (hal : D.op.alu = al) (ha : D.l.getD 0 zod = ⟨az, ax, ar, aa⟩) (oa : Od.Ok ⟨az, ax, ar, aa⟩) (hb : D.l.getD 1 zod = ⟨bz, bx, br, ba⟩) (ob : Od.Ok ⟨bz, bx, br, ba⟩) (hl : D.l.getD 2 zod = ⟨lz, lx, lr, la⟩) (ol : Od.Ok ⟨lz, lx, lr, la⟩) :
    Calls Tryz.prog 109 #[.pointer (some ⟨d, 0, none⟩)] w fun e w' => ∃ v, e = .returned v ∧ Rp w w' (c.rek cl al D.l).1 v ∧ Ch w0 a S0 (c.rek cl al D.l).2 w' ∧ Mv a w w' := by
  have hRe : c.rek cl al D.l = Mc.thn (if cl = 16 ∨ cl = 17 then (none, c) else c.res ⟨lz, lx, lr, la⟩ (Bt.Al.an al ax bx c.cy az).x) fun c' => (if (Bt.Al.an al ax bx c.cy az).k then none else some ⟨52, [2], true⟩, c'.cod (Mc.flg (Bt.Al.an al ax bx c.cy az))) := by
    unfold Mc.rek
    simp only [hn, Nat.reduceSub, Nat.min_self, Nat.min_zero, (show min 1 2 = 1 from rfl), ha, hb, hl]
  generalize hR : c.rek cl al D.l = R at *
  have HRe := Lib.hid hRe
  have H := Lib.hid h
  have HD := Lib.hid hd
  obtain ⟨A, cp, hda⟩ := hd.da
  rw [hn] at hda
  obtain ⟨r, rfl, _⟩ := hda.at_ 0 (by omega)
  have HDa := Lib.hid hda
  have Ha := Lib.hid ha
  have Hb := Lib.hid hb
  have Hl := Lib.hid hl
  have HCl := Lib.hid hcl
  have HAl := Lib.hid hal
  have HXU := Lib.hid (Bt.Al.an_U (op := al) (a := ax) (b := bx) (c := c.cy) (s := az) oa.z)
  have HCy := Lib.hid (fun W hW => carry_any (w0 := w0) (a := a) (S0 := S0) (c := c) W hW)
  have HAn := Lib.hid (fun W => Bt.Al.do_any al ax bx az c.cy oa.z oa.x ob.x W)
  have HOl := Lib.hid ol
  clear h hd hda ha hb hl hR hRe hcl hal hn oa ob ol
  generalize Bt.Al.an al ax bx c.cy az = An at *
  obtain ⟨X, fn, fz, fv, fc, ok⟩ := An
  have hAn2 : ∀ W, Calls Tryz.prog 176 #[.int .i64 al, .int .u32 ax, .int .u32 bx, .bool c.cy, .int .i64 az] W fun e w' => e = .returned (.tuple #[.int .u32 X, .agg #[.bool fn, .bool fz, .bool fv, .bool fc], .bool ok]) ∧ Below W.heap.size W w' := HAn.out
  clear HAn
  have HAn := Lib.hid hAn2
  clear hAn2
  obtain ⟨rl, x0, x1, x2, x3⟩ := HDa.out.k (k := 2) (by omega)
  rw [Hl.out] at x0 x1 x2 x3
  simp only [Nat.reduceMul, Nat.reduceAdd, Nat.zero_mul, Nat.zero_add] at x0 x1 x2 x3
  have d7 := HDa.out.c7
  have hdl := HDa.out.lt
  go_enter Tryz.func109, Tryz.ntmps109
  go_upto_region 1 with fail
  go_region
  all_goals go_upto_region 2 with fail
  have b1 : Below w.heap.size w (w.alloc (.cells #[.int .i64 lz, .int .u32 lx, .int .i64 lr, .int .u32 la] 122)).drew := by go_grown
  have hl1 : (w.alloc (.cells #[.int .i64 lz, .int .u32 lx, .int .i64 lr, .int .u32 la] 122)).drew.heap[w.heap.size]? = some (.cells #[.int .i64 lz, .int .u32 lx, .int .i64 lr, .int .u32 la] 122 (0, 0)) := heap_alloc_new _ _
  generalize (w.alloc (.cells #[.int .i64 lz, .int .u32 lx, .int .i64 lr, .int .u32 la] 122)).drew = W1 at *
  have HDa1 := Lib.hid (HDa.out.below b1)
  have HB1 := Lib.hid b1
  have HL1 := Lib.hid hl1
  have hgl := Tl.lt_of_heap hl1
  clear x0 x1 x2 x3 rl d7 hdl b1 hl1
  obtain ⟨rl, y0, y1, y2, y3⟩ := HDa1.out.k (k := 0) (by omega)
  rw [Ha.out] at y0 y1 y2 y3
  simp only [Nat.reduceMul, Nat.reduceAdd, Nat.zero_mul, Nat.zero_add] at y0 y1 y2 y3
  obtain ⟨_, z0, z1, z2, z3⟩ := HDa1.out.k (k := 1) (by omega)
  rw [Hb.out] at z0 z1 z2 z3
  simp only [Nat.reduceMul, Nat.reduceAdd, Nat.one_mul] at z0 z1 z2 z3
  have d7 := HDa1.out.c7
  have hdl := HDa1.out.lt
  have hrl := rl
  have m12 : (min (1 : Int) 2) = 1 := by decide
  have m13 : (min (1 : Int) 2).toNat = 1 := by decide
  go_cut [4, 5] from 22 to 41 (fun v4 v5 W => ∃ pa pb : Nat, v4 = .pointer (some ⟨pa, 0, none⟩) ∧ v5 = .pointer (some ⟨pb, 0, none⟩) ∧ Below W1.heap.size W1 W ∧ W.heap[pa]? = some (.cells #[.int .i64 az, .int .u32 ax, .int .i64 ar, .int .u32 aa] 122 (0, 0)) ∧ W.heap[pb]? = some (.cells #[.int .i64 bz, .int .u32 bx, .int .i64 br, .int .u32 ba] 122 (0, 0)))
  case first =>
    have mt1 := two_new W1 [.int .i64 az, .int .u32 ax, .int .i64 ar, .int .u32 aa] [.int .i64 bz, .int .u32 bx, .int .i64 br, .int .u32 ba] 122
    have mt2 := two_new W1 [.int .i64 bz, .int .u32 bx, .int .i64 br, .int .u32 ba] [.int .i64 az, .int .u32 ax, .int .i64 ar, .int .u32 aa] 122
    have MT1 := Lib.hid mt1
    have MT2 := Lib.hid mt2
    clear mt1 mt2
    go_region_held (fun w' => w'.cell? ⟨d, 7, none⟩ = some (.slice (some ⟨r, 0, none⟩) 3 cp) ∧ w'.cell? ⟨r, 0, none⟩ = some (.int .i64 az) ∧ w'.cell? ⟨r, 1, none⟩ = some (.int .u32 ax) ∧ w'.cell? ⟨r, 2, none⟩ = some (.int .i64 ar) ∧ w'.cell? ⟨r, 3, none⟩ = some (.int .u32 aa) ∧ w'.cell? ⟨r, 4, none⟩ = some (.int .i64 bz) ∧ w'.cell? ⟨r, 5, none⟩ = some (.int .u32 bx) ∧ w'.cell? ⟨r, 6, none⟩ = some (.int .i64 br) ∧ w'.cell? ⟨r, 7, none⟩ = some (.int .u32 ba))
      (go_keep)
      (fail)
    all_goals
      go_wp2
      go_meet
      first
        | exact ⟨_, _, rfl, rfl, MT1.out.1, MT1.out.2.1, MT1.out.2.2⟩
        | exact ⟨_, _, rfl, rfl, MT2.out.1, MT2.out.2.2, MT2.out.2.1⟩
  case rest =>
  obtain ⟨pa, pb, rfl, rfl, b2, hp2, hq2⟩ := hcut
  have HDa2 := Lib.hid (HDa1.out.below b2)
  have HL2 := Lib.hid ((b2.block _ hgl).trans HL1.out)
  have HBw := Lib.hid (Tl.bel2 HB1.out b2)
  have HP2 := Lib.hid hp2
  have HQ2 := Lib.hid hq2
  have K2 := Lib.hid (nx_below H.out HBw.out)
  clear y0 y1 y2 y3 rl hrl z0 z1 z2 z3 d7 hdl b2 hp2 hq2 HDa1 HL1 HB1 hgl
  have d0 := HDa2.out.c0
  have d4 := HDa2.out.c4
  have d5 := HDa2.out.c5
  rw [HCl.out] at d4
  rw [HAl.out] at d5
  have hdl := HDa2.out.lt
  obtain ⟨p0, p1, p2, p3, pf⟩ := cells4 HP2.out
  obtain ⟨q0, q1, q2, q3, qf⟩ := cells4 HQ2.out
  have hpl := Tl.lt_of_heap HP2.out
  have hql := Tl.lt_of_heap HQ2.out
  go_upto_region 3 with fail
  go_cut [6, 7, 8] from 41 to 62 (fun v6 v7 v8 W => v6 = .int .u32 X ∧ v8 = .bool ok ∧ ∃ pf : Nat, v7 = .pointer (some ⟨pf, 0, none⟩) ∧ Below wc.heap.size wc W ∧ W.heap[pf]? = some (.cells #[.bool fn, .bool fz, .bool fv, .bool fc] 39 (0, 0)))
  case first =>
    go_region_held (fun w' => w'.cell? ⟨d, 0, none⟩ = some (.pointer (some ⟨a.g, 0, none⟩)) ∧ w'.cell? ⟨d, 5, none⟩ = some (.int .i64 al) ∧ w'.cell? ⟨pa, 0, none⟩ = some (.int .i64 az) ∧ w'.cell? ⟨pa, 1, none⟩ = some (.int .u32 ax) ∧ w'.cell? ⟨pb, 1, none⟩ = some (.int .u32 bx))
      (first | exact ⟨(hbS.cell hdl).trans d0, (hbS.cell hdl).trans d5, (hbS.cell hpl).trans p0, (hbS.cell hpl).trans p1, (hbS.cell hql).trans q1⟩ | exact ⟨((hb6 _).cell hdl).trans d0, ((hb6 _).cell hdl).trans d5, ((hb6 _).cell hpl).trans p0, ((hb6 _).cell hpl).trans p1, ((hb6 _).cell hql).trans q1⟩ | exact ⟨((hb5 _).cell hdl).trans d0, ((hb5 _).cell hdl).trans d5, ((hb5 _).cell hpl).trans p0, ((hb5 _).cell hpl).trans p1, ((hb5 _).cell hql).trans q1⟩ | exact ⟨(hb4.cell hdl).trans d0, (hb4.cell hdl).trans d5, (hb4.cell hpl).trans p0, (hb4.cell hpl).trans p1, (hb4.cell hql).trans q1⟩ | exact ⟨(hb3.cell hdl).trans d0, (hb3.cell hdl).trans d5, (hb3.cell hpl).trans p0, (hb3.cell hpl).trans p1, (hb3.cell hql).trans q1⟩ | go_keep)
      (first
        | (go_at_call 177; refine (HCy.out _ (K2.out.1.below (by go_grown))).mono ?_; rintro e w3 ⟨rfl, hb3'⟩; have hb3 := Tl.bel2 (a := wc) (by go_grown) hb3'; first | have hf := (hb3'.block wc.heap.size (by simp)).trans (heap_alloc_new _ _) | skip)
        | (go_at_call 176; refine (HAn.out _).mono ?_; rintro e w4 ⟨rfl, hb4'⟩; have hb4 := Tl.bel2 hb3 (Tl.bel2 (a := w3) (by go_grown) hb4'); have hb5 : ∀ o : Obj, Below wc.heap.size wc (w4.alloc o).drew := fun o => Tl.bel2 hb4 (by go_grown); have hb6 : ∀ o : Obj, Below wc.heap.size wc (w4.alloc o) := fun o => Tl.bel2 hb4 (by go_grown); first
              | (have hf5 := (hb4'.block _ (Tl.lt_of_heap hf)).trans hf; have hT := heap4 hf5 (.bool fn) (.bool fz) (.bool fv) (.bool fc); have hf4 := cells4 hf5; obtain ⟨f0, f1, f2, f3, ff⟩ := hf4; have hbS := Tl.Mods.below (S := Hr.One wc.heap.size) hb4 (mods4 w4 wc.heap.size (.bool fn) (.bool fz) (.bool fv) (.bool fc)) (fun k hk => Nat.le_of_eq hk.symm) hb4.size)
              | (have hf5 := (hb4'.block w3.heap.size (by simp)).trans (heap_alloc_new _ _); have hT := heap4 hf5 (.bool fn) (.bool fz) (.bool fv) (.bool fc); have hf4 := cells4 hf5; obtain ⟨f0, f1, f2, f3, ff⟩ := hf4; have hbS := Tl.Mods.below (S := Hr.One w3.heap.size) hb4 (mods4 w4 w3.heap.size (.bool fn) (.bool fz) (.bool fv) (.bool fc)) (fun k hk => by rw [show k = _ from hk]; exact hb3.size) hb4.size)
              | skip))
    all_goals go_wp2
    all_goals go_meet
    all_goals first
      | exact ⟨rfl, rfl, _, rfl, hbS, hT⟩
      | exact ⟨rfl, rfl, _, rfl, hb6 _, heap_alloc_new _ _⟩
      | exact ⟨rfl, rfl, _, rfl, hb5 _, heap_alloc_new _ _⟩
  case rest =>
  obtain ⟨rfl, rfl, fp, rfl, b3, hfp⟩ := hcut
  have HDa3 := Lib.hid (HDa2.out.below b3)
  have HL3 := Lib.hid ((b3.block _ (Tl.lt_of_heap HL2.out)).trans HL2.out)
  have HBw3 := Lib.hid (Tl.bel2 HBw.out b3)
  have HFp := Lib.hid hfp
  have K3 := Lib.hid (nx_below H.out HBw3.out)
  have HD3 := Lib.hid (HD.out.below HBw3.out)
  clear HDa2 HL2 HBw HP2 HQ2 K2 d0 d4 d5 hdl p0 p1 p2 p3 pf q0 q1 q2 q3 qf hpl hql b3 hfp HCy HAn HD
  have d4 := HDa3.out.c4
  rw [HCl.out] at d4
  have hdl := HDa3.out.lt
  obtain ⟨l0, l1, l2, l3, lf⟩ := cells4 HL3.out
  have hll := Tl.lt_of_heap HL3.out
  have HQR : Hid (∀ W, Ch w0 a S0 c W → Do W a d D → Calls Tryz.prog 178 #[.pointer (some ⟨d, 0, none⟩), .agg #[.int .i64 lz, .int .u32 lx, .int .i64 lr, .int .u32 la], .int .u32 X] W fun e w' => ∃ v, e = .returned v ∧ Rp W w' (c.res ⟨lz, lx, lr, la⟩ X).1 v ∧ Ch w0 a S0 (c.res ⟨lz, lx, lr, la⟩ X).2 w' ∧ Mv a W w') := Lib.hid fun W hW hD => result_any W hW d D hD lz lx lr la X HOl.out.z HOl.out.a HXU.out
  go_upto_region 4 with fail
  by_cases h16 : cl = 16
  · subst h16
    have HRe2 : Hid (R = (if ok then none else some ⟨52, [2], true⟩, c.cod ⟨fn, fz, fv, fc⟩)) := Lib.hid (by rw [HRe.out, if_pos (by simp)]; rfl)
    have H4 := Lib.hid K3.out.1
    have M4 := Lib.hid (show Mv a wc wc from Mv.refl _ _)
    go_upto_region 8 with fail
    have hd4 := HD3.out.mv M4.out K3.out.1
    have hf4 := (M4.out.heap K3.out.1 ⟨_, ⟨_, _, HFp.out⟩, by simp [Mty], by decide⟩).trans HFp.out
    obtain ⟨A4, cp4, hda4⟩ := hd4.da
    have d0 := hda4.c0
    have hdl4 := hda4.lt
    obtain ⟨f0, f1, f2, f3, ff⟩ := cells4 hf4
    have hfl := Tl.lt_of_heap hf4
    have K4 := Lib.hid (K3.out.2.trans M4.out)
    clear HRe hd4 hf4 hda4 HDa3 HL3 HBw3 HFp K3 HD3 d4 hdl l0 l1 l2 l3 lf hll HQR M4
    go_still_tail 5, (by kernel_rfl)
    change wpList _ _ _ _ _ wc.drew
    have K5 := Lib.hid (nx_trans K4.out (nx_below H4.out ((Below.refl wc.heap.size wc).drew)))
    clear K4 H4 d0 hdl4 f0 f1 f2 f3 ff hfl
    generalize wc.drew = V at *
    go_wp2_with fail
    refine (codes_any _ K5.out.1 fn fz fv fc).mono ?_
    rintro e w5 ⟨rfl, h5, m5⟩
    have H5 := Lib.hid h5
    have M5 := Lib.hid (K5.out.2.trans m5)
    clear h5 m5 K5
    cases ok with
    | true =>
      have HR := HRe2.out
      go_wp2
      rw [HR]
      exact bodyPost_ret (v := .pointer none) (by simp [results, Tryz.results109, go_sem]) rfl ⟨_, rfl, rfl, H5.out, M5.out⟩
    | false =>
      have HR := HRe2.out
      go_wp2_with fail
      refine (trap_any 52 2 _).mono ?_
      rintro e w6 ⟨b, rfl, hb, hr, hbl⟩
      have K6 := nx_below H5.out hbl
      have hs := M5.out.size
      go_wp2
      rw [HR]
      exact bodyPost_ret (v := .pointer (some ⟨b, 0, none⟩)) (by simp [results, Tryz.results109, go_sem]) rfl ⟨_, rfl, ⟨b, rfl, by omega, hr⟩, K6.1, M5.out.trans K6.2⟩
  · by_cases h17 : cl = 17
    · subst h17
      have HRe2 : Hid (R = (if ok then none else some ⟨52, [2], true⟩, c.cod ⟨fn, fz, fv, fc⟩)) := Lib.hid (by rw [HRe.out, if_pos (by simp)]; rfl)
      have H4 := Lib.hid K3.out.1
      have M4 := Lib.hid (show Mv a wc wc from Mv.refl _ _)
      go_upto_region 8 with fail
      have hd4 := HD3.out.mv M4.out K3.out.1
      have hf4 := (M4.out.heap K3.out.1 ⟨_, ⟨_, _, HFp.out⟩, by simp [Mty], by decide⟩).trans HFp.out
      obtain ⟨A4, cp4, hda4⟩ := hd4.da
      have d0 := hda4.c0
      have hdl4 := hda4.lt
      obtain ⟨f0, f1, f2, f3, ff⟩ := cells4 hf4
      have hfl := Tl.lt_of_heap hf4
      have K4 := Lib.hid (K3.out.2.trans M4.out)
      clear HRe hd4 hf4 hda4 HDa3 HL3 HBw3 HFp K3 HD3 d4 hdl l0 l1 l2 l3 lf hll HQR M4
      go_still_tail 5, (by kernel_rfl)
      change wpList _ _ _ _ _ wc.drew
      have K5 := Lib.hid (nx_trans K4.out (nx_below H4.out ((Below.refl wc.heap.size wc).drew)))
      clear K4 H4 d0 hdl4 f0 f1 f2 f3 ff hfl
      generalize wc.drew = V at *
      go_wp2_with fail
      refine (codes_any _ K5.out.1 fn fz fv fc).mono ?_
      rintro e w5 ⟨rfl, h5, m5⟩
      have H5 := Lib.hid h5
      have M5 := Lib.hid (K5.out.2.trans m5)
      clear h5 m5 K5
      cases ok with
      | true =>
        have HR := HRe2.out
        go_wp2
        rw [HR]
        exact bodyPost_ret (v := .pointer none) (by simp [results, Tryz.results109, go_sem]) rfl ⟨_, rfl, rfl, H5.out, M5.out⟩
      | false =>
        have HR := HRe2.out
        go_wp2_with fail
        refine (trap_any 52 2 _).mono ?_
        rintro e w6 ⟨b, rfl, hb, hr, hbl⟩
        have K6 := nx_below H5.out hbl
        have hs := M5.out.size
        go_wp2
        rw [HR]
        exact bodyPost_ret (v := .pointer (some ⟨b, 0, none⟩)) (by simp [results, Tryz.results109, go_sem]) rfl ⟨_, rfl, ⟨b, rfl, by omega, hr⟩, K6.1, M5.out.trans K6.2⟩
    · have e16 : (cl == 16) = false := by simpa using h16
      have e17 : (cl == 17) = false := by simpa using h17
      have n16 : (cl != 16) = true := by simpa using h16
      have n17 : (cl != 17) = true := by simpa using h17
      have HRe3 : Hid (R = Mc.thn (c.res ⟨lz, lx, lr, la⟩ X) fun c' => (if ok then none else some ⟨52, [2], true⟩, c'.cod ⟨fn, fz, fv, fc⟩)) := Lib.hid (by rw [HRe.out, if_neg (by simp [h16, h17])]; rfl)
      generalize hQ : c.res ⟨lz, lx, lr, la⟩ X = Q1 at *
      clear hQ
      obtain ⟨o1, c1⟩ := Q1
      go_wp2_with fail
      refine (HQR.out _ K3.out.1 HD3.out).mono ?_
      rintro e w3 ⟨v, rfl, r3, h3, m3⟩
      have R3 := Lib.hid r3
      have H4 := Lib.hid h3
      have M4 := Lib.hid m3
      clear r3 h3 m3
      cases o1 with
      | none =>
        have hv : v = .pointer none := R3.out
        subst hv
        have HRe2 : Hid (R = (if ok then none else some ⟨52, [2], true⟩, c1.cod ⟨fn, fz, fv, fc⟩)) := HRe3
        have hd4 := HD3.out.mv M4.out K3.out.1
        have hf4 := (M4.out.heap K3.out.1 ⟨_, ⟨_, _, HFp.out⟩, by simp [Mty], by decide⟩).trans HFp.out
        obtain ⟨A4, cp4, hda4⟩ := hd4.da
        have d0 := hda4.c0
        have hdl4 := hda4.lt
        obtain ⟨f0, f1, f2, f3, ff⟩ := cells4 hf4
        have hfl := Tl.lt_of_heap hf4
        have K4 := Lib.hid (K3.out.2.trans M4.out)
        clear HRe hd4 hf4 hda4 HDa3 HL3 HBw3 HFp K3 HD3 d4 hdl l0 l1 l2 l3 lf hll HQR M4
        go_upto_region 8 with fail
        go_still_tail 5, (by kernel_rfl)
        change wpList _ _ _ _ _ w3.drew
        have K5 := Lib.hid (nx_trans K4.out (nx_below H4.out ((Below.refl w3.heap.size w3).drew)))
        clear K4 H4 d0 hdl4 f0 f1 f2 f3 ff hfl
        generalize w3.drew = V at *
        go_wp2_with fail
        refine (codes_any _ K5.out.1 fn fz fv fc).mono ?_
        rintro e w5 ⟨rfl, h5, m5⟩
        have H5 := Lib.hid h5
        have M5 := Lib.hid (K5.out.2.trans m5)
        clear h5 m5 K5
        cases ok with
        | true =>
          have HR := HRe2.out
          go_wp2
          rw [HR]
          exact bodyPost_ret (v := .pointer none) (by simp [results, Tryz.results109, go_sem]) rfl ⟨_, rfl, rfl, H5.out, M5.out⟩
        | false =>
          have HR := HRe2.out
          go_wp2_with fail
          refine (trap_any 52 2 _).mono ?_
          rintro e w6 ⟨b, rfl, hb, hr, hbl⟩
          have K6 := nx_below H5.out hbl
          have hs := M5.out.size
          go_wp2
          rw [HR]
          exact bodyPost_ret (v := .pointer (some ⟨b, 0, none⟩)) (by simp [results, Tryz.results109, go_sem]) rfl ⟨_, rfl, ⟨b, rfl, by omega, hr⟩, K6.1, M5.out.trans K6.2⟩
      | some r1 =>
        obtain ⟨b, rfl, hb, hrb⟩ := R3.out
        have HR : R = (some r1, c1) := HRe3.out
        clear HQR HRe HRe3
        go_wp2
        rw [HR]
        exact bodyPost_ret (v := .pointer (some ⟨b, 0, none⟩)) (by simp [results, Tryz.results109, go_sem]) rfl ⟨_, rfl, R3.out.from K3.out.2.size, H4.out, K3.out.2.trans M4.out⟩

end Go.Proofs.YteohkobdmkbcpaaGreatDoor.Cs
