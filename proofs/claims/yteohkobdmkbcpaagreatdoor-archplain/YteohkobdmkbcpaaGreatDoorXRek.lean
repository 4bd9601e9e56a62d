/- Contracts: result, trap, reckon. -/
import Derived.Test.YteohkobdmkbcpaaGreatDoorXPut
import Derived.StillTailTactics
namespace Go.Proofs.YteohkobdmkbcpaaGreatDoor.Cs
open Go.RowKit
set_option linter.unusedVariables false
set_option linter.unusedSimpArgs false

section
variable {w0 : World} {a : Ad} {S0 : Nat → Prop} {c : Mc}
theorem trap_any (v x : Int) (w : World) : Calls Tryz.prog 163 #[.int .i64 v, .int .u32 x] w fun e w' => ∃ b, e = .returned (.pointer (some ⟨b, 0, none⟩)) ∧ w.heap.size ≤ b ∧ Rb w' b ⟨v, [x], true⟩ ∧ Below w.heap.size w w' := by
  go_enter Tryz.func163, Tryz.ntmps163
  go_wp2
  refine bodyPost_ret (v := .pointer (some ⟨w.heap.size + 1, 0, none⟩)) (by simp [results, Tryz.results163, go_sem]) rfl ⟨_, rfl, by omega, ⟨some ⟨w.heap.size, 0, none⟩, 1, new_one w _ [.int .i64 v, .slice (some ⟨w.heap.size, 0, none⟩) 1 1, .bool true] _, .inr ⟨w.heap.size, rfl, ?_⟩⟩, by go_grown⟩
  have b1 : Below (w.alloc (.cells #[.int .u32 x] 23)).heap.size (w.alloc (.cells #[.int .u32 x] 23)) ((w.alloc (.cells #[.int .u32 x] 23)).alloc (.cells #[.int .i64 v, .slice (some ⟨w.heap.size, 0, none⟩) 1 1, .bool true] 80)) := by go_grown
  exact (b1.block _ (by simp)).trans (heap_alloc_new _ _)

set_option maxHeartbeats 1000000 in
set_option maxRecDepth 100000 in
theorem result_any (w : World) (h : Ch w0 a S0 c w) (d : Nat) (D : Dg) (hd : Do w a d D) (oz ox orr oa x : Int) (hz : Bt.Sz oz) (ha : U oa) (hx : U x) : Calls Tryz.prog 178 #[.pointer (some ⟨d, 0, none⟩), .agg #[.int .i64 oz, .int .u32 ox, .int .i64 orr, .int .u32 oa], .int .u32 x] w fun e w' =>
    ∃ v, e = .returned v ∧ Rp w w' (c.res ⟨oz, ox, orr, oa⟩ x).1 v ∧ Ch w0 a S0 (c.res ⟨oz, ox, orr, oa⟩ x).2 w' ∧ Mv a w w' := by
  have H := Lib.hid h
  have hb0 : (w.alloc (.cells #[.int .i64 oz, .int .u32 ox, .int .i64 orr, .int .u32 oa] 122)).heap[w.heap.size]? = some (.cells #[.int .i64 oz, .int .u32 ox, .int .i64 orr, .int .u32 oa] 122 (0, 0)) := heap_alloc_new _ _
  have hB : Below w.heap.size w (w.alloc (.cells #[.int .i64 oz, .int .u32 ox, .int .i64 orr, .int .u32 oa] 122)) := by go_grown
  have K := Lib.hid (nx_below h hB)
  have hd1 := hd.below hB
  have HP : Hid (∀ W, Ch w0 a S0 c W → Calls Tryz.prog 216 #[.pointer (some ⟨a.g, 0, none⟩), .int .u32 oa, .int .u32 x, .int .i64 oz] W fun e w' => ∃ v, e = .returned v ∧ Rp W w' (c.put oa x oz).1 v ∧ Ch w0 a S0 (c.put oa x oz).2 w' ∧ Mv a W w') := Lib.hid fun W hW => put_any W hW oa x oz ha
  have HS : Hid (∀ W, Ch w0 a S0 c W → Calls Tryz.prog 77 #[.pointer (some ⟨a.fg, 0, none⟩), .int .i64 orr, .int .u32 x, .int .i64 oz] W fun e w' => (∃ v, e = .returned (.int .i64 v)) ∧ Ch w0 a S0 (c.sp orr x oz) w' ∧ Mv a W w') := Lib.hid fun W hW => fsetz W hW orr x oz hx hz
  generalize hR : c.res ⟨oz, ox, orr, oa⟩ x = R
  have HR := Lib.hid hR
  obtain ⟨A, cp, hda⟩ := hd1.da
  obtain ⟨b0, b1, b2, b3, bf⟩ := cells4 hb0
  have d0 := hda.c0
  have hdl := hda.lt
  have hbl := Tl.lt_of_heap hb0
  have m2 := K.out.1.c2
  have hgl := K.out.1.glt
  clear h hd hd1 hda hR hb0
  go_enter Tryz.func178, Tryz.ntmps178
  go_upto_region 1 with fail
  generalize w.alloc (.cells #[.int .i64 oz, .int .u32 ox, .int .i64 orr, .int .u32 oa] 122) = W at *
  generalize w.heap.size = g at *
  by_cases hr : orr = -1
  · subst hr
    have HR2 : Hid (R = c.put oa x oz) := by show _ = _; rw [← HR.out, Mc.res, if_pos rfl]
    clear HR
    go_upto_region 2 with fail
    go_still_tail 9, (by kernel_rfl)
    change wpList _ _ _ _ _ W.drew
    have K2 := Lib.hid (nx_trans K.out.2 (nx_below K.out.1 ((Below.refl W.heap.size W).drew)))
    clear K m2 b0 b1 b2 b3 bf d0 hdl hbl hgl hB
    generalize W.drew = V at *
    go_wp2_with (first
      | (go_at_call 216; refine (HP.out _ K2.out.1).mono ?_; rintro e w3 ⟨v, rfl, r3, h3, m3⟩; have R3 := Lib.hid r3; have H3 := Lib.hid h3; have M3 := Lib.hid m3; clear r3 h3 m3)
      | fail)
    rw [HR2.out]
    exact bodyPost_ret (v := v) (by simp [results, Tryz.results178, go_sem]) rfl ⟨_, rfl, R3.out.from K2.out.2.size, H3.out, K2.out.2.trans M3.out⟩
  · have HR2 : Hid (R = (none, c.sp orr x oz)) := by show _ = _; rw [← HR.out, Mc.res, if_neg hr]
    have hr' : (orr == -1) = false := by simpa using hr
    clear HR
    go_upto_region 3 with fail
    go_still_tail 12, (by kernel_rfl)
    change wpList _ _ _ _ _ W.drew
    have K2 := Lib.hid (nx_trans K.out.2 (nx_below K.out.1 ((Below.refl W.heap.size W).drew)))
    clear K m2 b0 b1 b2 b3 bf d0 hdl hbl hgl hB
    generalize W.drew = V at *
    go_wp2_with (first
      | (go_at_call 77; refine (HS.out _ K2.out.1).mono ?_; rintro e w3 ⟨⟨v, rfl⟩, h3, m3⟩; have H3 := Lib.hid h3; have M3 := Lib.hid m3; clear h3 m3)
      | fail)
    rw [HR2.out]
    exact bodyPost_ret (v := .pointer none) (by simp [results, Tryz.results178, go_sem]) rfl ⟨_, rfl, rfl, H3.out, K2.out.2.trans M3.out⟩

/-! reckon -/
theorem two_new (W1 : World) (x y : List Value) (t : TypeId) : Below W1.heap.size W1 ((W1.alloc (.cells x.toArray t)).alloc (.cells y.toArray t)).drew ∧ ((W1.alloc (.cells x.toArray t)).alloc (.cells y.toArray t)).drew.heap[W1.heap.size]? = some (.cells x.toArray t (0, 0)) ∧ ((W1.alloc (.cells x.toArray t)).alloc (.cells y.toArray t)).drew.heap[W1.heap.size + 1]? = some (.cells y.toArray t (0, 0)) := by
  have b1 : Below (W1.alloc (.cells x.toArray t)).heap.size (W1.alloc (.cells x.toArray t)) ((W1.alloc (.cells x.toArray t)).alloc (.cells y.toArray t)).drew := by go_grown
  exact ⟨by go_grown, (b1.block _ (by simp)).trans (heap_alloc_new _ _), new_one W1 _ y _⟩
theorem heap4 {w : World} {b t : Nat} {o0 o1 o2 o3 : Value} (h : w.heap[b]? = some (.cells #[o0, o1, o2, o3] t (0, 0))) (v0 v1 v2 v3 : Value) : ((((w.setCell ⟨b, 0, none⟩ v0).setCell ⟨b, 1, none⟩ v1).setCell ⟨b, 2, none⟩ v2).setCell ⟨b, 3, none⟩ v3).heap[b]? = some (.cells #[v0, v1, v2, v3] t (0, 0)) := by
  have h0 := heap_setCell_same _ b 0 _ t v0 h
  have h1 := heap_setCell_same _ b 1 _ t v1 h0
  have h2 := heap_setCell_same _ b 2 _ t v2 h1
  exact heap_setCell_same _ b 3 _ t v3 h2
set_option maxHeartbeats 4000000 in
set_option maxRecDepth 100000 in
theorem reckon_2 (w0 : World) (a : Ad) (S0 : Nat → Prop) (c : Mc) (w : World) (d : Nat) (D : Dg) (h : Ch w0 a S0 c w) (hd : Do w a d D) (hn : D.l.length = 2) (az ax ar aa bz bx br ba cl al : Int)
    (hcl : D.op.cls = cl) (hal : D.op.alu = al) (ha : D.l.getD 0 zod = ⟨az, ax, ar, aa⟩) (oa : Od.Ok ⟨az, ax, ar, aa⟩) (hb : D.l.getD 1 zod = ⟨bz, bx, br, ba⟩) (ob : Od.Ok ⟨bz, bx, br, ba⟩) :
    Calls Tryz.prog 109 #[.pointer (some ⟨d, 0, none⟩)] w fun e w' => ∃ v, e = .returned v ∧ Rp w w' (c.rek cl al D.l).1 v ∧ Ch w0 a S0 (c.rek cl al D.l).2 w' ∧ Mv a w w' := by
  have hRe : c.rek cl al D.l = Mc.thn (if cl = 16 ∨ cl = 17 then (none, c) else c.res ⟨bz, bx, br, ba⟩ (Bt.Al.an al ax bx c.cy az).x) fun c' => (if (Bt.Al.an al ax bx c.cy az).k then none else some ⟨52, [2], true⟩, c'.cod (Mc.flg (Bt.Al.an al ax bx c.cy az))) := by
    unfold Mc.rek
    simp only [hn, Nat.reduceSub, Nat.min_self, Nat.min_zero, (show min 1 2 = 1 from rfl), ha, hb]
  generalize hR : c.rek cl al D.l = R at *
  have HRe := Lib.hid hRe
  have H := Lib.hid h
  have HD := Lib.hid hd
  obtain ⟨A, cp, hda⟩ := hd.da
  rw [hn] at hda
  obtain ⟨r, rfl, _⟩ := hda.at_ 0 (by omega)
  have HDa := Lib.hid hda
  have Ha := Lib.hid ha
  have Hb := Lib.hid hb
  have HCl := Lib.hid hcl
  have HAl := Lib.hid hal
  have HXU := Lib.hid (Bt.Al.an_U (op := al) (a := ax) (b := bx) (c := c.cy) (s := az) oa.z)
  have HCy := Lib.hid (fun W hW => carry_any (w0 := w0) (a := a) (S0 := S0) (c := c) W hW)
  have HAn := Lib.hid (fun W => Bt.Al.do_any al ax bx az c.cy oa.z oa.x ob.x W)
  have HOl := Lib.hid ob
  clear h hd hda ha hb hR hRe hcl hal hn oa ob
  generalize Bt.Al.an al ax bx c.cy az = An at *
  obtain ⟨X, fn, fz, fv, fc, ok⟩ := An
  have hAn2 : ∀ W, Calls Tryz.prog 176 #[.int .i64 al, .int .u32 ax, .int .u32 bx, .bool c.cy, .int .i64 az] W fun e w' => e = .returned (.tuple #[.int .u32 X, .agg #[.bool fn, .bool fz, .bool fv, .bool fc], .bool ok]) ∧ Below W.heap.size W w' := HAn.out
  clear HAn
  have HAn := Lib.hid hAn2
  clear hAn2
  obtain ⟨rl, x0, x1, x2, x3⟩ := HDa.out.k (k := 1) (by omega)
  rw [Hb.out] at x0 x1 x2 x3
  simp only [Nat.reduceMul, Nat.reduceAdd, Nat.zero_mul, Nat.zero_add] at x0 x1 x2 x3
  have d7 := HDa.out.c7
  have hdl := HDa.out.lt
  go_enter Tryz.func109, Tryz.ntmps109
  go_upto_region 1 with fail
  go_region
  all_goals go_upto_region 2 with fail
  have b1 : Below w.heap.size w (w.alloc (.cells #[.int .i64 bz, .int .u32 bx, .int .i64 br, .int .u32 ba] 122)).drew := by go_grown
  have hl1 : (w.alloc (.cells #[.int .i64 bz, .int .u32 bx, .int .i64 br, .int .u32 ba] 122)).drew.heap[w.heap.size]? = some (.cells #[.int .i64 bz, .int .u32 bx, .int .i64 br, .int .u32 ba] 122 (0, 0)) := heap_alloc_new _ _
  generalize (w.alloc (.cells #[.int .i64 bz, .int .u32 bx, .int .i64 br, .int .u32 ba] 122)).drew = W1 at *
  have HDa1 := Lib.hid (HDa.out.below b1)
  have HB1 := Lib.hid b1
  have HL1 := Lib.hid hl1
  have hgl := Tl.lt_of_heap hl1
  clear x0 x1 x2 x3 rl d7 hdl b1 hl1
  obtain ⟨rl, y0, y1, y2, y3⟩ := HDa1.out.k (k := 0) (by omega)
  rw [Ha.out] at y0 y1 y2 y3
  simp only [Nat.reduceMul, Nat.reduceAdd, Nat.zero_mul, Nat.zero_add] at y0 y1 y2 y3
  obtain ⟨_, z0, z1, z2, z3⟩ := HDa1.out.k (k := 1) (by omega)
  rw [Hb.out] at z0 z1 z2 z3
  simp only [Nat.reduceMul, Nat.reduceAdd, Nat.one_mul] at z0 z1 z2 z3
  have d7 := HDa1.out.c7
  have hdl := HDa1.out.lt
  have hrl := rl
  go_cut [4, 5] from 22 to 41 (fun v4 v5 W => ∃ pa pb : Nat, v4 = .pointer (some ⟨pa, 0, none⟩) ∧ v5 = .pointer (some ⟨pb, 0, none⟩) ∧ Below W1.heap.size W1 W ∧ W.heap[pa]? = some (.cells #[.int .i64 az, .int .u32 ax, .int .i64 ar, .int .u32 aa] 122 (0, 0)) ∧ W.heap[pb]? = some (.cells #[.int .i64 bz, .int .u32 bx, .int .i64 br, .int .u32 ba] 122 (0, 0)))
  case first =>
    have mt1 := two_new W1 [.int .i64 az, .int .u32 ax, .int .i64 ar, .int .u32 aa] [.int .i64 bz, .int .u32 bx, .int .i64 br, .int .u32 ba] 122
    have mt2 := two_new W1 [.int .i64 bz, .int .u32 bx, .int .i64 br, .int .u32 ba] [.int .i64 az, .int .u32 ax, .int .i64 ar, .int .u32 aa] 122
    have MT1 := Lib.hid mt1
    have MT2 := Lib.hid mt2
    clear mt1 mt2
    go_region_held (fun w' => w'.cell? ⟨d, 7, none⟩ = some (.slice (some ⟨r, 0, none⟩) 2 cp) ∧ w'.cell? ⟨r, 0, none⟩ = some (.int .i64 az) ∧ w'.cell? ⟨r, 1, none⟩ = some (.int .u32 ax) ∧ w'.cell? ⟨r, 2, none⟩ = some (.int .i64 ar) ∧ w'.cell? ⟨r, 3, none⟩ = some (.int .u32 aa) ∧ w'.cell? ⟨r, 4, none⟩ = some (.int .i64 bz) ∧ w'.cell? ⟨r, 5, none⟩ = some (.int .u32 bx) ∧ w'.cell? ⟨r, 6, none⟩ = some (.int .i64 br) ∧ w'.cell? ⟨r, 7, none⟩ = some (.int .u32 ba))
      (go_keep)
      (fail)
    all_goals
      go_wp2
      go_meet
      first
        | exact ⟨_, _, rfl, rfl, MT1.out.1, MT1.out.2.1, MT1.out.2.2⟩
        | exact ⟨_, _, rfl, rfl, MT2.out.1, MT2.out.2.2, MT2.out.2.1⟩
  case rest =>
  obtain ⟨pa, pb, rfl, rfl, b2, hp2, hq2⟩ := hcut
  have HDa2 := Lib.hid (HDa1.out.below b2)
  have HL2 := Lib.hid ((b2.block _ hgl).trans HL1.out)
  have HBw := Lib.hid (Tl.bel2 HB1.out b2)
  have HP2 := Lib.hid hp2
  have HQ2 := Lib.hid hq2
  have K2 := Lib.hid (nx_below H.out HBw.out)
  clear y0 y1 y2 y3 rl hrl z0 z1 z2 z3 d7 hdl b2 hp2 hq2 HDa1 HL1 HB1 hgl
  have d0 := HDa2.out.c0
  have d4 := HDa2.out.c4
  have d5 := HDa2.out.c5
  rw [HCl.out] at d4
  rw [HAl.out] at d5
  have hdl := HDa2.out.lt
  obtain ⟨p0, p1, p2, p3, pf⟩ := cells4 HP2.out
  obtain ⟨q0, q1, q2, q3, qf⟩ := cells4 HQ2.out
  have hpl := Tl.lt_of_heap HP2.out
  have hql := Tl.lt_of_heap HQ2.out
  go_upto_region 3 with fail
  go_cut [6, 7, 8] from 41 to 62 (fun v6 v7 v8 W => v6 = .int .u32 X ∧ v8 = .bool ok ∧ ∃ pf : Nat, v7 = .pointer (some ⟨pf, 0, none⟩) ∧ Below wc.heap.size wc W ∧ W.heap[pf]? = some (.cells #[.bool fn, .bool fz, .bool fv, .bool fc] 39 (0, 0)))
  case first =>
    go_region_held (fun w' => w'.cell? ⟨d, 0, none⟩ = some (.pointer (some ⟨a.g, 0, none⟩)) ∧ w'.cell? ⟨d, 5, none⟩ = some (.int .i64 al) ∧ w'.cell? ⟨pa, 0, none⟩ = some (.int .i64 az) ∧ w'.cell? ⟨pa, 1, none⟩ = some (.int .u32 ax) ∧ w'.cell? ⟨pb, 1, none⟩ = some (.int .u32 bx))
      (first | exact ⟨(hbS.cell hdl).trans d0, (hbS.cell hdl).trans d5, (hbS.cell hpl).trans p0, (hbS.cell hpl).trans p1, (hbS.cell hql).trans q1⟩ | exact ⟨((hb6 _).cell hdl).trans d0, ((hb6 _).cell hdl).trans d5, ((hb6 _).cell hpl).trans p0, ((hb6 _).cell hpl).trans p1, ((hb6 _).cell hql).trans q1⟩ | exact ⟨((hb5 _).cell hdl).trans d0, ((hb5 _).cell hdl).trans d5, ((hb5 _).cell hpl).trans p0, ((hb5 _).cell hpl).trans p1, ((hb5 _).cell hql).trans q1⟩ | exact ⟨(hb4.cell hdl).trans d0, (hb4.cell hdl).trans d5, (hb4.cell hpl).trans p0, (hb4.cell hpl).trans p1, (hb4.cell hql).trans q1⟩ | exact ⟨(hb3.cell hdl).trans d0, (hb3.cell hdl).trans d5, (hb3.cell hpl).trans p0, (hb3.cell hpl).trans p1, (hb3.cell hql).trans q1⟩ | go_keep)
      (first
        | (go_at_call 177; refine (HCy.out _ (K2.out.1.below (by go_grown))).mono ?_; rintro e w3 ⟨rfl, hb3'⟩; have hb3 := Tl.bel2 (a := wc) (by go_grown) hb3'; first | have hf := (hb3'.block wc.heap.size (by simp)).trans (heap_alloc_new _ _) | skip)
        | (go_at_call 176; refine (HAn.out _).mono ?_; rintro e w4 ⟨rfl, hb4'⟩; have hb4 := Tl.bel2 hb3 (Tl.bel2 (a := w3) (by go_grown) hb4'); have hb5 : ∀ o : Obj, Below wc.heap.size wc (w4.alloc o).drew := fun o => Tl.bel2 hb4 (by go_grown); have hb6 : ∀ o : Obj, Below wc.heap.size wc (w4.alloc o) := fun o => Tl.bel2 hb4 (by go_grown); first
              | (have hf5 := (hb4'.block _ (Tl.lt_of_heap hf)).trans hf; have hT := heap4 hf5 (.bool fn) (.bool fz) (.bool fv) (.bool fc); have hf4 := cells4 hf5; obtain ⟨f0, f1, f2, f3, ff⟩ := hf4; have hbS := Tl.Mods.below (S := Hr.One wc.heap.size) hb4 (mods4 w4 wc.heap.size (.bool fn) (.bool fz) (.bool fv) (.bool fc)) (fun k hk => Nat.le_of_eq hk.symm) hb4.size)
              | (have hf5 := (hb4'.block w3.heap.size (by simp)).trans (heap_alloc_new _ _); have hT := heap4 hf5 (.bool fn) (.bool fz) (.bool fv) (.bool fc); have hf4 := cells4 hf5; obtain ⟨f0, f1, f2, f3, ff⟩ := hf4; have hbS := Tl.Mods.below (S := Hr.One w3.heap.size) hb4 (mods4 w4 w3.heap.size (.bool fn) (.bool fz) (.bool fv) (.bool fc)) (fun k hk => by rw [show k = _ from hk]; exact hb3.size) hb4.size)
              | skip))
    all_goals go_wp2
    all_goals go_meet
    all_goals first
      | exact ⟨rfl, rfl, _, rfl, hbS, hT⟩
      | exact ⟨rfl, rfl, _, rfl, hb6 _, heap_alloc_new _ _⟩
      | exact ⟨rfl, rfl, _, rfl, hb5 _, heap_alloc_new _ _⟩
  case rest =>
  obtain ⟨rfl, rfl, fp, rfl, b3, hfp⟩ := hcut
  have HDa3 := Lib.hid (HDa2.out.below b3)
  have HL3 := Lib.hid ((b3.block _ (Tl.lt_of_heap HL2.out)).trans HL2.out)
  have HBw3 := Lib.hid (Tl.bel2 HBw.out b3)
  have HFp := Lib.hid hfp
  have K3 := Lib.hid (nx_below H.out HBw3.out)
  have HD3 := Lib.hid (HD.out.below HBw3.out)
  clear HDa2 HL2 HBw HP2 HQ2 K2 d0 d4 d5 hdl p0 p1 p2 p3 pf q0 q1 q2 q3 qf hpl hql b3 hfp HCy HAn HD
  have d4 := HDa3.out.c4
  rw [HCl.out] at d4
  have hdl := HDa3.out.lt
  obtain ⟨l0, l1, l2, l3, lf⟩ := cells4 HL3.out
  have hll := Tl.lt_of_heap HL3.out
  have HQR : Hid (∀ W, Ch w0 a S0 c W → Do W a d D → Calls Tryz.prog 178 #[.pointer (some ⟨d, 0, none⟩), .agg #[.int .i64 bz, .int .u32 bx, .int .i64 br, .int .u32 ba], .int .u32 X] W fun e w' => ∃ v, e = .returned v ∧ Rp W w' (c.res ⟨bz, bx, br, ba⟩ X).1 v ∧ Ch w0 a S0 (c.res ⟨bz, bx, br, ba⟩ X).2 w' ∧ Mv a W w') := Lib.hid fun W hW hD => result_any W hW d D hD bz bx br ba X HOl.out.z HOl.out.a HXU.out
  go_upto_region 4 with fail
  by_cases h16 : cl = 16
  · subst h16
    have HRe2 : Hid (R = (if ok then none else some ⟨52, [2], true⟩, c.cod ⟨fn, fz, fv, fc⟩)) := Lib.hid (by rw [HRe.out, if_pos (by simp)]; rfl)
    have H4 := Lib.hid K3.out.1
    have M4 := Lib.hid (show Mv a wc wc from Mv.refl _ _)
    go_upto_region 8 with fail
    have hd4 := HD3.out.mv M4.out K3.out.1
    have hf4 := (M4.out.heap K3.out.1 ⟨_, ⟨_, _, HFp.out⟩, by simp [Mty], by decide⟩).trans HFp.out
    obtain ⟨A4, cp4, hda4⟩ := hd4.da
    have d0 := hda4.c0
    have hdl4 := hda4.lt
    obtain ⟨f0, f1, f2, f3, ff⟩ := cells4 hf4
    have hfl := Tl.lt_of_heap hf4
    have K4 := Lib.hid (K3.out.2.trans M4.out)
    clear HRe hd4 hf4 hda4 HDa3 HL3 HBw3 HFp K3 HD3 d4 hdl l0 l1 l2 l3 lf hll HQR M4
    go_still_tail 5, (by kernel_rfl)
    change wpList _ _ _ _ _ wc.drew
    have K5 := Lib.hid (nx_trans K4.out (nx_below H4.out ((Below.refl wc.heap.size wc).drew)))
    clear K4 H4 d0 hdl4 f0 f1 f2 f3 ff hfl
    generalize wc.drew = V at *
    go_wp2_with fail
    refine (codes_any _ K5.out.1 fn fz fv fc).mono ?_
    rintro e w5 ⟨rfl, h5, m5⟩
    have H5 := Lib.hid h5
    have M5 := Lib.hid (K5.out.2.trans m5)
    clear h5 m5 K5
    cases ok with
    | true =>
      have HR := HRe2.out
      go_wp2
      rw [HR]
      exact bodyPost_ret (v := .pointer none) (by simp [results, Tryz.results109, go_sem]) rfl ⟨_, rfl, rfl, H5.out, M5.out⟩
    | false =>
      have HR := HRe2.out
      go_wp2_with fail
      refine (trap_any 52 2 _).mono ?_
      rintro e w6 ⟨b, rfl, hb, hr, hbl⟩
      have K6 := nx_below H5.out hbl
      have hs := M5.out.size
      go_wp2
      rw [HR]
      exact bodyPost_ret (v := .pointer (some ⟨b, 0, none⟩)) (by simp [results, Tryz.results109, go_sem]) rfl ⟨_, rfl, ⟨b, rfl, by omega, hr⟩, K6.1, M5.out.trans K6.2⟩
  · by_cases h17 : cl = 17
    · subst h17
      have HRe2 : Hid (R = (if ok then none else some ⟨52, [2], true⟩, c.cod ⟨fn, fz, fv, fc⟩)) := Lib.hid (by rw [HRe.out, if_pos (by simp)]; rfl)
      have H4 := Lib.hid K3.out.1
      have M4 := Lib.hid (show Mv a wc wc from Mv.refl _ _)
      go_upto_region 8 with fail
      have hd4 := HD3.out.mv M4.out K3.out.1
      have hf4 := (M4.out.heap K3.out.1 ⟨_, ⟨_, _, HFp.out⟩, by simp [Mty], by decide⟩).trans HFp.out
      obtain ⟨A4, cp4, hda4⟩ := hd4.da
      have d0 := hda4.c0
      have hdl4 := hda4.lt
      obtain ⟨f0, f1, f2, f3, ff⟩ := cells4 hf4
      have hfl := Tl.lt_of_heap hf4
      have K4 := Lib.hid (K3.out.2.trans M4.out)
      clear HRe hd4 hf4 hda4 HDa3 HL3 HBw3 HFp K3 HD3 d4 hdl l0 l1 l2 l3 lf hll HQR M4
      go_still_tail 5, (by kernel_rfl)
      change wpList _ _ _ _ _ wc.drew
      have K5 := Lib.hid (nx_trans K4.out (nx_below H4.out ((Below.refl wc.heap.size wc).drew)))
      clear K4 H4 d0 hdl4 f0 f1 f2 f3 ff hfl
      generalize wc.drew = V at *
      go_wp2_with fail
      refine (codes_any _ K5.out.1 fn fz fv fc).mono ?_
      rintro e w5 ⟨rfl, h5, m5⟩
      have H5 := Lib.hid h5
      have M5 := Lib.hid (K5.out.2.trans m5)
      clear h5 m5 K5
      cases ok with
      | true =>
        have HR := HRe2.out
        go_wp2
        rw [HR]
        exact bodyPost_ret (v := .pointer none) (by simp [results, Tryz.results109, go_sem]) rfl ⟨_, rfl, rfl, H5.out, M5.out⟩
      | false =>
        have HR := HRe2.out
        go_wp2_with fail
        refine (trap_any 52 2 _).mono ?_
        rintro e w6 ⟨b, rfl, hb, hr, hbl⟩
        have K6 := nx_below H5.out hbl
        have hs := M5.out.size
        go_wp2
        rw [HR]
        exact bodyPost_ret (v := .pointer (some ⟨b, 0, none⟩)) (by simp [results, Tryz.results109, go_sem]) rfl ⟨_, rfl, ⟨b, rfl, by omega, hr⟩, K6.1, M5.out.trans K6.2⟩
    · have e16 : (cl == 16) = false := by simpa using h16
      have e17 : (cl == 17) = false := by simpa using h17
      have n16 : (cl != 16) = true := by simpa using h16
      have n17 : (cl != 17) = true := by simpa using h17
      have HRe3 : Hid (R = Mc.thn (c.res ⟨bz, bx, br, ba⟩ X) fun c' => (if ok then none else some ⟨52, [2], true⟩, c'.cod ⟨fn, fz, fv, fc⟩)) := Lib.hid (by rw [HRe.out, if_neg (by simp [h16, h17])]; rfl)
      generalize hQ : c.res ⟨bz, bx, br, ba⟩ X = Q1 at *
      clear hQ
      obtain ⟨o1, c1⟩ := Q1
      go_wp2_with fail
      refine (HQR.out _ K3.out.1 HD3.out).mono ?_
      rintro e w3 ⟨v, rfl, r3, h3, m3⟩
      have R3 := Lib.hid r3
      have H4 := Lib.hid h3
      have M4 := Lib.hid m3
      clear r3 h3 m3
      cases o1 with
      | none =>
        have hv : v = .pointer none := R3.out
        subst hv
        have HRe2 : Hid (R = (if ok then none else some ⟨52, [2], true⟩, c1.cod ⟨fn, fz, fv, fc⟩)) := HRe3
        have hd4 := HD3.out.mv M4.out K3.out.1
        have hf4 := (M4.out.heap K3.out.1 ⟨_, ⟨_, _, HFp.out⟩, by simp [Mty], by decide⟩).trans HFp.out
        obtain ⟨A4, cp4, hda4⟩ := hd4.da
        have d0 := hda4.c0
        have hdl4 := hda4.lt
        obtain ⟨f0, f1, f2, f3, ff⟩ := cells4 hf4
        have hfl := Tl.lt_of_heap hf4
        have K4 := Lib.hid (K3.out.2.trans M4.out)
        clear HRe hd4 hf4 hda4 HDa3 HL3 HBw3 HFp K3 HD3 d4 hdl l0 l1 l2 l3 lf hll HQR M4
        go_upto_region 8 with fail
        go_still_tail 5, (by kernel_rfl)
        change wpList _ _ _ _ _ w3.drew
        have K5 := Lib.hid (nx_trans K4.out (nx_below H4.out ((Below.refl w3.heap.size w3).drew)))
        clear K4 H4 d0 hdl4 f0 f1 f2 f3 ff hfl
        generalize w3.drew = V at *
        go_wp2_with fail
        refine (codes_any _ K5.out.1 fn fz fv fc).mono ?_
        rintro e w5 ⟨rfl, h5, m5⟩
        have H5 := Lib.hid h5
        have M5 := Lib.hid (K5.out.2.trans m5)
        clear h5 m5 K5
        cases ok with
        | true =>
          have HR := HRe2.out
          go_wp2
          rw [HR]
          exact bodyPost_ret (v := .pointer none) (by simp [results, Tryz.results109, go_sem]) rfl ⟨_, rfl, rfl, H5.out, M5.out⟩
        | false =>
          have HR := HRe2.out
          go_wp2_with fail
          refine (trap_any 52 2 _).mono ?_
          rintro e w6 ⟨b, rfl, hb, hr, hbl⟩
          have K6 := nx_below H5.out hbl
          have hs := M5.out.size
          go_wp2
          rw [HR]
          exact bodyPost_ret (v := .pointer (some ⟨b, 0, none⟩)) (by simp [results, Tryz.results109, go_sem]) rfl ⟨_, rfl, ⟨b, rfl, by omega, hr⟩, K6.1, M5.out.trans K6.2⟩
      | some r1 =>
        obtain ⟨b, rfl, hb, hrb⟩ := R3.out
        have HR : R = (some r1, c1) := HRe3.out
        clear HQR HRe HRe3
        go_wp2
        rw [HR]
        exact bodyPost_ret (v := .pointer (some ⟨b, 0, none⟩)) (by simp [results, Tryz.results109, go_sem]) rfl ⟨_, rfl, R3.out.from K3.out.2.size, H4.out, K3.out.2.trans M4.out⟩
end

end Go.Proofs.YteohkobdmkbcpaaGreatDoor.Cs
