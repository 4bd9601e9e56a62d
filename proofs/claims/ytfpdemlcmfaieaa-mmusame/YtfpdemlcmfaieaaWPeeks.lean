/- The walk of MmuPeeks. -/
import Derived.Test.YtfpdemlcmfaieaaMNumb
namespace Go.Proofs.Ytfpdemlcmfaieaa.Cs
open Go.RowKit

set_option maxHeartbeats 400000 in
theorem peeks_out (A : Option Addr) (n c : Nat) (t : Tabs) (va k : Int) (u : Bool) (w : World) (h : 8192 < n ∨ k < 0 ∨ 4 < k) :
    Calls Try.prog 6 #[.slice A n c, (Value.agg #[Value.int .u32 (Tabs.pb t), Value.int .u32 (Tabs.pn t), Value.int .u32 (Tabs.sb t), Value.int .u32 (Tabs.sn t), Value.int .u32 (Tabs.me t)]), .int .u32 va, .bool u, .int .i64 k] w fun e w' => e = .returned (.bool true) ∧ Below w.heap.size w w' := by
  by_cases h1 : 8192 < n
  · have h1' : (8192 : Int) < (n : Int) := by omega
    clear h
    go_enter Try.func6, Try.ntmps6
    go_wp2_with fail
    refine (alive _).mono ?_
    rintro e w1 ⟨rfl, hb1⟩
    have hb := Tl.bel2 (a := w) (by go_grown) hb1
    go_wp2
    go_ret
    exact ⟨rfl, hb⟩
  · have h1' : ¬ (8192 : Int) < (n : Int) := by omega
    by_cases h2 : k < 0
    · clear h
      go_enter Try.func6, Try.ntmps6
      go_wp2_with fail
      refine (alive _).mono ?_
      rintro e w1 ⟨rfl, hb1⟩
      have hb := Tl.bel2 (a := w) (by go_grown) hb1
      go_wp2
      go_ret
      exact ⟨rfl, hb⟩
    · have h3 : 4 < k := by omega
      clear h
      go_enter Try.func6, Try.ntmps6
      go_wp2_with fail
      refine (alive _).mono ?_
      rintro e w1 ⟨rfl, hb1⟩
      have hb := Tl.bel2 (a := w) (by go_grown) hb1
      go_wp2
      go_ret
      exact ⟨rfl, hb⟩

/-- Tables in a block. -/
def Tt (W : World) (q : Nat) (t : Tabs) : Prop := W.heap[q]? = some (.cells #[.int .u32 t.pb, .int .u32 t.pn, .int .u32 t.sb, .int .u32 t.sn, .int .u32 t.me] 25 (0, 0))
theorem Tt.new {w : World} {t : Tabs} : Tt (w.alloc (.cells #[.int .u32 t.pb, .int .u32 t.pn, .int .u32 t.sb, .int .u32 t.sn, .int .u32 t.me] 25)) w.heap.size t := heap_alloc_new _ _
section
variable {W W' : World} {q : Nat} {t : Tabs}
theorem Tt.lt (h : Tt W q t) : q < W.heap.size := Tl.lt_of_heap h
theorem Tt.below (h : Tt W q t) (b : Below W.heap.size W W') : Tt W' q t := (b.block _ h.lt).trans h
theorem Tt.cells (h : Tt W q t) : W.cell? ⟨q, 0, none⟩ = some (.int .u32 t.pb) ∧ W.cell? ⟨q, 1, none⟩ = some (.int .u32 t.pn) ∧ W.cell? ⟨q, 2, none⟩ = some (.int .u32 t.sb) ∧ W.cell? ⟨q, 3, none⟩ = some (.int .u32 t.sn) ∧ W.cell? ⟨q, 4, none⟩ = some (.int .u32 t.me) := by
  unfold Tt at h
  rw [cell_of_row W _ 0 _ _ _ h, cell_of_row W _ 1 _ _ _ h, cell_of_row W _ 2 _ _ _ h, cell_of_row W _ 3 _ _ _ h, cell_of_row W _ 4 _ _ _ h]
  exact ⟨rfl, rfl, rfl, rfl, rfl⟩
end
/-- The memory is made and loaded: what it has. -/
theorem load_whole (rg r n c : Nat) (A : Option Addr) (ys : List Int) (w : World) (h : Rm.Mem w rg r (List.replicate n 0)) (hi : In w A n c ys) :
    Calls Try.prog 13 #[(Value.pointer (some ⟨rg, 0, none⟩)), .int .u32 0, .slice A n c] w fun e w' => e = .returned (.int .i64 0) ∧ Rm.Mem w' rg r ys ∧ w.grownBy w' (some r) :=
  Rm.load_all rg r n c ys A w h hi.src hi.len hi.byt

theorem out_one_ok {t : Tabs} {xs : List Int} {va a : Int} {u wr : Bool} (h : plE t xs [] va 1 u wr = .ok a) : out t xs u wr va 1 = .ok [⟨va, a, 1⟩] := by rw [out, walk_one_ok h]
theorem out_one_bad {t : Tabs} {xs : List Int} {va k i : Int} {u wr : Bool} (h : plE t xs [] va 1 u wr = .bad k i) : out t xs u wr va 1 = .bad k va i := by rw [out, walk_one_bad h]
theorem gat_one {xs : List Int} {va a : Int} {n : Nat} (h : a.toNat < xs.length) : gat xs [⟨va, a, n + 1⟩] = xs.getD a.toNat 0 :: ((xs.drop (a.toNat + 1)).take n) := by
  simp only [gat, List.flatMap_cons, List.flatMap_nil, List.append_nil]
  rw [List.drop_eq_getElem_cons h, List.take_succ_cons]
  simp [List.getD, h]
/-- Peek, in one. -/
theorem peek_any (g rg tg r : Nat) (S : Nat → Prop) (t : Tabs) (rows : Rows) (xs : List Int) (va : Int) (u : Bool) (w : World) (h : Ms w g rg r tg S t rows xs) (hv : U va) (hc : Coh t xs rows) (a : Acc) (y : Int) (ha : out t xs u false va 1 = a) (hy : (accY xs a).getD 0 0 = y) :
    Calls Try.prog 23 #[(Value.pointer (some ⟨g, 0, none⟩)), .int .u32 va, .bool u] w fun e w' => e = .returned (.tuple #[.int .u8 y, (Value.agg #[Value.int .i64 (fk a), Value.int .u32 (fa a), Value.int .u32 (fi a)])]) ∧ ∃ S', Ms w' g rg r tg S' t rows xs ∧ Tl.Step S S' w w' := by
  subst hy
  have hp := hc.pl hv 1 u false
  cases hq : plE t xs [] va 1 u false with
  | bad k i =>
    rw [out_one_bad hq] at ha
    subst ha
    exact peek_bad g rg tg r S t rows xs va k i u w h hv (hp.trans hq)
  | ok p =>
    rw [out_one_ok hq] at ha
    subst ha
    have := peek_ok g rg tg r S t rows xs va p u w h hv (hp.trans hq)
    obtain ⟨h1, h2, _⟩ := plE_ok hv hq
    rw [show (accY xs (.ok [⟨va, p, 1⟩])).getD 0 0 = xs.getD p.toNat 0 by
      show (gat xs [⟨va, p, 0 + 1⟩]).getD 0 0 = _
      rw [gat_one (by omega)]; rfl]
    exact this

set_option maxRecDepth 100000 in
set_option maxHeartbeats 4000000 in
theorem peeks_in (A : Option Addr) (n c : Nat) (ys : List Int) (t : Tabs) (va k : Int) (u : Bool) (w : World) (hi : In w A n c ys) (ht : t.Ok) (hv : U va) (hn : n ≤ 8192) (hk : 0 ≤ k) (hk4 : k ≤ 4) :
    Calls Try.prog 6 #[.slice A n c, (Value.agg #[Value.int .u32 (Tabs.pb t), Value.int .u32 (Tabs.pn t), Value.int .u32 (Tabs.sb t), Value.int .u32 (Tabs.sn t), Value.int .u32 (Tabs.me t)]), .int .u32 va, .bool u, .int .i64 k] w fun e w' => e = .returned (.bool true) ∧ Below w.heap.size w w' := by
  have g1 : ¬ (8192 : Int) < (n : Int) := by omega
  have g2 : ¬ k < 0 := by omega
  have g3 : ¬ 4 < k := by omega
  have HI := Lib.hid hi
  have HTk := Lib.hid ht
  have HV := Lib.hid hv
  clear hi ht hv
  go_enter Try.func6, Try.ntmps6
  go_wp2_with fail
  refine (alive _).mono ?_
  rintro e w0 ⟨rfl, hb0⟩
  have HTt := Lib.hid (Tt.below Tt.new hb0)
  have HB0 := Lib.hid (Tl.bel2 (a := w) (by go_grown) hb0)
  clear hb0
  go_wp2_with fail
  refine (Rm.new_any n _).mono ?_
  rintro e w1 ⟨rg, r, rfl, h1, h2, hm, hb⟩
  have hr : w.heap.size ≤ r := Nat.le_trans HB0.out.size h2
  have HM := Lib.hid hm
  have HB := Lib.hid (Tl.bel2 HB0.out hb)
  have HTt1 := Lib.hid (HTt.out.below hb)
  rw [Rm.sized_nat n (by omega)] at HM
  clear hm hb h1 h2 HB0 HTt
  go_wp2_with fail
  refine (load_whole rg r n c A ys _ HM.out (HI.out.below HB.out)).mono ?_
  rintro e w2 ⟨rfl, hm2, hg2⟩
  have HM2 := Lib.hid hm2
  have HB2 := Lib.hid (Rm.below_of_grown HB.out hg2 HB.out.size hr)
  have HTt2 : Hid (Tt w2 w.heap.size t) := (hg2.block _ HTt1.out.lt (fun e => by
    injection e with e
    have t1 : Typ w1 w.heap.size 25 := ⟨_, _, HTt1.out⟩
    rw [e] at t1
    exact absurd (t1.ne (mem_typ HM.out).2) (by decide))).trans HTt1.out
  clear hm2 hg2 HM HB HTt1
  go_wp2_with fail
  refine (mnew_any rg _).mono ?_
  rintro e w4 ⟨g, tg, S, rfl, h4, _, hx, hA, hb⟩
  have HT := Lib.hid (Tp.make HM2.out hr HB2.out h4 hx hA hb)
  obtain ⟨q0, q1, q2, q3, q4⟩ := (HTt2.out.below hb).cells
  clear h4 hx hA hb HM2 HB2 HTt2
  go_wp2_with fail
  refine (set_any g rg tg S noTabs t [] _ HT.out.ms.mx HTk.out).mono ?_
  rintro e w5 ⟨rfl, S5, hx5, hs5⟩
  have HT5 := Lib.hid (HT.out.set hx5 hs5)
  clear hx5 hs5 HT q0 q1 q2 q3 q4
  have HBy := Lib.hid HT5.out.ms.mem.byt
  obtain ⟨a1, ha1⟩ : ∃ a1, out t ys u false va 1 = a1 := ⟨_, rfl⟩
  obtain ⟨a2, ha2⟩ : ∃ a2, out t ys u false va k.toNat = a2 := ⟨_, rfl⟩
  obtain ⟨rows6, W6, C6, F6⟩ := walk_out (u := u) (wr := false) (keep := true) (n := 1) HBy.out HV.out (Coh.nil (t := t)) Tl.Fit.nil
  obtain ⟨rows7, W7, C7, F7⟩ := walk_out (u := u) (wr := false) (keep := true) (n := k.toNat) HBy.out HV.out C6 F6
  obtain ⟨rows8, W8, C8, F8⟩ := walk_out (u := u) (wr := false) (keep := true) (n := k.toNat) HBy.out HV.out C7 F7
  obtain ⟨rows9, W9, _, _⟩ := walk_out (u := u) (wr := false) (keep := true) (n := k.toNat) HBy.out HV.out C8 F8
  rw [ha1] at W6
  rw [ha2] at W7 W8 W9
  have HA1 := Lib.hid ha1
  have HW6 := Lib.hid W6
  have HW7 : Hid (walk t ys u false true rows6 [] va (min k 4).toNat = (a2, rows7)) := by show _ = _; rw [Int.min_eq_left hk4]; exact W7
  have HW8 := Lib.hid W8
  have HW9 := Lib.hid W9
  have HL1 := Lib.hid (accY_len HV.out W6)
  have HL2 := Lib.hid (accY_len HV.out W7).1
  clear W6 W7 W8 W9 C6 C7 C8 F6 F7 F8 ha1 ha2
  obtain ⟨y, hy⟩ : ∃ y, (accY ys a1).getD 0 0 = y := ⟨_, rfl⟩
  have HY := Lib.hid hy
  clear hy
  go_wp2_with fail
  refine (peek_any g rg tg r S5 t [] ys va u _ HT5.out.ms HV.out Coh.nil a1 y HA1.out HY.out).mono ?_
  rintro e w6 ⟨rfl, S6, hm6, hs6⟩
  have HT6 := Lib.hid (HT5.out.turn' hm6 hs6)
  clear hm6 hs6 HT5
  go_wp2_with fail
  refine (buffered_any g rg tg 0 S6 t [] _ (HT6.out.ms.mx.below (by go_grown)) rfl).mono ?_
  rintro e w7 ⟨b7, cap7, rfl, _, _, hb7⟩
  have HT7 := Lib.hid ((HT6.out.below (by go_grown)).below hb7)
  have HF7 := Lib.hid (Fv.below (Fv.new (W := w6)) hb7)
  clear hb7 HT6
  go_wp2_with fail
  refine (load_any g rg tg r S6 t [] rows6 ys a1 va 1 u _ HT7.out.ms HV.out (by omega) HW6.out).mono ?_
  rintro e w8 ⟨⟨v8, rfl, hr8, _⟩, S8, hm8, hs8⟩
  have HT8 := Lib.hid (HT7.out.turn' hm8 hs8)
  have HF8 := Lib.hid (HF7.out.mods HT7.out.ms (step_rg hs8).mods)
  obtain ⟨A8, c8, rfl, HC8⟩ := hr8.open_
  clear hm8 hs8 HT7 HF7 hr8
  obtain ⟨x0, x1, x2, _, _, _⟩ := HF8.out.cells
  have hz8 := HF8.out.lt
  have hcase : ((fk a1 == 0) = false) ∨ (fk a1 = 0 ∧ ∃ b8, A8 = some ⟨b8, 0, none⟩ ∧ b8 < w8.heap.size ∧ (accY ys a1).length = 1 ∧ w8.cell? ⟨b8, 0, none⟩ = some (.int .u8 y)) := by
    cases a1 with
    | bad k1 v1 i1 =>
      left
      have := (walk_bad_kd _ _ _ _ _ _ _ _ HV.out HW6.out).1.1
      show (k1 == 0) = false
      simp
      omega
    | ok l =>
      right
      have hl := HL1.out.2 l rfl
      obtain ⟨b8, e8, h8, hc8⟩ := HC8.out 0 (by omega)
      rw [HY.out] at hc8
      exact ⟨rfl, b8, e8, h8, hl, hc8⟩
  have HN2 : Hid (Rm.Byt (accY ys a2)) := byt_accY HBy.out a2
  clear HY
  generalize (accY ys a1).length = ln at *
  generalize fk a1 = K1 at *
  generalize fa a1 = V1 at *
  generalize fi a1 = I1 at *
  clear HC8 HL1
  rcases hcase with hK | ⟨rfl, b8, rfl, hb8, rfl, hc8⟩
  all_goals
    go_wp2_with fail
    refine (get_any g rg tg r S8 t rows6 rows7 ys a2 va k u _ (HT8.out.ms.below (by go_grown)) HV.out HW7.out).mono ?_
    rintro e w9 ⟨rfl, S9, hm9, hs9⟩
    have HT9 := Lib.hid ((HT8.out.below (by go_grown)).turn' hm9 hs9)
    clear hm9 hs9 x0 x1 x2
    have hz9 := HT9.out.bel.size
    go_wp2_with fail
    refine (load_any g rg tg r S9 t rows7 rows8 ys a2 va k u _ (HT9.out.ms.below (by go_grown)) HV.out (by omega) HW8.out).mono ?_
    rintro e w10 ⟨⟨v10, rfl, hr10, hab10⟩, S10, hm10, hs10⟩
    have HT10 := Lib.hid ((HT9.out.below (by go_grown)).turn' hm10 hs10)
    have HF9 := Lib.hid (Fv.mods (Fv.new (W := w9)) (HT9.out.ms.below (by go_grown)) (step_rg hs10).mods)
    obtain ⟨A10, c10, rfl⟩ := hr10.shape
    have HR10 := Lib.hid hr10
    clear hm10 hs10 hr10 hab10 HT9
    obtain ⟨p0, p1, p2, _, _, _⟩ := HF9.out.cells
    have hzp := HF9.out.lt
    have hz10 := HT10.out.bel.size
    obtain ⟨zn, hzn⟩ : ∃ zn, (accY ys a2).length = zn := ⟨_, rfl⟩
    have HZN := Lib.hid hzn
    rw [hzn] at HR10 ⊢
    clear hzn
    obtain ⟨zs, hzs⟩ : ∃ zs, accY ys a2 = zs := ⟨_, rfl⟩
    rw [hzs] at HZN HR10 HN2 HL2 ⊢
    clear hzs
    have HPr := Lib.hid (fun W S (h : Mx W g rg tg S t rows8) (hm : Rm.Mem W rg r ys) => probe_any g rg tg r S t rows8 ys va k u false W h hm HV.out (by omega) a2 rows9 HW9.out)
    have HFl := Lib.hid (fun e => FlE.eq (a := a2) (e := e))
    obtain ⟨N2, hN2⟩ : ∃ N2, Rm.num zs = N2 := ⟨_, rfl⟩
    rw [hN2]
    have HNum : Hid (∀ W, R8 W (.slice A10 zn c10) zs → Calls Try.prog 32 #[.slice A10 zn c10] W fun e w' => e = .returned (.int .u32 N2) ∧ W = w') := fun W h => by
      rw [← hN2]
      exact number_any A10 zn c10 zs W HZN.out (by have := HL2.out; rw [HZN.out] at this; omega) HN2.out h
    clear hN2
    generalize fk a2 = K2 at *
    generalize fa a2 = V2 at *
    generalize fi a2 = I2 at *
    go_wp2_with fail
    have HTw := Lib.hid (HT10.out.below (W' := w10.alloc (.cells #[.int .i64 K2, .int .u32 V2, .int .u32 I2] 50)) (by go_grown))
    have HFa := Lib.hid (HF9.out.below (W' := w10.alloc (.cells #[.int .i64 K2, .int .u32 V2, .int .u32 I2] 50)) (by go_grown))
    have HFb := Lib.hid (Fv.new (W := w10) (k := K2) (va := V2) (i := I2))
    have HRw : Hid (R8 (w10.alloc (.cells #[.int .i64 K2, .int .u32 V2, .int .u32 I2] 50)) (.slice A10 zn c10) zs) := Tl.own_below HR10.out (by go_grown)
    have hqz : w10.heap.size < (w10.alloc (.cells #[.int .i64 K2, .int .u32 V2, .int .u32 I2] 50)).heap.size := by simp
    generalize w10.alloc (.cells #[.int .i64 K2, .int .u32 V2, .int .u32 I2] 50) = W at HTw HFa HFb HRw hqz ⊢
    obtain ⟨m0, m1, m2, _, _, _⟩ := HFa.out.cells
    obtain ⟨n0, n1, n2, _, _, _⟩ := HFb.out.cells
    clear p0 p1 p2 HR10 HF9 HT10
    go_region_held3 (fun w' => w'.cell? ⟨w9.heap.size, 0, none⟩ = some (.int .i64 K2) ∧ w'.cell? ⟨w9.heap.size, 1, none⟩ = some (.int .u32 V2) ∧ w'.cell? ⟨w9.heap.size, 2, none⟩ = some (.int .u32 I2) ∧ w'.cell? ⟨w10.heap.size, 0, none⟩ = some (.int .i64 K2) ∧ w'.cell? ⟨w10.heap.size, 1, none⟩ = some (.int .u32 V2) ∧ w'.cell? ⟨w10.heap.size, 2, none⟩ = some (.int .u32 I2))
      (first | go_keep | exact ⟨m0, m1, m2, n0, n1, n2⟩ | exact ⟨((HFa.out.below (by go_grown)).mods (HTw.out.ms.below (by go_grown)) (step_rg hs12).mods).cells.1, ((HFa.out.below (by go_grown)).mods (HTw.out.ms.below (by go_grown)) (step_rg hs12).mods).cells.2.1, ((HFa.out.below (by go_grown)).mods (HTw.out.ms.below (by go_grown)) (step_rg hs12).mods).cells.2.2.1, ((HFb.out.below (by go_grown)).mods (HTw.out.ms.below (by go_grown)) (step_rg hs12).mods).cells.1, ((HFb.out.below (by go_grown)).mods (HTw.out.ms.below (by go_grown)) (step_rg hs12).mods).cells.2.1, ((HFb.out.below (by go_grown)).mods (HTw.out.ms.below (by go_grown)) (step_rg hs12).mods).cells.2.2.1⟩)
      (first | (go_at_call 24; refine (HPr.out _ S10 (HTw.out.ms.mx.below (by go_grown)) (HTw.out.ms.mem.below_ (by go_grown))).mono ?_; rintro e w12 ⟨hE, S12, hT12, hs12⟩; obtain rfl := HFl.out _ hE) | (go_at_call 32; refine (HNum.out _ (Tl.own_mods (Tl.own_below HRw.out (by go_grown)) hs12.mods (fun k hs hb => tb_not HTw.out.ms.mx.tb (R8.typ HRw.out hb) (by decide) (by decide) hs))).mono ?_; rintro e w13 ⟨rfl, rfl⟩))
    go_wp2
    go_ret
    exact ⟨rfl, ((HTw.out.below (by go_grown)).turn hT12 hs12).bel⟩

theorem peeks_walk (A : Option Addr) (n c : Nat) (t : Tabs) (va : Int) (u : Bool) (k : Int) (w : World)
    (hr : ∃ ys, In w A n c ys) (ht : t.Ok) (hv : (Lit.int .u32 va).wf = true) (_ : (Lit.int .i64 k).wf = true) :
    Calls Try.prog 6 #[.slice A n c, (Value.agg #[Value.int .u32 (Tabs.pb t), Value.int .u32 (Tabs.pn t), Value.int .u32 (Tabs.sb t), Value.int .u32 (Tabs.sn t), Value.int .u32 (Tabs.me t)]), .int .u32 va, .bool u, .int .i64 k] w fun e w' => e = .returned (.bool true) ∧ Below w.heap.size w w' := by
  obtain ⟨ys, hi⟩ := hr
  have hb := bounds_u32 hv
  by_cases h : 8192 < n ∨ k < 0 ∨ 4 < k
  · exact peeks_out A n c t va k u w h
  · exact peeks_in A n c ys t va k u w hi ht ⟨by omega, by omega⟩ (by omega) (by omega) (by omega)

end Go.Proofs.Ytfpdemlcmfaieaa.Cs
