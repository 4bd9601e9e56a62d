/- The walk of MmuRest. -/
import Derived.Test.YtfpdemlcmfaieaaWPeeks
namespace Go.Proofs.Ytfpdemlcmfaieaa.Cs
open Go.RowKit

set_option maxHeartbeats 400000 in
theorem rest_out (A : Option Addr) (n c : Nat) (t : Tabs) (B : Option Addr) (m d : Nat) (u : Bool) (w : World) (h : 8192 < n ∨ 60 < m) :
    Calls Try.prog 8 #[.slice A n c, (Value.agg #[Value.int .u32 (Tabs.pb t), Value.int .u32 (Tabs.pn t), Value.int .u32 (Tabs.sb t), Value.int .u32 (Tabs.sn t), Value.int .u32 (Tabs.me t)]), .slice B m d, .bool u] w fun e w' => e = .returned (.bool true) ∧ Below w.heap.size w w' := by
  by_cases h1 : 8192 < n
  · have h1' : (8192 : Int) < (n : Int) := by omega
    clear h
    go_enter Try.func8, Try.ntmps8
    go_wp2_with fail
    refine (alive _).mono ?_
    rintro e w1 ⟨rfl, hb1⟩
    have hb := Tl.bel2 (a := w) (by go_grown) hb1
    go_wp2
    go_ret
    exact ⟨rfl, hb⟩
  · have h1' : ¬ (8192 : Int) < (n : Int) := by omega
    have h2 : (60 : Int) < (m : Int) := by omega
    clear h
    go_enter Try.func8, Try.ntmps8
    go_wp2_with fail
    refine (alive _).mono ?_
    rintro e w1 ⟨rfl, hb1⟩
    have hb := Tl.bel2 (a := w) (by go_grown) hb1
    go_wp2
    go_ret
    exact ⟨rfl, hb⟩

theorem got_sub {xs ys : Rows} (h : ys.Sublist xs) (hn : (Tl.pages xs).Nodup) {q x : Int} (hg : got ys q = some x) : got xs q = some x := by
  induction h with
  | slnil => exact hg
  | cons r h ih =>
    simp only [Tl.pages, List.map_cons, List.nodup_cons] at hn
    have h2 := ih hn.2 hg
    rw [got_cons, if_neg]
    · exact h2
    · rintro rfl
      exact hn.1 (Tl.hav_mem.1 (of_decide_eq_true (got_hav h2).1))
  | cons_cons r h ih =>
    simp only [Tl.pages, List.map_cons, List.nodup_cons] at hn
    rw [got_cons] at hg ⊢
    split at hg
    · rename_i e; rw [if_pos e]; exact hg
    · rename_i e; rw [if_neg e]; exact ih hn.2 hg
theorem Coh.drop {t : Tabs} {xs : List Int} {rows : Rows} (h : Coh t xs rows) (hn : (Tl.pages rows).Nodup) (p : Int) : Coh t xs (Tl.dropR rows p) :=
  fun va x hv hg => h va x hv (got_sub (List.eraseIdx_sublist _ _) hn hg)

/-- Two of them over one memory. -/
structure Tw (w : World) (g g2 rg r tg tg2 : Nat) (t : Tabs) (ys : List Int) (S S2 : Nat → Prop) (rows rows2 : Rows) (W : World) : Prop where
  m1 : Mx W g rg tg S t rows
  m2 : Mx W g2 rg tg2 S2 t rows2
  mem : Rm.Mem W rg r ys
  ap : Tl.Apart S S2
  a1 : Tl.Ab w.heap.size S
  a2 : Tl.Ab w.heap.size S2
  bel : Below w.heap.size w W
  c1 : Coh t ys rows
  c2 : Coh t ys rows2
section
variable {w W W' : World} {g g2 rg r tg tg2 : Nat} {S S2 S' : Nat → Prop} {t : Tabs} {rows rows2 rows' : Rows} {ys : List Int}
theorem Tw.below (h : Tw w g g2 rg r tg tg2 t ys S S2 rows rows2 W) (b : Below W.heap.size W W') : Tw w g g2 rg r tg tg2 t ys S S2 rows rows2 W' :=
  ⟨h.m1.below b, h.m2.below b, h.mem.below_ b, h.ap, h.a1, h.a2, Tl.bel_trans h.bel b h.bel.size, h.c1, h.c2⟩
theorem Tw.one (h : Tw w g g2 rg r tg tg2 t ys S S2 rows rows2 W) (m : Mx W' g rg tg S' t rows') (s : Tl.Step S S' W W') (c : Coh t ys rows') : Tw w g g2 rg r tg tg2 t ys S' S2 rows' rows2 W' :=
  ⟨m, h.m2.mods s.mods (tb_not h.m1.tb h.m2.typ (by decide) (by decide)) h.ap, mem_tb h.mem h.m1.tb s.mods, s.apart h.ap h.m2.tb.lo, s.ab h.a1 h.bel.size, h.a2, s.below h.bel h.a1 h.bel.size, c, h.c2⟩
theorem Tw.two (h : Tw w g g2 rg r tg tg2 t ys S S2 rows rows2 W) (m : Mx W' g2 rg tg2 S' t rows') (s : Tl.Step S2 S' W W') (c : Coh t ys rows') : Tw w g g2 rg r tg tg2 t ys S S' rows rows' W' :=
  ⟨h.m1.mods s.mods (tb_not h.m2.tb h.m1.typ (by decide) (by decide)) h.ap.symm, m, mem_tb h.mem h.m2.tb s.mods, (s.apart h.ap.symm h.m1.tb.lo).symm, h.a1, s.ab h.a2 h.bel.size, s.below h.bel h.a2 h.bel.size, h.c1, c⟩
end

set_option maxRecDepth 100000 in
set_option maxHeartbeats 4000000 in
theorem rest_in (A : Option Addr) (n c : Nat) (ys : List Int) (t : Tabs) (B : Option Addr) (m d : Nat) (zs : List Int) (u : Bool) (w : World) (hi : In w A n c ys) (ht : t.Ok) (hj : Tl.Src w B m zs) (hn : n ≤ 8192) (hm1 : m ≤ 60) :
    Calls Try.prog 8 #[.slice A n c, (Value.agg #[Value.int .u32 (Tabs.pb t), Value.int .u32 (Tabs.pn t), Value.int .u32 (Tabs.sb t), Value.int .u32 (Tabs.sn t), Value.int .u32 (Tabs.me t)]), .slice B m d, .bool u] w fun e w' => e = .returned (.bool true) ∧ Below w.heap.size w w' := by
  have g1 : ¬ (8192 : Int) < (n : Int) := by omega
  have g2' : ¬ (60 : Int) < (m : Int) := by omega
  have HI := Lib.hid hi
  have HJ := Lib.hid hj
  have HTk := Lib.hid ht
  clear hi ht hj
  go_enter Try.func8, Try.ntmps8
  go_wp2_with fail
  refine (alive _).mono ?_
  rintro e w0 ⟨rfl, hb0⟩
  have HTt := Lib.hid (Tt.below Tt.new hb0)
  have HB0 := Lib.hid (Tl.bel2 (a := w) (by go_grown) hb0)
  clear hb0
  go_wp2_with fail
  refine (Rm.new_any n _).mono ?_
  rintro e w1 ⟨rg, r, rfl, h1, h2, hm, hb⟩
  have hr : w.heap.size ≤ r := Nat.le_trans HB0.out.size h2
  have HM := Lib.hid hm
  have HB := Lib.hid (Tl.bel2 HB0.out hb)
  have HTt1 := Lib.hid (HTt.out.below hb)
  rw [Rm.sized_nat n (by omega)] at HM
  clear hm hb h1 h2 HB0 HTt
  go_wp2_with fail
  refine (load_whole rg r n c A ys _ HM.out (HI.out.below HB.out)).mono ?_
  rintro e w2 ⟨rfl, hm2, hg2⟩
  have HM2 := Lib.hid hm2
  have HB2 := Lib.hid (Rm.below_of_grown HB.out hg2 HB.out.size hr)
  have HTt2 : Hid (Tt w2 w.heap.size t) := (hg2.block _ HTt1.out.lt (fun e => by
    injection e with e
    have t1 : Typ w1 w.heap.size 25 := ⟨_, _, HTt1.out⟩
    rw [e] at t1
    exact absurd (t1.ne (mem_typ HM.out).2) (by decide))).trans HTt1.out
  clear hm2 hg2 HM HB HTt1
  go_wp2_with fail
  refine (mnew_any rg _).mono ?_
  rintro e w4 ⟨g, tg, S, rfl, h4, _, hx, hA, hb⟩
  have HT0 := Lib.hid (Tp.make HM2.out hr HB2.out h4 hx hA hb)
  have HTt4 := Lib.hid (HTt2.out.below hb)
  clear h4 hx hA hb HM2 HB2 HTt2
  go_wp2_with fail
  refine (mnew_any rg _).mono ?_
  rintro e w5 ⟨g2, tg2, S2, rfl, h5, _, hx, hA, hb⟩
  have HT1 := Lib.hid (HT0.out.below hb)
  have HX2 := Lib.hid hx
  have HA2 := Lib.hid hA
  have HTt5 := Lib.hid (HTt4.out.below hb)
  have hne : g ≠ g2 := by have := HT0.out.ms.mx.glt; omega
  have hap : Hid (Tl.Apart (Rg S g) S2) := fun k hs h2 => by
    have h3 := hA k h2
    rcases hs with hs | rfl
    · have := HT0.out.ms.mx.tb.lo k hs; omega
    · have := HT0.out.ms.mx.glt; omega
  have hag2 : Hid (w.heap.size ≤ g2) := Nat.le_trans HT0.out.bel.size h5
  have HA2' : Hid (Tl.Ab w.heap.size S2) := fun k hk => Nat.le_trans HT0.out.bel.size (hA k hk)
  clear h5 hx hA hb HTt4 HT0
  obtain ⟨q0, q1, q2, q3, q4⟩ := HTt5.out.cells
  go_wp2_with fail
  refine (set_any g rg tg S noTabs t [] _ HT1.out.ms.mx HTk.out).mono ?_
  rintro e w6 ⟨rfl, S6, hx6, hs6⟩
  have HT6 := Lib.hid (HT1.out.set hx6 hs6)
  have hq : ¬ Rg S g w.heap.size := fun e => by
    rcases e with e | e
    · exact tb_not HT1.out.ms.mx.tb ⟨_, _, HTt5.out⟩ (by decide) (by decide) e
    · have ty : Typ w5 w.heap.size 25 := ⟨_, _, HTt5.out⟩
      rw [e] at ty
      exact absurd (ty.ne HT1.out.ms.mx.typ) (by decide)
  have HTt6 : Hid (Tt w6 w.heap.size t) := (hs6.mods.block _ HTt5.out.lt hq).trans HTt5.out
  have HX6 := Lib.hid (HX2.out.mods hs6.mods (fun e => by
    rcases e with e | e
    · exact tb_not HT1.out.ms.mx.tb HX2.out.typ (by decide) (by decide) e
    · exact hne e.symm) hap.out)
  have HAp6 := Lib.hid (hs6.apart hap.out HX2.out.tb.lo)
  clear q0 q1 q2 q3 q4 hx6 hs6 hq HTt5 HT1 HX2 HA2
  obtain ⟨q0, q1, q2, q3, q4⟩ := HTt6.out.cells
  go_wp2_with fail
  refine (set_any g2 rg tg2 S2 noTabs t [] _ HX6.out HTk.out).mono ?_
  rintro e w7 ⟨rfl, S7, hx7, hs7⟩
  have HRd : Hid (Tw w g g2 rg r tg tg2 t ys S6 S7 [] [] w7) := by
    have n1 : ¬ Rg S2 g2 g := fun e => by
      rcases e with e | e
      · exact tb_not HX6.out.tb HT6.out.ms.mx.typ (by decide) (by decide) e
      · exact hne e
    have n2 : Tl.Apart (Rg S2 g2) S6 := fun k h1 h2 => by
      rcases h1 with h1 | rfl
      · exact HAp6.out k (.inl h2) h1
      · exact tb_not HT6.out.ms.mx.tb HX6.out.typ (by decide) (by decide) h2
    have n3 : ¬ Rg S2 g2 rg ∧ ¬ Rg S2 g2 r := by
      refine ⟨fun e => ?_, fun e => ?_⟩
      · rcases e with e | e
        · exact tb_not HX6.out.tb (mem_typ HT6.out.ms.mem).1 (by decide) (by decide) e
        · have ty := HX6.out.typ
          rw [← e] at ty
          exact absurd (ty.ne (mem_typ HT6.out.ms.mem).1) (by decide)
      · rcases e with e | e
        · exact tb_not HX6.out.tb (mem_typ HT6.out.ms.mem).2 (by decide) (by decide) e
        · have ty := HX6.out.typ
          rw [← e] at ty
          exact absurd (ty.ne (mem_typ HT6.out.ms.mem).2) (by decide)
    have ha : Tl.Ab w.heap.size (Rg S2 g2) := fun k hk => by
      rcases hk with hk | rfl
      · exact HA2'.out k hk
      · exact hag2.out
    have nap := hs7.apart n2 HT6.out.ms.mx.tb.lo
    exact ⟨HT6.out.ms.mx.mods hs7.mods n1 n2, hx7, mem_mods HT6.out.ms.mem hs7.mods n3.1 n3.2, fun k h1 h2 => nap k (.inl h2) h1, fun k hk => HT6.out.ab k (.inl hk), fun k hk => hs7.ab ha HT6.out.bel.size k (.inl hk), hs7.below HT6.out.bel ha HT6.out.bel.size, Coh.nil, Coh.nil⟩
  clear q0 q1 q2 q3 q4 hx7 hs7 HX6 HT6 HAp6 HTt6 HA2' hag2 hap
  go_wp2_with fail
  go_loopw [46] (fun i W => ∃ k : Nat, k ≤ m ∧ i = .int .i64 k ∧ ∃ S S2 rows rows2, Tw w g g2 rg r tg tg2 t ys S S2 rows rows2 W) (fun i _ => m - (intOf i).toNat)
  case atStart => exact ⟨0, Nat.zero_le _, rfl, _, _, _, _, HRd.out⟩
  case round =>
    clear HRd
    obtain ⟨k, hk, rfl, S, S2, rows, rows2, hR⟩ := hrel
    have HR := Lib.hid hR
    clear hR
    by_cases hlt : k < m
    · obtain ⟨ad, rfl, x1⟩ := HJ.out.at_ HR.out.bel hlt
      have HVa : Hid (U (zs.getD k 0)) := HJ.out.num k
      generalize zs.getD k 0 = va at x1 HVa
      obtain ⟨a1, ha1⟩ : ∃ a1, out t ys u false va 4 = a1 := ⟨_, rfl⟩
      obtain ⟨r3, W3, C3, _⟩ := walk_out (u := u) (wr := false) (keep := true) (n := 4) HR.out.mem.byt HVa.out HR.out.c1 HR.out.m1.tb.fit
      obtain ⟨r4, W4, C4, _⟩ := walk_out (u := u) (wr := false) (keep := true) (n := 4) HR.out.mem.byt HVa.out HR.out.c2 HR.out.m2.tb.fit
      rw [ha1] at W3 W4
      have HW3 := Lib.hid W3
      have HW4 := Lib.hid W4
      have HC3 := Lib.hid C3
      have HC4 := Lib.hid C4
      clear W3 W4 C3 C4 ha1
      go_wp2_with fail
      refine (get_any g rg tg r S t rows r3 ys a1 va 4 u _ ⟨HR.out.m1, HR.out.mem⟩ HVa.out HW3.out).mono ?_
      rintro e w5 ⟨rfl, S5, hm5, hs5⟩
      have HR5 := Lib.hid (HR.out.one hm5.mx hs5 HC3.out)
      clear hm5 hs5 HR
      go_wp2_with fail
      refine (get_any g2 rg tg2 r S2 t rows2 r4 ys a1 va 4 u _ ⟨HR5.out.m2.below (by go_grown), HR5.out.mem.below_ (by go_grown)⟩ HVa.out HW4.out).mono ?_
      rintro e w6 ⟨rfl, S6, hm6, hs6⟩
      have HF := Lib.hid (Fv.mods (Fv.new (W := w5)) ⟨HR5.out.m2.below (by go_grown), HR5.out.mem.below_ (by go_grown)⟩ (step_rg hs6).mods)
      have HR6 := Lib.hid ((HR5.out.below (by go_grown)).two hm6.mx hs6 HC4.out)
      clear hm6 hs6 HR5 HW3 HW4 HC3 HC4
      obtain ⟨c0, c1, c2, _, _, _⟩ := HF.out.cells
      have hz := HF.out.lt
      generalize Rm.num (accY ys a1) = N at *
      generalize fk a1 = K1 at *
      generalize fa a1 = V1 at *
      generalize fi a1 = I1 at *
      by_cases h3 : k % 3 = 0
      · have h3' : (k : Int) % 3 = 0 := by omega
        go_wp2_with fail
        refine (clear_any g2 rg tg2 S6 t r4 _ (HR6.out.m2.below (by go_grown))).mono ?_
        rintro e w7 ⟨rfl, S7, hx7, hs7⟩
        have HR7 := Lib.hid ((HR6.out.below (by go_grown)).two hx7 hs7 Coh.nil)
        clear hx7 hs7 HR6 c0 c1 c2 HF
        go_wp2_with fail
        refine (drop_any g2 rg tg2 _ t _ va _ HR7.out.m2 HVa.out).mono ?_
        rintro e w8 ⟨rfl, S8, hx8, hs8⟩
        have HR8 := Lib.hid (HR7.out.two hx8 hs8 (HR7.out.c2.drop HR7.out.m2.tb.fit.1 (va / 512)))
        clear hx8 hs8 HR7
        go_wp2
        go_roundw
        case rel => exact ⟨k + 1, by omega, by go_num, _, _, _, _, HR8.out⟩
        case measure => simp [intOf]; omega
      · have h3' : ¬ (k : Int) % 3 = 0 := by omega
        have h3'' : ((k : Int) % 3 == 0) = false := by simpa using h3'
        have HR7 := Lib.hid (HR6.out.below (W' := w6.alloc (.cells #[.int .i64 K1, .int .u32 V1, .int .u32 I1] 50)) (by go_grown))
        go_wp2_with fail
        refine (drop_any g2 rg tg2 _ t _ va _ HR7.out.m2 HVa.out).mono ?_
        rintro e w8 ⟨rfl, S8, hx8, hs8⟩
        have HR8 := Lib.hid (HR7.out.two hx8 hs8 (HR7.out.c2.drop HR7.out.m2.tb.fit.1 (va / 512)))
        clear hx8 hs8 HR7
        go_wp2
        go_roundw
        case rel => exact ⟨k + 1, by omega, by go_num, _, _, _, _, HR8.out⟩
        case measure => simp [intOf]; omega
    · go_wp2
      go_ret
      exact ⟨rfl, HR.out.bel⟩

theorem rest_walk (A : Option Addr) (n c : Nat) (t : Tabs) (B : Option Addr) (m d : Nat) (zs : List Int) (u : Bool) (w : World) (hr : ∃ ys, In w A n c ys) (ht : t.Ok)
    (hs : (B = none ∧ m = 0 ∧ d = 0 ∧ zs = []) ∨ ∃ x : Addr, B = some x ∧ m ≤ d ∧ d ≤ maxLen ∧ zs.length = d ∧ (∀ i, i < zs.length → w.cell? (x.add i) = some (.int .u32 (zs.getD i 0))) ∧ ∀ n ∈ zs, (Lit.int .u32 n).wf = true) :
    Calls Try.prog 8 #[.slice A n c, (Value.agg #[Value.int .u32 (Tabs.pb t), Value.int .u32 (Tabs.pn t), Value.int .u32 (Tabs.sb t), Value.int .u32 (Tabs.sn t), Value.int .u32 (Tabs.me t)]), .slice B m d, .bool u] w fun e w' => e = .returned (.bool true) ∧ Below w.heap.size w w' := by
  obtain ⟨ys, hi⟩ := hr
  obtain ⟨vs, hj⟩ := Tl.src_of_row hs
  by_cases h : 8192 < n ∨ 60 < m
  · exact rest_out A n c t B m d u w h
  · exact rest_in A n c ys t B m d vs u w hi ht hj (by omega) (by omega)

end Go.Proofs.Ytfpdemlcmfaieaa.Cs
