/- Contracts of package asm: an operand added. -/
import Derived.Test.YtppkpfkoggnbmaaGreatDoorGKme
import Derived.Test.YtppkpfkoggnbmaaGreatDoorGKop
namespace Go.Proofs.YtppkpfkoggnbmaaGreatDoor.Cs.Ka
open Go.RowKit Es Go.Maps Go.MapKept
open Ia (sb cst sb_size sb_get sb_append cst_get)
set_option linter.unusedVariables false
set_option linter.unusedSimpArgs false

/-- one gap behind the others, at a region that draws -/
theorem appgd {W : World} {g m : Nat} {s : St} {vc vg : Value} {D : DataW Unit} (h : Pg W g m s vc vg D) (x : Gp) (hl : s.gp.length ≤ 1000000) :
    ∃ r' c' w', (Builtin.append_ #[53, 53] 53 #[vg, .slice (some ⟨W.heap.size, 0, none⟩) 1 1]).run Tryz.prog (W.alloc (.cells x.cells.toArray 62)).drew = .ok (.slice (some ⟨r', 0, none⟩) (s.gp.length + 1) c') w' ∧
      Hid (Rg w' (.slice (some ⟨r', 0, none⟩) (s.gp.length + 1) c') (s.gp ++ [x]) ∧ Step (Bl vg) (Bl (.slice (some ⟨r', 0, none⟩) (s.gp.length + 1) c')) W w') := by
  have hb : Below W.heap.size W W.drew := (Below.refl _ _).drew
  obtain ⟨r', c', w', hrun, hR, hS⟩ := run_appg W.drew vg s.gp x (own_below h.gaps hb) hl
  exact ⟨r', c', w', hrun, hR, (Step.of_below hb).trans hS⟩

/-- the operand's boxes, beside a program -/
structure Pa (W0 : World) (g m : Nat) (vc0 vg0 : Value) (o : Op) (a z : Int) (s : St) (vc vg : Value) (D : DataW Unit) (W : World) : Prop where
  pg : Pg W g m s vc vg D
  st : Step (Ft g m vc0 vg0) (Ft g m vc vg) W0 W
  bo : Es.Bk W W0.heap.size 60 o.cells
  bu : Es.Bk W (W0.heap.size + 1) 45 [.int .u8 a, .int .i64 z]
  fo : ¬ Ft g m vc vg W0.heap.size
  fu : ¬ Ft g m vc vg (W0.heap.size + 1)
theorem Pa.below {W0 W W' : World} {g m : Nat} {vc0 vg0 vc vg : Value} {o : Op} {a z : Int} {D : DataW Unit} {s : St} (h : Pa W0 g m vc0 vg0 o a z s vc vg D W) (hb : Below W.heap.size W W') : Pa W0 g m vc0 vg0 o a z s vc vg D W' :=
  ⟨h.pg.below hb, h.st.trans (Step.of_below hb), h.bo.below hb (Nat.le_refl _), h.bu.below hb (Nat.le_refl _), h.fo, h.fu⟩
theorem Pa.put {W0 W W' : World} {g m : Nat} {vc0 vg0 vc vc' vg : Value} {o : Op} {a z : Int} {D : DataW Unit} {s : St} (h : Pa W0 g m vc0 vg0 o a z s vc vg D W) {c' : List Int} (hR : R8 W' vc' c') (hS : Step (Bl vc) (Bl vc') W W') (hb : Byt c') :
    Pa W0 g m vc0 vg0 o a z ⟨c', s.pl, s.gp⟩ vc' vg D (W'.setCell ⟨g, 0, none⟩ vc') := by
  obtain ⟨h1, h2⟩ := h.pg.put0 hR hS hb
  have n1 : ¬ Ft g m vc' vg W0.heap.size := fun x => by
    rcases h2.grow _ x with y | y
    · exact h.fo y
    · have := h.bo.lt; omega
  have n2 : ¬ Ft g m vc' vg (W0.heap.size + 1) := fun x => by
    rcases h2.grow _ x with y | y
    · exact h.fu y
    · have := h.bu.lt; omega
  exact ⟨h1, h.st.trans h2, h.bo.mods h2.mods h.fo, h.bu.mods h2.mods h.fu, n1, n2⟩
theorem Pa.new {W : World} {g m : Nat} {vc vg : Value} {D : DataW Unit} {s : St} (o : Op) (a z : Int) (h : Pg W g m s vc vg D) :
    Pa W g m vc vg o a z s vc vg D ((W.alloc (.cells o.cells.toArray 60)).alloc (.cells #[.int .u8 a, .int .i64 z] 45)) := by
  have b : Below W.heap.size W ((W.alloc (.cells o.cells.toArray 60)).alloc (.cells #[.int .u8 a, .int .i64 z] 45)) := bel2 (Es.al1 _ _) (Es.al1 _ _)
  refine ⟨h.below b, Step.of_below b, (Es.Bk.new W _ o.cells).below (Es.al1 _ _) (Nat.le_refl _), ?_, fun x => by have := ft_lo h _ x; omega, fun x => by have := ft_lo h _ x; omega⟩
  have := Es.Bk.new (W.alloc (.cells o.cells.toArray 60)) 45 [.int .u8 a, .int .i64 z]
  simp at this
  exact this

theorem nine_of {w : World} {g b : Nat} {v : Value} {k r i x n a z : Int} {l : ByteArray} (h0 : w.cell? ⟨g, 0, none⟩ = some v) (bo : Es.Bk w b 60 [.int .i64 k, .int .i64 r, .int .i64 i, .int .u32 x, .int .i64 n, .string l]) (bu : Es.Bk w (b + 1) 45 [.int .u8 a, .int .i64 z]) :
    w.cell? ⟨g, 0, none⟩ = some v ∧ w.cell? ⟨b, 0, none⟩ = some (.int .i64 k) ∧ w.cell? ⟨b, 1, none⟩ = some (.int .i64 r) ∧ w.cell? ⟨b, 2, none⟩ = some (.int .i64 i) ∧ w.cell? ⟨b, 3, none⟩ = some (.int .u32 x) ∧ w.cell? ⟨b, 4, none⟩ = some (.int .i64 n) ∧ w.cell? ⟨b, 5, none⟩ = some (.string l) ∧ w.cell? ⟨b + 1, 0, none⟩ = some (.int .u8 a) ∧ w.cell? ⟨b + 1, 1, none⟩ = some (.int .i64 z) :=
  ⟨h0, bo.cell 0 _ rfl, bo.cell 1 _ rfl, bo.cell 2 _ rfl, bo.cell 3 _ rfl, bo.cell 4 _ rfl, bo.cell 5 _ rfl, bu.cell 0 _ rfl, bu.cell 1 _ rfl⟩

set_option maxHeartbeats 64000000 in
set_option maxRecDepth 100000 in
theorem add_any (W : World) (g m : Nat) (s : St) (vc vg : Value) (D : DataW Unit) (o : Op) (a z line : Int) (hP : Pg W g m s vc vg D) (hc : s.code.length ≤ 1000000) (hgl : s.gp.length ≤ 1000000) (hx : U o.s.x) (ha : 0 ≤ a ∧ a < 256) (hb4 : ∀ b, enc o.s a z = some b → b.length ≤ 1000 ∧ Byt b) :
    Calls Tryz.prog 80 #[.pointer (some ⟨g, 0, none⟩), o.val, .agg #[.int .u8 a, .int .i64 z], .int .i64 line] W (PgO W g m vc vg (addF s o a z line)) := by
  have HK := Lib.hid (fun V => encode_any o.s a z V ha hx)
  have HA := Lib.hid (Pa.new o a z hP)
  have HE : Hid (addF s o a z line = match enc o.s a z with
    | none => none
    | some b => some ⟨s.code ++ b, s.pl, if o.l = [] then s.gp else s.gp ++ [⟨line, s.code.length, s.code.length + b.length, o, a, z⟩]⟩) := rfl
  clear hP hx
  obtain ⟨⟨k, r, i, x, n⟩, l⟩ := o
  generalize addF s ⟨⟨k, r, i, x, n⟩, l⟩ a z line = res at *
  simp only at HK HE hb4
  obtain ⟨ha0, ha1⟩ := ha
  cases he : enc ⟨k, r, i, x, n⟩ a z with
  | none =>
    rw [he] at HK HE
    simp only at HE
    clear hb4 he
    obtain ⟨y0, y1, y2, y3, y4, y5, yf, yl⟩ := HA.out.bo.six
    obtain ⟨u0, u1⟩ : _ ∧ _ := ⟨HA.out.bu.cell 0 _ rfl, HA.out.bu.cell 1 _ rfl⟩
    go_enter Tryz.func80, Tryz.ntmps80
    go_wp2_with (first | (go_at_call 47; refine (HK.out _).mono ?_; intro e w1 hr; obtain ⟨rfl, hb⟩ := hr; have HA2 := Lib.hid (HA.out.below hb); clear hb) | fail)
    go_ret
    rw [HE.out]
    exact PgO.no HA2.out.st.mods
  | some b =>
    rw [he] at HK HE
    simp only at HE
    obtain ⟨hbl, hbb⟩ := hb4 b he
    have HBB := Lib.hid hbb
    clear hb4 he hbb
    obtain ⟨y0, y1, y2, y3, y4, y5, yf, yl⟩ := HA.out.bo.six
    obtain ⟨u0, u1⟩ : _ ∧ _ := ⟨HA.out.bu.cell 0 _ rfl, HA.out.bu.cell 1 _ rfl⟩
    obtain ⟨A0, c0, hsh⟩ := HA.out.pg.code.shape
    subst hsh
    obtain ⟨A4, c4, hsh4⟩ := rg_slice HA.out.pg.gaps
    subst hsh4
    have hn1 : ∃ n1 : Nat, s.code.length + b.length = n1 := ⟨_, rfl⟩
    obtain ⟨n1, hn1⟩ := hn1
    have HN1 := Lib.hid hn1
    have hcb : (s.code ++ b).length = n1 := by rw [List.length_append]; exact hn1
    have hn1l : n1 ≤ 1001000 := by omega
    go_enter Tryz.func80, Tryz.ntmps80
    go_upto_region 6 with (first
      | (go_at_call 47; refine (HK.out _).mono ?_; intro e w1 hr; obtain ⟨A, c, rfl, hM⟩ := hr
         have HA2 := Lib.hid (HA.out.below hM.bel)
         have hby := hM.by rfl HBB.out
         obtain ⟨A3, c3, w2, hrun, hres⟩ := run_app8 w1 _ s.code b A b.length c HA2.out.pg.code hby (by omega)
         have HA3 := Lib.hid (HA2.out.put hres.out.1 hres.out.2 (HA2.out.pg.byt.app HBB.out))
         have hb2 := HA2.out.pg.box.mods hres.out.2.mods HA2.out.pg.cg
         have z0 := hb2.cell 0 _ rfl
         have zf := hb2.free
         have zl := hb2.lt
         obtain ⟨p0, p1, p2, pf, pl⟩ := HA2.out.pg.cells
         rw [hn1] at hrun HA3
         have HRun := Lib.hid hrun
         clear hrun hres hb2 hM hby hn1 y0 y1 y2 y3 y4 y5 yf yl u0 u1)
      | (at_builtin; refine Lib.wpList_append_run _ rfl _ _ _ _ rfl _ _ rfl rfl _ _ HRun.out ?_)
      | fail)
    clear z0 zf zl p0 p1 p2 pf pl HRun HA2
    generalize w2.setCell ⟨g, 0, none⟩ (.slice A3 n1 c3) = W3 at *
    obtain ⟨y0, y1, y2, y3, y4, y5, yf, yl⟩ := HA3.out.bo.six
    obtain ⟨u0, u1⟩ : _ ∧ _ := ⟨HA3.out.bu.cell 0 _ rfl, HA3.out.bu.cell 1 _ rfl⟩
    obtain ⟨p0, p1, p2, pf, pl⟩ := HA3.out.pg.cells
    have ul := HA3.out.bu.lt
    by_cases hl0 : l = []
    · rw [if_pos hl0] at HE
      have bl : (l == []) = true := by simpa using hl0
      clear hl0
      go_wp2_with fail
      go_ret
      rw [HE.out]
      exact PgO.yes HA3.out.pg HA3.out.st
    · rw [if_neg hl0] at HE
      have bl : (l == []) = false := by simpa using hl0
      clear hl0
      obtain ⟨r2, c2, w4, hrun2, hres2⟩ := appgd HA3.out.pg ⟨line, s.code.length, n1, ⟨⟨k, r, i, x, n⟩, l⟩, a, z⟩ hgl
      have hfin := HA3.out.pg.put2 hres2.out.1 hres2.out.2
      have hb2 := HA3.out.pg.box.mods hres2.out.2.mods HA3.out.pg.gg
      have z0 := hb2.cell 2 _ rfl
      have zf := hb2.free
      have zl := hb2.lt
      have HFin := Lib.hid hfin
      simp only [Gp.cells] at hrun2
      have HRun := Lib.hid hrun2
      clear hrun2 hb2 hfin
      clear hres2
      go_upto_region 7 with fail
      go_region_law (refine step_append_run rfl (.tmp 42) (.tmp 53) _ _ rfl _ _ rfl rfl HRun.out ?_)
      all_goals go_wp2_with fail
      all_goals
        go_ret
        rw [HE.out, HN1.out]
        exact PgO.yes HFin.out.1 (HA3.out.st.trans HFin.out.2)

end Go.Proofs.YtppkpfkoggnbmaaGreatDoor.Cs.Ka
