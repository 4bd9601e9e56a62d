/- Contracts: New, State, Load, Level. -/
import Derived.Test.YteohkobdmkbcpaaGreatDoorXPut
import Derived.StillTailTactics
namespace Go.Proofs.YteohkobdmkbcpaaGreatDoor.Cs
open Go.RowKit
set_option linter.unusedVariables false
set_option linter.unusedSimpArgs false

/-- A machine's state as a value. -/
def Mc.xs7 (c : Mc) : Hr.Xs := ⟨c.t.pb, c.t.pn, c.t.sb, c.t.sn, c.t.me, c.sc, c.ha⟩
def Mc.val (c : Mc) : Value := Hr.sv c.e c.xs7
theorem step_load_mid {P : Program} {w : World} {ops : Array Oper} {o : Oper} {a : Act} {K : Act → World → Prop} {Q : Exit → Act → World → Prop} {E : Prop} (hgd : o.guard = none) (ty : TypeId) (x : Operand) (ho : o.op = .load ty x)
    (b k : Nat) (hx : a.eval x = .pointer (some ⟨b, k, none⟩)) (cs : List Value) (d : TypeDesc) (hc : w.rangeAt b k cs)
    (hu : P.underlying ty = some d) (hd : d.isRow = true) (hi : (P.info? ty).map (·.size) = some cs.length)
    (h : K (a.put o.dst (.agg cs.toArray)) w) : if Region.wanted o (yielded ops a.tmps) = true then Oper.wp P o a w K Q else E := by
  have hw : Region.wanted o (yielded ops a.tmps) = true := by simp [Region.wanted, hgd]
  rw [if_pos hw]
  exact wp_load_mid ty x ho b k hx cs d hc hu hd hi h
theorem still_load_mid {P : Program} {w : World} {ops : Array Oper} {o : Oper} {rest : List Oper} {a : Act} {Q : Act → Prop} (hgd : o.guard = none) (ty : TypeId) (x : Operand) (ho : o.op = .load ty x)
    (b k : Nat) (hx : a.eval x = .pointer (some ⟨b, k, none⟩)) (cs : List Value) (d : TypeDesc) (hc : w.rangeAt b k cs)
    (hu : P.underlying ty = some d) (hd : d.isRow = true) (hi : (P.info? ty).map (·.size) = some cs.length)
    (h : wpStill P ops w Q rest (a.put o.dst (.agg cs.toArray))) : wpStill P ops w Q (o :: rest) a := by
  have hw : Region.wanted o (yielded ops a.tmps) = true := by simp [Region.wanted, hgd]
  rw [wpStill, if_pos hw]
  unfold Oper.still execOp
  simp only [ho, hx, Instr.loadAt, Instr.sureAddr, Sem.run_bind, Sem.run_pure, Result.andThen_ok, run_loadVar_mid w b k ty cs d hc hu hd hi]
  rw [Oper.stillUpon_value]
  exact h
theorem store_row {w : World} {g : Nat} {cs : List Value} (ht : w.there g 0 26) (ho : ∀ v ∈ cs, v.oneCell' = true) (hl : cs.length = 26) : Sem.run Tryz.prog (storeCells ⟨g, 0, none⟩ cs) w = .ok () (w.setCells g 0 cs) := by
  have := run_storeCells_cells (P := Tryz.prog) g 0 cs 0 w (fun j hj => by simpa using (ht j (by omega)).1) (fun j hj => by simpa using (ht j (by omega)).2) ho
  simpa using this

section
variable {w0 : World} {a : Ad} {S0 : Nat → Prop} {c : Mc}
theorem ftabs (w : World) (h : Ch w0 a S0 c w) : Calls Tryz.prog 29 #[.pointer (some ⟨a.mg, 0, none⟩)] w fun e w' => e = .returned (.agg #[.int .u32 c.t.pb, .int .u32 c.t.pn, .int .u32 c.t.sb, .int .u32 c.t.sn, .int .u32 c.t.me]) ∧ Below w.heap.size w w' := by
  obtain ⟨S, m, _⟩ := h.ex
  obtain ⟨rows, q⟩ := m.ms
  exact Mm.tables_any a.mg a.rg a.tg S c.t rows w q.mx
theorem fsave (w : World) (h : Ch w0 a S0 c w) (s : Hr.Re) (x : Hr.Xs) (hs : s.Ok) : Calls Tryz.prog 28 #[.pointer (some ⟨a.fg, 0, none⟩), Hr.sv s x] w fun e w' => e = .returned (Hr.sv c.e x) ∧ Below w.heap.size w w' := by
  obtain ⟨S, m, _⟩ := h.ex
  obtain ⟨ss, n, f⟩ := m.fi
  exact Hr.save_any w a.fg c.e s x ss n f hs

set_option maxHeartbeats 2000000 in
set_option maxRecDepth 100000 in
theorem state_any (w : World) (h : Ch w0 a S0 c w) : Calls Tryz.prog 12 #[.pointer (some ⟨a.g, 0, none⟩)] w fun e w' => e = .returned c.val ∧ Below w.heap.size w w' := by
  have hok := h.eok
  obtain ⟨cs, hcs⟩ : ∃ cs, c.e.cells c.xs7.l = cs := ⟨_, rfl⟩
  have HSv : Hid (∀ W, Ch w0 a S0 c W → Calls Tryz.prog 28 #[.pointer (some ⟨a.fg, 0, none⟩), .agg #[.int .u32 0, .int .u32 0, .int .u32 0, .int .u32 0, .int .u32 0, .int .u32 0, .int .u32 0, .int .u32 0, .int .u32 0, .int .u32 0, .int .u32 0, .int .u32 0, .int .u32 0, .int .u32 0, .int .u32 0, .int .u32 0, .int .u32 0, .int .u32 0, .int .u32 0, .int .u32 c.t.pb, .int .u32 c.t.pn, .int .u32 c.t.sb, .int .u32 c.t.sn, .int .u32 c.t.me, .int .u32 c.sc, .int .i64 c.ha]] W fun e w' => e = .returned (.agg cs.toArray) ∧ Below W.heap.size W w') := Lib.hid fun W hW => by
    have := fsave W hW Hr.Re.nul c.xs7 Hr.Re.nul_ok
    have e : Hr.sv c.e c.xs7 = .agg cs.toArray := by rw [Hr.sv, hcs]
    rw [e] at this
    exact this
  have HTb : Hid (∀ W, Ch w0 a S0 c W → Calls Tryz.prog 29 #[.pointer (some ⟨a.mg, 0, none⟩)] W fun e w' => e = .returned (.agg #[.int .u32 c.t.pb, .int .u32 c.t.pn, .int .u32 c.t.sb, .int .u32 c.t.sn, .int .u32 c.t.me]) ∧ Below W.heap.size W w') := Lib.hid fun W hW => ftabs W hW
  have hl26 : cs.length = 26 := by rw [← hcs, Hr.Re.length hok]; rfl
  have ho : ∀ v ∈ cs, v.oneCell' = true := by rw [← hcs]; exact Hr.one_cells c.xs7.one
  have hi : (Tryz.prog.info? 28).map (·.size) = some cs.length := by rw [hl26, Hr.st_size]
  have hV : c.val = .agg cs.toArray := by rw [Mc.val, Hr.sv, hcs]
  have H := Lib.hid h
  have HBN : Hid (Hr.Bk (w.alloc (.cells #[Value.int .u32 0, Value.int .u32 0, Value.int .u32 0, Value.int .u32 0, Value.int .u32 0, Value.int .u32 0, Value.int .u32 0, Value.int .u32 0, Value.int .u32 0, Value.int .u32 0, Value.int .u32 0, Value.int .u32 0, Value.int .u32 0, Value.int .u32 0, Value.int .u32 0, Value.int .u32 0, Value.int .u32 0, Value.int .u32 0, Value.int .u32 0, Value.int .u32 0, Value.int .u32 0, Value.int .u32 0, Value.int .u32 0, Value.int .u32 0, Value.int .u32 0, Value.int .i64 0] 28)) w.heap.size 28 [Value.int .u32 0, Value.int .u32 0, Value.int .u32 0, Value.int .u32 0, Value.int .u32 0, Value.int .u32 0, Value.int .u32 0, Value.int .u32 0, Value.int .u32 0, Value.int .u32 0, Value.int .u32 0, Value.int .u32 0, Value.int .u32 0, Value.int .u32 0, Value.int .u32 0, Value.int .u32 0, Value.int .u32 0, Value.int .u32 0, Value.int .u32 0, Value.int .u32 0, Value.int .u32 0, Value.int .u32 0, Value.int .u32 0, Value.int .u32 0, Value.int .u32 0, Value.int .i64 0]) := Lib.hid (Hr.Bk.new _ _ _)
  have hB : Below w.heap.size w (w.alloc (.cells #[Value.int .u32 0, Value.int .u32 0, Value.int .u32 0, Value.int .u32 0, Value.int .u32 0, Value.int .u32 0, Value.int .u32 0, Value.int .u32 0, Value.int .u32 0, Value.int .u32 0, Value.int .u32 0, Value.int .u32 0, Value.int .u32 0, Value.int .u32 0, Value.int .u32 0, Value.int .u32 0, Value.int .u32 0, Value.int .u32 0, Value.int .u32 0, Value.int .u32 0, Value.int .u32 0, Value.int .u32 0, Value.int .u32 0, Value.int .u32 0, Value.int .u32 0, Value.int .i64 0] 28)) := by go_grown
  have K := Lib.hid (nx_below h hB)
  have HBw := Lib.hid hB
  clear h hcs hok hB
  go_enter Tryz.func12, Tryz.ntmps12
  go_upto_region 3 with fail
  generalize w.alloc (.cells #[Value.int .u32 0, Value.int .u32 0, Value.int .u32 0, Value.int .u32 0, Value.int .u32 0, Value.int .u32 0, Value.int .u32 0, Value.int .u32 0, Value.int .u32 0, Value.int .u32 0, Value.int .u32 0, Value.int .u32 0, Value.int .u32 0, Value.int .u32 0, Value.int .u32 0, Value.int .u32 0, Value.int .u32 0, Value.int .u32 0, Value.int .u32 0, Value.int .u32 0, Value.int .u32 0, Value.int .u32 0, Value.int .u32 0, Value.int .u32 0, Value.int .u32 0, Value.int .i64 0] 28) = W at *
  have c1 := K.out.1.c1
  have c2 := K.out.1.c2
  have c3 := K.out.1.c3
  have c4 := K.out.1.c4
  have hl := K.out.1.glt
  have ht : W.there w.heap.size 0 26 := HBN.out.there 0 26 (by decide)
  have hgl := HBN.out.lt
  have hne : a.g ≠ w.heap.size := Nat.ne_of_lt H.out.glt
  generalize hg : w.heap.size = g at *
  go_region_held3 (fun w' => w'.cell? ⟨a.g, 1, none⟩ = some (.pointer (some ⟨a.mg, 0, none⟩)) ∧ w'.cell? ⟨a.g, 2, none⟩ = some (.pointer (some ⟨a.fg, 0, none⟩)) ∧ w'.cell? ⟨a.g, 3, none⟩ = some (.int .u32 c.sc) ∧ w'.cell? ⟨a.g, 4, none⟩ = some (.int .i64 c.ha) ∧ w'.there g 0 26)
    (first | exact ⟨m1, m2, m3, m4, ht5⟩ | exact ⟨k1, k2, k3, k4, ht4⟩ | exact ⟨j1, j2, j3, j4, ht3⟩ | go_keep)
    (first
      | (go_at_call 29; refine (HTb.out _ (K.out.1.below (by go_grown))).mono ?_; rintro e w3 ⟨rfl, hb3'⟩; have hb3 := Tl.bel2 (a := W) (by go_grown) hb3'; have ht3 := (HBN.out.below hb3).there 0 26 (by decide); have j1 := (hb3.cell hl).trans c1; have j2 := (hb3.cell hl).trans c2; have j3 := (hb3.cell hl).trans c3; have j4 := (hb3.cell hl).trans c4)
      | (go_at_call 28; refine (HSv.out _ ((K.out.1.below hb3).below (by go_grown))).mono ?_; rintro e w4 ⟨rfl, hb4'⟩; have hb4 := Tl.bel2 hb3 (Tl.bel2 (a := w3) (by go_grown) hb4'); have ht4 := (HBN.out.below hb4).there 0 26 (by decide); have k1 := (hb4.cell hl).trans c1; have k2 := (hb4.cell hl).trans c2; have k3 := (hb4.cell hl).trans c3; have k4 := (hb4.cell hl).trans c4; have hst := store_row ht4 ho hl26; have m1 := Hr.far_cells (o := 0) (vs := cs) hne k1; have m2 := Hr.far_cells (o := 0) (vs := cs) hne k2; have m3 := Hr.far_cells (o := 0) (vs := cs) hne k3; have m4 := Hr.far_cells (o := 0) (vs := cs) hne k4; have ht5 := World.there_setCells ht4 g 0 cs; have hbk := HBN.out.below hb4))
  all_goals
    have hb5 : Hr.Bk (w4.setCells g 0 cs) g 28 cs := by
      rcases hbk.setCells cs 0 with k | k
      · rw [List.take_zero, List.nil_append, List.drop_eq_nil_of_le (by simp [hl26]), List.append_nil] at k
        exact k
      · simp [hl26] at k
    have hbw : Below w.heap.size w (w4.setCells g 0 cs) := by
      rw [hg]
      refine Tl.Mods.below (S := Hr.One g) (Tl.bel_trans (hg ▸ HBw.out) hb4 (by have := hb4.size; omega)) (Hr.mods_setCells (Hr.One g) cs 0 (Tl.Mods.refl _ _) (.inl rfl)) (fun k hk => Nat.le_of_eq hk.symm) (by have := hb4.size; omega)
    have hld := run_loadVar_mid (P := Tryz.prog) _ g 0 28 cs _ (hb5.range 0 cs (by simp)) Tryz.underlying28 rfl hi
    go_wp2
    refine bodyPost_ret (v := .agg cs.toArray) ?_ rfl ⟨by rw [hV], hbw⟩
    simp [results, Tryz.results12, asAddr, Act.put, hld]

theorem fload (w : World) (h : Ch w0 a S0 c w) (s : Hr.Re) (x : Hr.Xs) (hs : s.Ok) : Calls Tryz.prog 44 #[.pointer (some ⟨a.fg, 0, none⟩), Hr.sv s x] w fun e w' => e = .returned (.tuple #[]) ∧ Ch w0 a S0 { c with e := s } w' ∧ Mv a w w' := by
  obtain ⟨S, m, _⟩ := h.ex
  obtain ⟨ss, n, f⟩ := m.fi
  refine (Hr.load_any w a.fg c.e s x ss n f hs).mono ?_
  rintro e w' ⟨rfl, f', q⟩
  exact ⟨rfl, h.next fun S m => ⟨S, m.regs f' q, one_step q⟩⟩
theorem fsett (w : World) (h : Ch w0 a S0 c w) (t : Mm.Tabs) (ht : t.Ok) : Calls Tryz.prog 45 #[.pointer (some ⟨a.mg, 0, none⟩), .agg #[.int .u32 t.pb, .int .u32 t.pn, .int .u32 t.sb, .int .u32 t.sn, .int .u32 t.me]] w fun e w' => e = .returned (.tuple #[]) ∧ Ch w0 a S0 { c with t := t } w' ∧ Mv a w w' := by
  obtain ⟨S, m, s, ab⟩ := h.ex
  obtain ⟨rows, q⟩ := m.ms
  refine (Mm.set_any a.mg a.rg a.tg S c.t t rows w q.mx ht).mono ?_
  rintro e w' ⟨rfl, S', q', s'⟩
  have hno : ∀ i ty, Mm.Typ w i ty → ty ≠ 96 → ty ≠ 159 → ty ≠ 230 → ¬ Mm.Rg S a.mg i := fun i ty hi h1 h2 h3 hr => by
    rcases hr with hr | hr
    · rcases m.styp hr with e | e
      · exact h2 (hi.ne e)
      · exact h3 (hi.ne e)
    · subst hr; exact h1 (hi.ne m.mtyp)
  have hm : Mm.Ms w' a.mg a.rg a.r a.tg S' t [] c.xs := ⟨q', Mm.mem_mods q.mem s'.mods (hno _ _ m.rgtyp (by decide) (by decide) (by decide)) (hno _ _ m.rtyp (by decide) (by decide) (by decide))⟩
  obtain ⟨m', st⟩ := m.mmu hm s' (fun k hk => by
    rcases hk with hk | hk
    · exact .inl hk
    · exact .inr (.inr hk)) (fun k hk => .inl hk)
  have hK : 7 ≤ w.heap.size := Nat.le_of_lt (Nat.lt_of_le_of_lt (ab _ (.inl rfl)) m.glt)
  refine ⟨rfl, ⟨⟨S', m', s.trans st, fun k hk => ?_⟩, gl_keep h.gl fun i hi => st.mods.block i (Nat.lt_of_lt_of_le hi hK) (fun e => absurd (ab i e) (by omega))⟩, m.mv st.mods (fun _ h => h)⟩
  rcases st.grow k hk with e | e
  · exact ab k e
  · exact Nat.le_trans hK e

set_option maxHeartbeats 2000000 in
set_option maxRecDepth 100000 in
theorem aload_any (w : World) (h : Ch w0 a S0 c w) (n : Mc) (hn : n.e.Ok) (ht : n.t.Ok) (hsc : U n.sc) : Calls Tryz.prog 23 #[.pointer (some ⟨a.g, 0, none⟩), n.val] w fun e w' => e = .returned (.tuple #[]) ∧ Ch w0 a S0 ⟨n.e, n.t, n.sc, n.ha, c.xs⟩ w' ∧ Mv a w w' := by
  obtain ⟨cs, hcs⟩ : ∃ cs, n.e.cells n.xs7.l = cs := ⟨_, rfl⟩
  have hV : n.val = .agg cs.toArray := by rw [Mc.val, Hr.sv, hcs]
  have HLd : Hid (∀ W, Ch w0 a S0 c W → Calls Tryz.prog 44 #[.pointer (some ⟨a.fg, 0, none⟩), .agg cs.toArray] W fun e w' => e = .returned (.tuple #[]) ∧ Ch w0 a S0 ⟨n.e, c.t, c.sc, c.ha, c.xs⟩ w' ∧ Mv a W w') := Lib.hid fun W hW => by
    rw [← hV]; exact fload W hW n.e n.xs7 hn
  have HSt : Hid (∀ W, Ch w0 a S0 ⟨n.e, c.t, c.sc, c.ha, c.xs⟩ W → Calls Tryz.prog 45 #[.pointer (some ⟨a.mg, 0, none⟩), .agg #[.int .u32 n.t.pb, .int .u32 n.t.pn, .int .u32 n.t.sb, .int .u32 n.t.sn, .int .u32 n.t.me]] W fun e w' => e = .returned (.tuple #[]) ∧ Ch w0 a S0 ⟨n.e, n.t, c.sc, c.ha, c.xs⟩ w' ∧ Mv a W w') := Lib.hid fun W hW => fsett W hW n.t ht
  rw [hV]
  have hl26 : cs.length = 26 := by rw [← hcs, Hr.Re.length hn]; rfl
  have ho : ∀ v ∈ cs, v.oneCell' = true := by rw [← hcs]; exact Hr.one_cells n.xs7.one
  have hi : (Tryz.prog.info? 28).map (·.size) = some cs.length := by rw [hl26, Hr.st_size]
  have hat : ∀ i v, n.xs7.l[i]? = some v → cs[19 + i]? = some v := fun i v hv => by rw [← hcs, Hr.Re.at_t hn]; exact hv
  have HAt := Lib.hid hat
  have HSc := Lib.hid hsc
  have H := Lib.hid h
  have HBN : Hid (Hr.Bk (w.alloc (.cells cs.toArray 28)) w.heap.size 28 cs) := Lib.hid (Hr.Bk.new _ _ _)
  have hB : Below w.heap.size w (w.alloc (.cells cs.toArray 28)) := by go_grown
  have K := Lib.hid (nx_below h hB)
  clear h hB hcs hV hn ht hsc hat
  go_enter Tryz.func23, Tryz.ntmps23
  go_upto_region 2 with (refine Hr.wl_box rfl _ _ rfl _ rfl ?_)
  generalize w.alloc (.cells cs.toArray 28) = W at *
  have c2 := K.out.1.c2
  have hgl := K.out.1.glt
  have hne : a.g ≠ w.heap.size := Nat.ne_of_lt H.out.glt
  generalize hg : w.heap.size = g at *
  go_cut [] from 6 to 12 (fun W' => Ch w0 a S0 ⟨n.e, c.t, c.sc, c.ha, c.xs⟩ W' ∧ Mv a w W' ∧ Hr.Bk W' g 28 cs)
  case first =>
    have K2 := Lib.hid (nx_trans K.out.2 (nx_below K.out.1 ((Below.refl W.heap.size W).drew)))
    have HBd := Lib.hid HBN.out.drew
    have HRg := Lib.hid (HBd.out.range 0 cs (by simp))
    clear HBN HSt ho HAt HSc K
    go_still_tail 5, (by kernel_rfl)
    refine still_load_mid rfl 28 (.tmp 3) rfl g 0 rfl cs _ HRg.out Tryz.underlying28 rfl hi ?_
    refine wpStill_nil ?_
    change wpList _ _ _ _ _ W.drew
    simp only [Act.put, List.setIfInBounds_toArray, List.set_cons_zero, List.set_cons_succ]
    clear c2 hgl HRg
    generalize W.drew = V at *
    go_wp2_with (first
      | (go_at_call 44; refine (HLd.out _ K2.out.1).mono ?_; rintro e w3 ⟨rfl, h3, m3⟩; have H3 := Lib.hid h3; have M3 := Lib.hid m3; clear h3 m3)
      | fail)
    go_meet
    exact ⟨H3.out, K2.out.2.trans M3.out, (M3.out.heap K2.out.1 ⟨_, ⟨_, _, HBd.out⟩, by simp [Mty], by decide⟩).trans HBd.out⟩
  case rest =>
  obtain ⟨h3, m3, hb3⟩ := hcut
  clear c2 hgl K HBN HLd
  have c1 := h3.c1
  have hgl := h3.glt
  have hbl := hb3.lt
  have s19 := hb3.cell 19 _ (HAt.out 0 _ rfl)
  have s20 := hb3.cell 20 _ (HAt.out 1 _ rfl)
  have s21 := hb3.cell 21 _ (HAt.out 2 _ rfl)
  have s22 := hb3.cell 22 _ (HAt.out 3 _ rfl)
  have s23 := hb3.cell 23 _ (HAt.out 4 _ rfl)
  have H3 := Lib.hid h3
  have M3 := Lib.hid m3
  have HB3 := Lib.hid hb3
  clear h3 m3 hb3
  simp only [Mc.xs7] at s19 s20 s21 s22 s23
  go_upto_region 3 with fail
  go_still_tail 6, (by kernel_rfl)
  change wpList _ _ _ _ _ wc.drew
  have K4 := Lib.hid (nx_trans M3.out (nx_below H3.out ((Below.refl wc.heap.size wc).drew)))
  have HB4 := Lib.hid HB3.out.drew
  clear s19 s20 s21 s22 s23 c1 hgl hbl H3 M3 HB3
  generalize wc.drew = V at *
  go_wp2_with fail
  refine (HSt.out _ K4.out.1).mono ?_
  rintro e w5 ⟨rfl, h5, m5⟩
  have hb5 : Hr.Bk w5 g 28 cs := (m5.heap K4.out.1 ⟨_, ⟨_, _, HB4.out⟩, by simp [Mty], by decide⟩).trans HB4.out
  have s24 := hb5.cell 24 _ (HAt.out 5 _ rfl)
  have s25 := hb5.cell 25 _ (HAt.out 6 _ rfl)
  simp only [Mc.xs7] at s24 s25
  have hbl := hb5.lt
  have c3 := h5.c3
  have c4 := h5.c4
  have cf := h5.fr
  have hgl := h5.glt
  have H5 := Lib.hid h5
  have M5 := Lib.hid (K4.out.2.trans m5)
  clear h5 m5 hb5 K4 HB4 HSt
  go_upto_region 4 with fail
  go_region
  all_goals go_wp2
  all_goals
    first | go_end0 | (refine bodyPost_ret (results_none rfl _ _ _) rfl ?_)
  all_goals
    refine ⟨rfl, ?_⟩
    first
      | (obtain ⟨a1, a2⟩ := H5.out.scbb n.sc HSc.out; obtain ⟨a3, a4⟩ := a1.halt n.ha; have a5 := nx_below a3 ((Below.refl _ _).drew); exact ⟨a5.1, ((M5.out.trans a2).trans a4).trans a5.2⟩)
      | (obtain ⟨a1, a2⟩ := H5.out.halt n.ha; obtain ⟨a3, a4⟩ := a1.scbb n.sc HSc.out; have a5 := nx_below a3 ((Below.refl _ _).drew); exact ⟨a5.1, ((M5.out.trans a2).trans a4).trans a5.2⟩)
end

end Go.Proofs.YteohkobdmkbcpaaGreatDoor.Cs
