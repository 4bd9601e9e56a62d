/- The walk of RegsDoes. -/
import Derived.Test.YtgljkadelkglbaaHBoth
namespace Go.Proofs.Ytgljkadelkglbaa.Cs
open Go.RowKit Ps Tl

def z31 : List Value := [.int .i64 0, .int .i64 0, .int .u32 0, .int .i64 0, .bool false] ++ z26
theorem z31_new (w : World) : w.alloc (.cells #[.int .i64 0, .int .i64 0, .int .u32 0, .int .i64 0, .bool false, .int .u32 0, .int .u32 0, .int .u32 0, .int .u32 0, .int .u32 0, .int .u32 0, .int .u32 0, .int .u32 0, .int .u32 0, .int .u32 0, .int .u32 0, .int .u32 0, .int .u32 0, .int .u32 0, .int .u32 0, .int .u32 0, .int .u32 0, .int .u32 0, .int .u32 0, .int .u32 0, .int .u32 0, .int .u32 0, .int .u32 0, .int .u32 0, .int .u32 0, .int .i64 0] 38) = w.alloc (.cells z31.toArray 38) := rfl
theorem cl_size : (Try.prog.info? 38).map (·.size) = some 31 := by kernel_rfl
theorem cl_agg (w : World) : (isAgg 38).run Try.prog w = .ok true w := by kernel_rfl
section
variable {ops : Array Oper} {rest : List Oper} {op : Oper} {a : Act} {w : World} {Q : Exit → Act → World → Prop}
/-- a call out of the slice -/
theorem wl_call (hgd : op.guard = none) (q : Operand) (ho : op.op = .load 38 q) (ad : Addr) (hq : a.eval q = .pointer (some ad)) (c : Cl) (hc : c.Ok) (hl : ∀ j v, c.cells[j]? = some v → w.cell? (ad.add j) = some v)
    (h : wpList Try.prog ops Q rest (a.put op.dst (.agg c.cells.toArray)) w) : wpList Try.prog ops Q (op :: rest) a w :=
  wpList_plain hgd fun _ hK => by
    have e := run_loadCells_list (P := Try.prog) w ad c.cells hl
    have hs : (sizeOf 38).run Try.prog w = .ok c.cells.length w := by rw [Cl.length hc]; kernel_rfl
    unfold Oper.wp execOp
    simp only [ho, hq, Instr.loadAt, Instr.sureAddr, loadVar, Sem.run_bind, Sem.run_pure, Result.andThen_ok, cl_agg, if_true, hs, e]
    exact hK _ _ h
/-- a call into a variable that was made just now -/
theorem wl_keepc (hgd : op.guard = none) (q r : Operand) (ho : op.op = .store 38 q r) (W : World) (hw : w = W.alloc (.cells z31.toArray 38)) (hq : a.eval q = .pointer (some ⟨W.heap.size, 0, none⟩))
    (c : Cl) (hc : c.Ok) (hr : a.eval r = .agg c.cells.toArray) (h : wpList Try.prog ops Q rest (a.put op.dst undef) (W.alloc (.cells c.cells.toArray 38))) : wpList Try.prog ops Q (op :: rest) a w :=
  wpList_plain hgd fun _ hK => by
    have e := run_storeAt_new (P := Try.prog) W 38 z31.toArray c.cells.toArray (by rw [List.size_toArray, Cl.length hc, cl_size]) (by rw [List.size_toArray, List.size_toArray, Cl.length hc]; rfl) (all_oneCell_toArray c.one)
    unfold Oper.wp execOp
    simp only [ho, hq, hr, hw, Sem.run_bind, Sem.run_pure, e, Result.andThen_ok]
    exact hK _ _ h
end

/-- both, and the call that is done -/
structure Lr (w W : World) (b g m : Nat) (S : Nat → Prop) (s : Re) (x : Xs) (e : Re) (ps : Ps') (t : Nat) (c : Cl) : Prop where
  lq : Lq w W b g m S s x e ps
  bk : Bk W t 38 c.cells
  ok : c.Ok
  tg : t ≠ g
  ts : ¬ S t
section
variable {w W W1 W2 : World} {b g m t : Nat} {S S' : Nat → Prop} {s e e' : Re} {x : Xs} {ps ps' : Ps'} {c : Cl}
theorem Lr.new (h : Lq w W b g m S s x e ps) (hc : c.Ok) : Lr w (W.alloc (.cells c.cells.toArray 38)) b g m S s x e ps W.heap.size c :=
  ⟨h.below ((Below.refl _ _).alloc (Nat.le_refl _) _), Bk.new _ _ _, hc, fun e => by have := h.pf.lt; omega, fun hs => by have := h.rf.lo _ hs; omega⟩
theorem Lr.below (h : Lr w W b g m S s x e ps t c) (k : Below W.heap.size W W1) : Lr w W1 b g m S s x e ps t c := ⟨h.lq.below k, h.bk.below k, h.ok, h.tg, h.ts⟩
theorem Lr.both (h : Lr w W b g m S s x e ps t c) (p1 : Pf W1 g e' ps') (m1 : Mods (One g) W W1) (r2 : Rf W2 m S' e' ps') (s2 : Step S S' W1 W2) : Lr w W2 b g m S' s x e' ps' t c :=
  ⟨h.lq.both p1 m1 r2 s2, bk_both h.bk h.tg h.ts m1 s2, h.ok, h.tg, fun hs => by
    rcases s2.grow t hs with k | k
    · exact h.ts k
    · have := (h.bk.mods m1 h.tg).lt; omega⟩
theorem cl_tri (h : Bk W t 38 c.cells) : W.cell? ⟨t, 1, none⟩ = some (.int .i64 c.N) ∧ W.cell? ⟨t, 2, none⟩ = some (.int .u32 c.X) ∧ W.cell? ⟨t, 3, none⟩ = some (.int .i64 c.Z) :=
  ⟨h.cell 1 _ rfl, h.cell 2 _ rfl, h.cell 3 _ rfl⟩
theorem cl_two (h : Bk W t 38 c.cells) : W.cell? ⟨t, 1, none⟩ = some (.int .i64 c.N) ∧ W.cell? ⟨t, 2, none⟩ = some (.int .u32 c.X) := ⟨h.cell 1 _ rfl, h.cell 2 _ rfl⟩
theorem cl_state (h : Bk W t 38 c.cells) : W.rangeAt t 5 (c.s.cells c.y.l) := h.range 5 _ (by simp [Cl.cells])
end
theorem build_ref0 (w : World) : (Instr.build 36 #[]).run Try.prog w = .ok (.agg (Re.nul.cells (x0.l ++ [.slice none 0 0, .slice none 0 0])).toArray) w := by kernel_rfl
theorem rf_new (w : World) : Rf (w.alloc (.cells (Re.nul.cells (x0.l ++ [.slice none 0 0, .slice none 0 0])).toArray 36)) w.heap.size (One w.heap.size) Re.nul [] := by
  have hS : ∀ k, One w.heap.size k ↔ (k = w.heap.size ∨ Bl (.slice none 0 0) k ∨ Bl (.slice none 0 0) k) := fun k => ⟨fun h => .inl h, fun h => by
    rcases h with h | h | h
    · exact h
    · cases h
    · cases h⟩
  exact ⟨⟨.slice none 0 0, .slice none 0 0, Bk.new _ _ _, rnil _ _ _, rnil _ _ _, fun _ h => (by cases h), fun h => (by cases h), fun h => (by cases h), hS⟩, Re.nul_ok, fun _ h => (by cases h)⟩

set_option maxRecDepth 100000 in
set_option maxHeartbeats 8000000 in
theorem does_short (A : Option Addr) (n c0 : Nat) (s : Re) (x : Xs) (w : World) (hA : Cls w A n c0) (hs : s.Ok) (hn : n ≤ 80) :
    Calls Try.prog 3 #[.slice A n c0, sv s x] w fun r w' => r = .returned (.bool true) ∧ Below w.heap.size w w' := by
  have hn' : ¬ (80 : Int) < (n : Int) := by omega
  have HS := Lib.hid hs
  have HA := Lib.hid hA
  clear hs hA
  go_enter Try.func3, Try.ntmps3
  go_wp2_with (refine wl_box rfl _ _ rfl _ rfl ?_)
  refine (alive_any _).mono ?_
  rintro _ w1 ⟨rfl, b1⟩
  have HT := Lib.hid ((Sb.new w x HS.out).below b1)
  have HB := Lib.hid (below2 ((Below.refl w.heap.size w).alloc (Nat.le_refl _) _) b1)
  clear b1
  have hbl := HT.out.lt
  generalize hb : w.heap.size = b at *
  go_wp2_with fail
  refine (new_any _).mono ?_
  rintro _ w2 ⟨rfl, f2, b2⟩
  have HP := Lib.hid (Pf.none f2)
  have HG := Lib.hid hbl
  have HT2 := Lib.hid (HT.out.below b2)
  have HB2 := Lib.hid (show Below b w w2 from HB.out.trans (b2.mono (Nat.le_of_lt hbl)))
  clear f2 b2 hbl HT HB
  generalize w1.heap.size = g at *
  have H3 := Lib.hid (show Lq w (w2.alloc (.cells (Re.nul.cells (x0.l ++ [.slice none 0 0, .slice none 0 0])).toArray 36)) b g w2.heap.size (One w2.heap.size) s x Re.nul [] from
    ⟨HP.out.below ((Below.refl _ _).alloc (Nat.le_refl _) _), rf_new w2, fun h : g = w2.heap.size => by have := HP.out.lt; omega, fun k hk => by rw [hb]; have h1 : k = w2.heap.size := hk; have := HT2.out.lt; omega, by rw [hb]; exact Nat.le_of_lt HG.out, by rw [hb]; exact HB2.out.alloc (Nat.le_of_lt HT2.out.lt) _,
      HT2.out.below ((Below.refl _ _).alloc (Nat.le_refl _) _), Nat.ne_of_lt HG.out, fun h : b = w2.heap.size => by have := HT2.out.lt; omega⟩)
  go_upto_region 6 with (first
    | refine wl_build rfl 36 _ rfl #[] (by simp) (.agg (Re.nul.cells (x0.l ++ [.slice none 0 0, .slice none 0 0])).toArray) (build_ref0 _) ?_
    | refine wl_box rfl 36 _ rfl (Re.nul.cells (x0.l ++ [.slice none 0 0, .slice none 0 0])) (by simp [Act.eval, Act.put]) ?_)
  clear HP HG HT2 HB2
  generalize w2.alloc (.cells (Re.nul.cells (x0.l ++ [.slice none 0 0, .slice none 0 0])).toArray 36) = w3 at *
  generalize w2.heap.size = m at *
  generalize One m = S0 at *
  go_wp2_with fail
  go_loopw [20] (fun i W => ∃ (k : Nat) (S : Nat → Prop) (e : Re) (ps : Ps'), k ≤ n ∧ ps.length ≤ k ∧ i = .int .i64 k ∧ Lq w W b g m S s x e ps) (fun i _ => n - (intOf i).toNat)
  case atStart => exact ⟨0, _, _, _, Nat.zero_le _, Nat.le_refl _, rfl, H3.out⟩
  case round =>
    clear H3
    obtain ⟨k, S, e, ps, hk, hps, rfl, hL⟩ := hrel
    have HL := Lib.hid hL
    clear hL
    by_cases hlt : k < n
    · obtain ⟨ad, c, rfl, hc, hbl, hcell⟩ := HA.out.2 k hlt
      have HC := Lib.hid hc
      have HD : Hid (∀ j v, c.cells[j]? = some v → wr.cell? ((ad.add (k * 31)).add j) = some v) := fun j v hv =>
        (HL.out.bel.cell (p := (ad.add (k * 31)).add j) (by rw [addr_block, addr_block]; exact hbl)).trans (hcell j v hv)
      have HR := Lib.hid (Lr.new HL.out hc)
      clear hc hbl hcell
      go_upto_region 10 with (first
        | refine wl_call rfl _ rfl (ad.add (k * 31)) (by rfl) c HC.out HD.out ?_
        | refine wl_keepc rfl _ _ rfl wr (z31_new wr) rfl c HC.out rfl ?_)
      clear HD HL
      generalize wr.alloc (.cells c.cells.toArray 38) = W at *
      generalize wr.heap.size = t at *
      dsimp only [Act.put]
      have cK := HR.out.bk.cell 0 _ rfl
      have HX := Lib.hid HC.out.x
      obtain ⟨K, hK⟩ : ∃ K, c.K = K := ⟨_, rfl⟩
      rw [hK] at cK
      clear hK
      by_cases h0 : K = 0
      · subst h0
        obtain ⟨e', v, hD⟩ := set_both e c.N c.X c.Z HX.out
        have D := Lib.hid (hD g m ps)
        clear hD
        have HD1 := Lib.hid (HR.out.below (Below.refl _ _).drew)
        obtain ⟨c1, c2, c3⟩ := cl_tri HR.out.bk
        have HN := Lib.hid HR.out.tg
        go_wp2_with fail
        go_region_held3 (fun w' => w'.cell? ⟨t, 1, none⟩ = some (.int .i64 c.N) ∧ w'.cell? ⟨t, 2, none⟩ = some (.int .u32 c.X) ∧ w'.cell? ⟨t, 3, none⟩ = some (.int .i64 c.Z))
          (first | exact cl_tri (bk_both HD1.out.bk HD1.out.tg HD1.out.ts m5 s6) | exact cl_tri (HD1.out.bk.mods m5 HD1.out.tg) | exact cl_tri HD1.out.bk)
          (first
            | (go_at_call_of 10 (Value.pointer none); refine (set_nil _ _ _ _).mono ?_; rintro _ w' ⟨rfl, rfl⟩)
            | (go_at_call 10; refine (D.out.1 _ HD1.out.lq.pf).mono ?_; rintro _ w5 ⟨rfl, p5, m5⟩)
            | (go_at_call 11; refine (D.out.2 _ _ (HD1.out.lq.rf1 m5)).mono ?_; rintro _ w6 ⟨rfl, S6, r6, s6⟩))
        have HR6 := Lib.hid (HD1.out.both p5 m5 r6 s6)
        clear p5 m5 r6 s6 HR HD1 D
        go_wp2_with (refine wl_state rfl _ rfl b rfl s x HR6.out.lq.st ?_)
        obtain ⟨ss, hss⟩ := HR6.out.lq.pf.fi
        refine (same_any _ g m _ _ s x ss _ hss HR6.out.lq.rf HS.out).mono ?_
        rintro _ w7 ⟨rfl, b7⟩
        have HL7 := Lib.hid (HR6.out.lq.below b7)
        clear b7 HR6 hss
        go_wp2_with fail
        go_roundw
        case rel => exact ⟨k + 1, _, _, _, by omega, by omega, by go_num, HL7.out⟩
        case measure => simp [intOf]; omega
      by_cases h1 : K = 1
      · subst h1
        obtain ⟨e', ps', v, hlen, hD⟩ := step_both e ps (by omega) c.N c.X HX.out
        have D := Lib.hid (hD g m)
        clear hD
        have HD1 := Lib.hid (HR.out.below (Below.refl _ _).drew)
        obtain ⟨c1, c2⟩ := cl_two HR.out.bk
        have HN := Lib.hid HR.out.tg
        go_wp2_with fail
        go_region_held3 (fun w' => w'.cell? ⟨t, 1, none⟩ = some (.int .i64 c.N) ∧ w'.cell? ⟨t, 2, none⟩ = some (.int .u32 c.X))
          (first | exact cl_two (bk_both HD1.out.bk HD1.out.tg HD1.out.ts m5 s6) | exact cl_two (HD1.out.bk.mods m5 HD1.out.tg) | exact cl_two HD1.out.bk)
          (first
            | (go_at_call_of 12 (Value.pointer none); refine (step_nil _ _ _).mono ?_; rintro _ w' ⟨rfl, rfl⟩)
            | (go_at_call 12; refine (D.out.1 _ HD1.out.lq.pf).mono ?_; rintro _ w5 ⟨rfl, p5, m5⟩)
            | (go_at_call 13; refine (D.out.2 _ _ (HD1.out.lq.rf1 m5)).mono ?_; rintro _ w6 ⟨rfl, S6, r6, s6⟩))
        have HR6 := Lib.hid (HD1.out.both p5 m5 r6 s6)
        clear p5 m5 r6 s6 HR HD1 D
        go_wp2_with (refine wl_state rfl _ rfl b rfl s x HR6.out.lq.st ?_)
        obtain ⟨ss, hss⟩ := HR6.out.lq.pf.fi
        refine (same_any _ g m _ _ s x ss _ hss HR6.out.lq.rf HS.out).mono ?_
        rintro _ w7 ⟨rfl, b7⟩
        have HL7 := Lib.hid (HR6.out.lq.below b7)
        clear b7 HR6 hss
        go_wp2_with fail
        go_roundw
        case rel => exact ⟨k + 1, _, _, _, by omega, by omega, by go_num, HL7.out⟩
        case measure => simp [intOf]; omega
      by_cases h2 : K = 2
      · subst h2
        have D := Lib.hid (undo_both e ps (by omega) g m)
        go_wp2_with fail
        refine (D.out.1 _ HR.out.lq.pf).mono ?_
        rintro _ w5 ⟨rfl, p5, m5⟩
        have R5 := Lib.hid (HR.out.lq.rf1 m5)
        have P5 := Lib.hid p5
        have M5 := Lib.hid m5
        clear p5 m5
        go_wp2_with fail
        refine (D.out.2 _ _ R5.out).mono ?_
        rintro _ w6 ⟨rfl, S6, r6, s6⟩
        have HR6 := Lib.hid (HR.out.both P5.out M5.out r6 s6)
        clear r6 s6 R5 P5 M5 HR D
        go_wp2_with fail
        refine (undo_nil _).mono ?_
        rintro _ w' ⟨rfl, rfl⟩
        go_wp2_with (refine wl_state rfl _ rfl b rfl s x HR6.out.lq.st ?_)
        obtain ⟨ss, hss⟩ := HR6.out.lq.pf.fi
        refine (same_any _ g m _ _ s x ss _ hss HR6.out.lq.rf HS.out).mono ?_
        rintro _ w7 ⟨rfl, b7⟩
        have HL7 := Lib.hid (HR6.out.lq.below b7)
        clear b7 HR6 hss
        go_wp2_with fail
        go_roundw
        case rel => exact ⟨k + 1, _, _, _, by omega, Nat.zero_le _, by go_num, HL7.out⟩
        case measure => simp [intOf]; omega
      by_cases h3 : K = 3
      · subst h3
        have D := Lib.hid (forget_both e ps g m)
        go_wp2_with fail
        refine (D.out.1 _ HR.out.lq.pf).mono ?_
        rintro _ w5 ⟨rfl, p5, m5⟩
        have R5 := Lib.hid (HR.out.lq.rf1 m5)
        have P5 := Lib.hid p5
        have M5 := Lib.hid m5
        clear p5 m5
        go_wp2_with fail
        refine (D.out.2 _ _ R5.out).mono ?_
        rintro _ w6 ⟨rfl, S6, r6, s6⟩
        have HR6 := Lib.hid (HR.out.both P5.out M5.out r6 s6)
        clear r6 s6 R5 P5 M5 HR D
        go_wp2_with fail
        refine (forget_nil _).mono ?_
        rintro _ w' ⟨rfl, rfl⟩
        go_wp2_with (refine wl_state rfl _ rfl b rfl s x HR6.out.lq.st ?_)
        obtain ⟨ss, hss⟩ := HR6.out.lq.pf.fi
        refine (same_any _ g m _ _ s x ss _ hss HR6.out.lq.rf HS.out).mono ?_
        rintro _ w7 ⟨rfl, b7⟩
        have HL7 := Lib.hid (HR6.out.lq.below b7)
        clear b7 HR6 hss
        go_wp2_with fail
        go_roundw
        case rel => exact ⟨k + 1, _, _, _, by omega, Nat.zero_le _, by go_num, HL7.out⟩
        case measure => simp [intOf]; omega
      by_cases h4 : K = 4
      · subst h4
        have D := Lib.hid (put_both e ps c.X HX.out g m)
        have c2 := HR.out.bk.cell 2 _ rfl
        go_wp2_with fail
        refine (D.out.1 _ HR.out.lq.pf).mono ?_
        rintro _ w5 ⟨rfl, p5, m5⟩
        have B5 := Lib.hid (HR.out.bk.mods m5 HR.out.tg)
        replace c2 := B5.out.cell 2 _ rfl
        have R5 := Lib.hid (HR.out.lq.rf1 m5)
        have P5 := Lib.hid p5
        have M5 := Lib.hid m5
        clear p5 m5
        go_wp2_with fail
        refine (D.out.2 _ _ R5.out).mono ?_
        rintro _ w6 ⟨rfl, S6, r6, s6⟩
        have HR6 := Lib.hid (HR.out.both P5.out M5.out r6 s6)
        clear r6 s6 R5 P5 M5 HR D
        replace c2 := HR6.out.bk.cell 2 _ rfl
        go_wp2_with fail
        refine (put_nil _ _).mono ?_
        rintro _ w' ⟨rfl, rfl⟩
        go_wp2_with (refine wl_state rfl _ rfl b rfl s x HR6.out.lq.st ?_)
        obtain ⟨ss, hss⟩ := HR6.out.lq.pf.fi
        refine (same_any _ g m _ _ s x ss _ hss HR6.out.lq.rf HS.out).mono ?_
        rintro _ w7 ⟨rfl, b7⟩
        have HL7 := Lib.hid (HR6.out.lq.below b7)
        clear b7 HR6 hss
        go_wp2_with fail
        go_roundw
        case rel => exact ⟨k + 1, _, _, _, by omega, by omega, by go_num, HL7.out⟩
        case measure => simp [intOf]; omega
      by_cases h5 : K = 5
      · subst h5
        have D := Lib.hid (setstack_both e ps c.V c.X HX.out g m)
        have c4 := HR.out.bk.cell 4 _ rfl
        have c2 := HR.out.bk.cell 2 _ rfl
        go_wp2_with fail
        refine (D.out.1 _ HR.out.lq.pf).mono ?_
        rintro _ w5 ⟨rfl, p5, m5⟩
        have B5 := Lib.hid (HR.out.bk.mods m5 HR.out.tg)
        replace c4 := B5.out.cell 4 _ rfl
        replace c2 := B5.out.cell 2 _ rfl
        have R5 := Lib.hid (HR.out.lq.rf1 m5)
        have P5 := Lib.hid p5
        have M5 := Lib.hid m5
        clear p5 m5
        go_wp2_with fail
        refine (D.out.2 _ _ R5.out).mono ?_
        rintro _ w6 ⟨rfl, S6, r6, s6⟩
        have HR6 := Lib.hid (HR.out.both P5.out M5.out r6 s6)
        clear r6 s6 R5 P5 M5 HR D
        replace c4 := HR6.out.bk.cell 4 _ rfl
        replace c2 := HR6.out.bk.cell 2 _ rfl
        go_wp2_with fail
        refine (setstack_nil _ _ _).mono ?_
        rintro _ w' ⟨rfl, rfl⟩
        go_wp2_with (refine wl_state rfl _ rfl b rfl s x HR6.out.lq.st ?_)
        obtain ⟨ss, hss⟩ := HR6.out.lq.pf.fi
        refine (same_any _ g m _ _ s x ss _ hss HR6.out.lq.rf HS.out).mono ?_
        rintro _ w7 ⟨rfl, b7⟩
        have HL7 := Lib.hid (HR6.out.lq.below b7)
        clear b7 HR6 hss
        go_wp2_with fail
        go_roundw
        case rel => exact ⟨k + 1, _, _, _, by omega, by omega, by go_num, HL7.out⟩
        case measure => simp [intOf]; omega
      by_cases h6 : K = 6
      · subst h6
        have D := Lib.hid (load_both e ps c.s c.y HC.out.s g m)
        have HZ : Hid ((Try.prog.info? 28).map (·.size) = some (c.s.cells c.y.l).length) := by
          show _ = _
          rw [Re.length HC.out.s, st_size]; rfl
        go_wp2_with (refine wpList_load_mid rfl 28 _ rfl t 5 rfl (c.s.cells c.y.l) _ (cl_state HR.out.bk) Try.underlying28 rfl HZ.out ?_)
        refine (D.out.1 _ HR.out.lq.pf).mono ?_
        rintro _ w5 ⟨rfl, p5, m5⟩
        have B5 := Lib.hid (HR.out.bk.mods m5 HR.out.tg)
        have R5 := Lib.hid (HR.out.lq.rf1 m5)
        have P5 := Lib.hid p5
        have M5 := Lib.hid m5
        clear p5 m5
        go_wp2_with (refine wpList_load_mid rfl 28 _ rfl t 5 rfl (c.s.cells c.y.l) _ (cl_state B5.out) Try.underlying28 rfl HZ.out ?_)
        refine (D.out.2 _ _ R5.out).mono ?_
        rintro _ w6 ⟨rfl, S6, r6, s6⟩
        have HR6 := Lib.hid (HR.out.both P5.out M5.out r6 s6)
        clear r6 s6 R5 P5 M5 HR D
        go_wp2_with (refine wpList_load_mid rfl 28 _ rfl t 5 rfl (c.s.cells c.y.l) _ (cl_state HR6.out.bk) Try.underlying28 rfl HZ.out ?_)
        refine (load_nil _ c.s c.y).mono ?_
        rintro _ w8 ⟨rfl, b8⟩
        have HR8 := Lib.hid (HR6.out.below b8)
        clear b8 HR6
        go_wp2_with (refine wl_state rfl _ rfl b rfl s x HR8.out.lq.st ?_)
        obtain ⟨ss, hss⟩ := HR8.out.lq.pf.fi
        refine (same_any _ g m _ _ s x ss _ hss HR8.out.lq.rf HS.out).mono ?_
        rintro _ w7 ⟨rfl, b7⟩
        have HL7 := Lib.hid (HR8.out.lq.below b7)
        clear b7 HR8 hss
        go_wp2_with fail
        go_roundw
        case rel => exact ⟨k + 1, _, _, _, by omega, Nat.zero_le _, by go_num, HL7.out⟩
        case measure => simp [intOf]; omega
      have e0 : (K == 0) = false := by simpa using h0
      have e1 : (K == 1) = false := by simpa using h1
      have e2 : (K == 2) = false := by simpa using h2
      have e3 : (K == 3) = false := by simpa using h3
      have e4 : (K == 4) = false := by simpa using h4
      have e5 : (K == 5) = false := by simpa using h5
      have e6 : (K == 6) = false := by simpa using h6
      clear h0 h1 h2 h3 h4 h5 h6
      go_wp2_with (refine wl_state rfl _ rfl b rfl s x HR.out.lq.st ?_)
      obtain ⟨ss, hss⟩ := HR.out.lq.pf.fi
      refine (same_any _ g m _ _ s x ss _ hss HR.out.lq.rf HS.out).mono ?_
      rintro _ w7 ⟨rfl, b7⟩
      have HL7 := Lib.hid (HR.out.lq.below b7)
      clear b7 HR hss
      go_wp2_with fail
      go_roundw
      case rel => exact ⟨k + 1, _, _, _, by omega, by omega, by go_num, HL7.out⟩
      case measure => simp [intOf]; omega
    · obtain rfl : k = n := by omega
      clear hk hlt hps HA
      have HT := Lib.hid HL.out.st
      have HW := Lib.hid HL.out.bel
      clear HL
      go_wp2_with fail
      have S1 := Lib.hid (later_sb HT.out)
      refine wp_region_later (by kernel_rfl) (by kernel_rfl) ?_
      repeat (first
        | (go_big_quiet_want; (first | refine quiet_state _ rfl b (by rfl) s x S1.out ?_ | refine quiet_eql _ _ _ rfl s x HS.out rfl rfl ?_); simp only [Act.put, List.setIfInBounds_toArray, List.set_cons_succ, List.set_cons_zero]; go_big_quiet_on)
        | go_big_quiet_step (first | (go_at_call 25; exact later_same (get_nil _ _)) | (go_at_call 26; exact later_same (psl_nil _)) | (go_at_call 27; exact later_same (stack_nil _ _)) | (go_at_call 28; exact later_same (steps_nil _)) | (go_at_call 29; exact later_of (save_nil _ s x HS.out))))
      refine wpQuiet_nil ?_
      rintro _ ⟨⟨w9, hb9⟩, rfl⟩
      go_wp2
      go_ret
      exact ⟨rfl, below2 (hb ▸ HW.out) hb9⟩

set_option maxRecDepth 100000 in
set_option maxHeartbeats 1000000 in
theorem does_long (A : Option Addr) (n c0 : Nat) (s : Re) (x : Xs) (w : World) (hn : ¬ n ≤ 80) :
    Calls Try.prog 3 #[.slice A n c0, sv s x] w fun r w' => r = .returned (.bool true) ∧ Below w.heap.size w w' := by
  have hn' : (80 : Int) < (n : Int) := by omega
  clear hn
  go_enter Try.func3, Try.ntmps3
  go_wp2_with (refine wl_box rfl _ _ rfl _ rfl ?_)
  refine (alive_any _).mono ?_
  rintro _ w1 ⟨rfl, b1⟩
  have HB := Lib.hid (below2 ((Below.refl w.heap.size w).alloc (Nat.le_refl _) _) b1)
  go_wp2_with fail
  go_ret
  exact ⟨rfl, HB.out⟩

theorem does_walk (A : Option Addr) (n c0 : Nat) (s : Sx) (w : World) (hA : Cls w A n c0) (hs : s.Ok) :
    Calls Try.prog 3 #[.slice A n c0, sv s.e s.x] w fun r w' => r = .returned (.bool true) ∧ Below w.heap.size w w' := by
  by_cases hn : n ≤ 80
  · exact does_short A n c0 s.e s.x w hA hs hn
  · exact does_long A n c0 s.e s.x w hn
end Go.Proofs.Ytgljkadelkglbaa.Cs
