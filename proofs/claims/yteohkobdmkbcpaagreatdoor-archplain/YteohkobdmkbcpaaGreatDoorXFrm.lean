/- Contract: what is pushed for what is raised. -/
import Derived.Test.YteohkobdmkbcpaaGreatDoorXRev
import Derived.Deep.RegionHeld3
namespace Go.Proofs.YteohkobdmkbcpaaGreatDoor.Cs
open Go.RowKit
set_option linter.unusedVariables false
set_option linter.unusedSimpArgs false

/-- A row of long numbers of one's own. -/
def R32 (w : World) (v : Value) (ys : List Int) : Prop := w.ownsRow 0 23 1 v ys.length (Tl.c1 ys)
theorem R32.lit (w : World) (ys : List Int) (n : Nat) (hn : ys.length = n) (hm : n ≤ 1000) : R32 (w.alloc (.cells (Tl.c1 ys).toArray 23)) (.slice (some ⟨w.heap.size, 0, none⟩) n n) ys := by
  subst hn
  have := World.ownsRow_lit (e := 23) (size := 1) (base := 0) w (Tl.c1 ys).toArray ys.length (Nat.zero_le _) (by simp only [maxLen]; omega) (by simp [Tl.c1])
  exact this
theorem under_longs : Tryz.prog.underlying 78 = some (.slice 23) := by kernel_rfl
theorem long_info : (Tryz.prog.info? 23).map (fun i => (i.zero, i.size, i.bytes)) = some (some (.int .u32 0), 1, 4) := by kernel_rfl
theorem c1_len (ys : List Int) : (Tl.c1 ys).length = ys.length := by simp [Tl.c1]
theorem c1_at (ys : List Int) (k : Nat) (h : k < ys.length) : (Tl.c1 ys)[k]? = some (.int .u32 (ys.getD k 0)) := by simp [Tl.c1, List.getD, h]
theorem R32.cr {w : World} {v : Value} {ys : List Int} {n : Nat} (h : R32 w v ys) (hn : ys.length = n) (h0 : 0 < n) : ∃ r c, v = .slice (some ⟨r, 0, none⟩) n c ∧ n ≤ c ∧ Cr w r ys w := by
  subst hn
  rcases Tl.own_shape h with ⟨_, h1⟩ | ⟨r, cap, rfl, hcap, _, _, hc, hf⟩
  · omega
  · exact ⟨r, cap, rfl, hcap, ⟨fun k hk => hc k _ (c1_at ys k hk), hf, Tl.Mods.refl _ _⟩⟩
/-- append of numbers that lie somewhere -/
theorem run_app32 (w : World) (v : Value) (ys zs : List Int) (A : Option Addr) (m c : Nat) (h : R32 w v ys) (hz : zs.length = m) (hs : m = 0 ∨ ∃ r, A = some ⟨r, 0, none⟩ ∧ ∀ k, k < m → w.cell? ⟨r, k, none⟩ = some (.int .u32 (zs.getD k 0))) (hl : ys.length + m ≤ 1000) (hy : 0 < ys.length) :
    ∃ r' c' w', (Builtin.append_ #[78, 78] 78 #[v, .slice A m c]).run Tryz.prog w = .ok (.slice (some ⟨r', 0, none⟩) (ys.length + m) c') w' ∧
      Cr w' r' (ys ++ zs) w' ∧ Tl.Step (Tl.Bl v) (Tl.Bl (.slice (some ⟨r', 0, none⟩) (ys.length + m) c')) w w' := by
  obtain ⟨i, hi, hz', hsz, hb⟩ := info_parts long_info
  by_cases h0 : m = 0
  · subst h0
    obtain rfl : zs = [] := List.eq_nil_of_length_eq_zero hz
    obtain ⟨r, cap, rfl, hcap, hC⟩ := h.cr rfl hy
    have hcap' : ¬ cap < ys.length := by omega
    refine ⟨r, cap, w, ?_, by rw [List.append_nil]; exact hC, Tl.Step.of_below (Below.refl _ _)⟩
    cases A <;> simp [*, Builtin.append_, run_underlying under_longs, sizeOf, typeInfo, Builtin.lenOf, Builtin.firstCells, loadCells, loadCellsFrom, storeCells]
  · rcases hs with hs | ⟨r, rfl, hc⟩
    · exact absurd hs h0
    obtain ⟨v', w', hrun, ho, hg, _, hat⟩ := run_append_own_at (P := Tryz.prog) w 0 78 78 23 i (.int .u32 0) 1 4 under_longs hi hz' hsz hb rfl (by omega) v ys.length (Tl.c1 ys) h ⟨r, 0, none⟩ m c (Tl.c1 zs)
      (by rw [c1_len]; omega) (fun j u hj => by
        have hj' : j < m := by have := (List.getElem?_eq_some_iff.1 hj).1; rw [c1_len] at this; omega
        rw [Bt.Es.Addr.add_lit', hc j hj', ← hj, c1_at zs j (by omega)]) (by intro q hq; simp only [Tl.c1, List.mem_map] at hq; obtain ⟨_, _, rfl⟩ := hq; rfl) (by simp only [maxLen]; omega) (by omega) (by simp)
    have hR : R32 w' v' (ys ++ zs) := by
      show w'.ownsRow _ _ _ _ _ _
      have e : Tl.c1 (ys ++ zs) = Tl.c1 ys ++ Tl.c1 zs := by simp [Tl.c1]
      rw [List.length_append, e, hz]; exact ho
    obtain ⟨r', c', rfl, _, hC⟩ := hR.cr (n := ys.length + m) (by rw [List.length_append, hz]) (by omega)
    refine ⟨r', c', w', hrun, hC, Tl.Mods.of_grown hg (fun k e => e), ?_⟩
    intro k hk
    rcases hat with e | e
    · exact .inl (by rw [Tl.Bl, ← e]; exact hk)
    · right
      rw [Tl.Bl, e] at hk
      injection hk with hk
      omega

theorem step_append_run {P : Program} {w : World} {ops : Array Oper} {o : Oper} {a : Act} {K : Act → World → Prop} {Q : Exit → Act → World → Prop} {E : Prop} (hgd : o.guard = none) (d s : Operand) (t t' : TypeId)
    (ho : o.op = .call { callee := .builtin .append, args := #[d, s], argTypes := #[t, t'] }) (v u : Value) (hd : a.eval d = v) (hs : a.eval s = u) {v' : Value} {w' : World}
    (hr : (Builtin.append_ #[t, t'] o.type #[v, u]).run P w = .ok v' w') (h : K (a.put o.dst v') w') : if Region.wanted o (yielded ops a.tmps) = true then Oper.wp P o a w K Q else E := by
  have hw : Region.wanted o (yielded ops a.tmps) = true := by simp [Region.wanted, hgd]
  rw [if_pos hw]
  unfold Oper.wp execOp
  simp only [ho, resolve, invoke, builtin, Sem.run_bind, Sem.run_pure, Result.andThen_ok, List.map_toArray, List.map_cons, List.map_nil, hd, hs, hr]
  exact h
section
variable {w0 : World} {a : Ad} {S0 : Nat → Prop} {c : Mc}
set_option maxHeartbeats 4000000 in
set_option maxRecDepth 100000 in
theorem frame_any (w : World) (h : Ch w0 a S0 c w) (b : Nat) (z : Rz) (hz : Rb w b z) (hl : z.l.length ≤ 2) (hu : ∀ k, U (z.l.getD k 0)) : Calls Tryz.prog 48 #[.pointer (some ⟨a.g, 0, none⟩), .pointer (some ⟨b, 0, none⟩)] w fun e w' =>
    ∃ A cp, e = .returned (.slice A (8 + 4 * z.l.length) cp) ∧ Bt.Es.R8 w' (.slice A (8 + 4 * z.l.length) cp) (c.frm z) ∧ Tl.Ab w.heap.size (Tl.Bl (.slice A (8 + 4 * z.l.length) cp)) ∧ Below w.heap.size w w' := by
  obtain ⟨A, cp, hb, hs⟩ := hz.ex
  have r0 : w.cell? ⟨b, 0, none⟩ = some (.int .i64 z.v) := by rw [cell_of_row w b 0 _ _ _ hb]; rfl
  have r1 : w.cell? ⟨b, 1, none⟩ = some (.slice A z.l.length cp) := by rw [cell_of_row w b 1 _ _ _ hb]; rfl
  have H := Lib.hid h
  have c2 := h.c2
  have hp := h.eok.p
  have hg := gr_U h.eok 15
  have HF : Hid (c.frm z = laid (c.e.p :: c.gr 15 :: z.l).reverse) := rfl
  have hsz := h.size
  have hgl := h.glt
  have hbl := Tl.lt_of_heap hb
  obtain ⟨p, hpe⟩ : ∃ p, c.e.p = p := ⟨_, rfl⟩
  obtain ⟨q, hqe⟩ : ∃ q, c.gr 15 = q := ⟨_, rfl⟩
  rw [hpe] at hp HF
  rw [hqe] at hg HF
  have HPe := Lib.hid hpe
  have HQe := Lib.hid hqe
  have hR : R32 (w.drew.alloc (.cells #[Value.int .u32 p, Value.int .u32 q] 23)) (.slice (some ⟨w.heap.size, 0, none⟩) 2 2) [p, q] := R32.lit w.drew [p, q] 2 rfl (by omega)
  have HD : Hid (Ch w0 a S0 c w.drew) := h.below (Below.refl _ _).drew
  generalize z.l = zl at *
  rcases zl with _ | ⟨x, _ | ⟨y, _ | ⟨_, _⟩⟩⟩
  · have hs' : 0 = 0 ∨ ∃ r, A = some ⟨r, 0, none⟩ ∧ ∀ k, k < 0 → (w.drew.alloc (.cells #[Value.int .u32 p, Value.int .u32 q] 23)).cell? ⟨r, k, none⟩ = some (.int .u32 (List.getD [] k 0)) := by
      rcases hs with hs | ⟨r, rfl, hr⟩
      · first | exact .inl rfl | cases hs
      · right
        refine ⟨r, rfl, fun k hk => ?_⟩
        have hc : w.cell? ⟨r, k, none⟩ = some (.int .u32 (List.getD [] k 0)) := by
          rw [cell_of_row w r k _ _ _ hr]
          simpa using c1_at [] k hk
        have hB : Below w.heap.size w (w.drew.alloc (.cells #[Value.int .u32 p, Value.int .u32 q] 23)) := by go_grown
        exact (hB.cell (p := ⟨r, k, none⟩) (lt_cell hc)).trans hc
    obtain ⟨r', c', w2, hrun, hC, hS⟩ := run_app32 (w.drew.alloc (.cells #[Value.int .u32 p, Value.int .u32 q] 23)) _ [p, q] [] A 0 cp hR rfl hs' (by simp) (by simp)
    have hrn : (Builtin.append_ #[78, 78] 78 #[.slice (some ⟨w.heap.size, 0, none⟩) 2 2, .slice A 0 cp]).run Tryz.prog (w.drew.alloc (.cells #[Value.int .u32 p, Value.int .u32 q] 23)) = .ok (.slice (some ⟨r', 0, none⟩) 2 c') w2 := hrun
    have HRn := Lib.hid hrn
    have HC : Hid (Cr w2 r' [p, q] w2) := hC
    have hr' : w.heap.size ≤ r' := by
      rcases hS.grow r' (by simp [Tl.Bl, Value.ownBlock]) with e | e
      · have : w.heap.size = r' := by simpa [Tl.Bl, Value.ownBlock] using e
        omega
      · simp at e; omega
    have hB2 : Below w.heap.size w w2 := hS.mods.below (show Below w.heap.size w (w.drew.alloc (.cells #[Value.int .u32 p, Value.int .u32 q] 23)) by go_grown) (fun k hk => by
      have : w.heap.size = k := by simpa [Tl.Bl, Value.ownBlock] using hk
      omega) (by simp)
    have HB2 := Lib.hid hB2
    have HR' := Lib.hid hr'
    have HU : Hid (∀ k, U (List.getD [q, p] k 0)) := by
      intro k
      have u := fun k => hu k
      match k with
      | 0 => exact hg
      | 1 => exact hp
      | n + 2 => exact ⟨by simp, by simp⟩
    have o1 : w.drew.cell? ⟨a.g, 2, none⟩ = some (.pointer (some ⟨a.fg, 0, none⟩)) := c2
    have o2 : w.drew.cell? ⟨b, 1, none⟩ = some (.slice A 0 cp) := r1
    have q1 : w2.cell? ⟨a.g, 2, none⟩ = some (.pointer (some ⟨a.fg, 0, none⟩)) := (HB2.out.cell (p := ⟨a.g, 2, none⟩) hgl).trans c2
    have q2 : w2.cell? ⟨b, 1, none⟩ = _ := (HB2.out.cell (p := ⟨b, 1, none⟩) hbl).trans r1
    have n1 : (⟨a.g, 2, none⟩ : Addr).block ≠ w.heap.size := by simp; omega
    have n2 : (⟨b, 1, none⟩ : Addr).block ≠ w.heap.size := by simp; omega
    clear hrun hC hS hr' hB2 hs' hrn hs hR hb hz h
    go_enter Tryz.func48, Tryz.ntmps48
    go_wp2
    go_region_held3 (fun w' => w'.cell? ⟨a.g, 2, none⟩ = some (.pointer (some ⟨a.fg, 0, none⟩)) ∧ w'.cell? ⟨b, 1, none⟩ = some (.slice A 0 cp))
      (first | (with_reducible exact ⟨o1, o2⟩) | (with_reducible exact ⟨q1, q2⟩) | go_keep)
      (first
        | (go_at_call 30; refine (fpsl _ HD.out).mono ?_; rintro e w1 ⟨rfl, rfl⟩; rw [HPe.out])
        | (go_at_call 55; refine (fget _ HD.out 15).mono ?_; rintro e w1 ⟨rfl, rfl⟩; rw [HQe.out])
        | (refine step_append_run rfl _ _ _ _ rfl _ _ rfl rfl HRn.out ?_))
    all_goals
      go_wp2_with (first
        | (go_at_call 67; refine (rev2 p q r' c' _ HC.out).mono ?_; rintro e w3 ⟨rfl, hC3⟩; have HC3 := Lib.hid hC3; have HB3 := Lib.hid (Tl.Mods.below HB2.out hC3.m (fun k hk => by have e : k = r' := hk; rw [e]; exact HR'.out) HB2.out.size); clear hC3)
        | (go_at_call 68; refine (laid_any [q, p] 2 r' c' rfl (by omega) HU.out _ (fun k hk => HC3.out.c k hk)).mono ?_; rintro e w4 ⟨A4, c4, rfl, hR4, hA4, hB4⟩; have HR4 := Lib.hid hR4; have HA4 := Lib.hid hA4; have HB4 := Lib.hid hB4; clear hR4 hA4 hB4)
        | fail)
      go_ret
      refine ⟨A4, c4, rfl, ?_, fun k hk => Nat.le_trans HB3.out.size (HA4.out k hk), Tl.bel_trans HB3.out HB4.out HB3.out.size⟩
      rw [HF.out]
      exact HR4.out

  · have hs' : 1 = 0 ∨ ∃ r, A = some ⟨r, 0, none⟩ ∧ ∀ k, k < 1 → (w.drew.alloc (.cells #[Value.int .u32 p, Value.int .u32 q] 23)).cell? ⟨r, k, none⟩ = some (.int .u32 (List.getD [x] k 0)) := by
      rcases hs with hs | ⟨r, rfl, hr⟩
      · first | exact .inl rfl | cases hs
      · right
        refine ⟨r, rfl, fun k hk => ?_⟩
        have hc : w.cell? ⟨r, k, none⟩ = some (.int .u32 (List.getD [x] k 0)) := by
          rw [cell_of_row w r k _ _ _ hr]
          simpa using c1_at [x] k hk
        have hB : Below w.heap.size w (w.drew.alloc (.cells #[Value.int .u32 p, Value.int .u32 q] 23)) := by go_grown
        exact (hB.cell (p := ⟨r, k, none⟩) (lt_cell hc)).trans hc
    obtain ⟨r', c', w2, hrun, hC, hS⟩ := run_app32 (w.drew.alloc (.cells #[Value.int .u32 p, Value.int .u32 q] 23)) _ [p, q] [x] A 1 cp hR rfl hs' (by simp) (by simp)
    have hrn : (Builtin.append_ #[78, 78] 78 #[.slice (some ⟨w.heap.size, 0, none⟩) 2 2, .slice A 1 cp]).run Tryz.prog (w.drew.alloc (.cells #[Value.int .u32 p, Value.int .u32 q] 23)) = .ok (.slice (some ⟨r', 0, none⟩) 3 c') w2 := hrun
    have HRn := Lib.hid hrn
    have HC : Hid (Cr w2 r' [p, q, x] w2) := hC
    have hr' : w.heap.size ≤ r' := by
      rcases hS.grow r' (by simp [Tl.Bl, Value.ownBlock]) with e | e
      · have : w.heap.size = r' := by simpa [Tl.Bl, Value.ownBlock] using e
        omega
      · simp at e; omega
    have hB2 : Below w.heap.size w w2 := hS.mods.below (show Below w.heap.size w (w.drew.alloc (.cells #[Value.int .u32 p, Value.int .u32 q] 23)) by go_grown) (fun k hk => by
      have : w.heap.size = k := by simpa [Tl.Bl, Value.ownBlock] using hk
      omega) (by simp)
    have HB2 := Lib.hid hB2
    have HR' := Lib.hid hr'
    have HU : Hid (∀ k, U (List.getD [x, q, p] k 0)) := by
      intro k
      have u := fun k => hu k
      match k with
      | 0 => exact u 0
      | 1 => exact hg
      | 2 => exact hp
      | n + 3 => exact ⟨by simp, by simp⟩
    have o1 : w.drew.cell? ⟨a.g, 2, none⟩ = some (.pointer (some ⟨a.fg, 0, none⟩)) := c2
    have o2 : w.drew.cell? ⟨b, 1, none⟩ = some (.slice A 1 cp) := r1
    have q1 : w2.cell? ⟨a.g, 2, none⟩ = some (.pointer (some ⟨a.fg, 0, none⟩)) := (HB2.out.cell (p := ⟨a.g, 2, none⟩) hgl).trans c2
    have q2 : w2.cell? ⟨b, 1, none⟩ = _ := (HB2.out.cell (p := ⟨b, 1, none⟩) hbl).trans r1
    have n1 : (⟨a.g, 2, none⟩ : Addr).block ≠ w.heap.size := by simp; omega
    have n2 : (⟨b, 1, none⟩ : Addr).block ≠ w.heap.size := by simp; omega
    clear hrun hC hS hr' hB2 hs' hrn hs hR hb hz h
    go_enter Tryz.func48, Tryz.ntmps48
    go_wp2
    go_region_held3 (fun w' => w'.cell? ⟨a.g, 2, none⟩ = some (.pointer (some ⟨a.fg, 0, none⟩)) ∧ w'.cell? ⟨b, 1, none⟩ = some (.slice A 1 cp))
      (first | (with_reducible exact ⟨o1, o2⟩) | (with_reducible exact ⟨q1, q2⟩) | go_keep)
      (first
        | (go_at_call 30; refine (fpsl _ HD.out).mono ?_; rintro e w1 ⟨rfl, rfl⟩; rw [HPe.out])
        | (go_at_call 55; refine (fget _ HD.out 15).mono ?_; rintro e w1 ⟨rfl, rfl⟩; rw [HQe.out])
        | (refine step_append_run rfl _ _ _ _ rfl _ _ rfl rfl HRn.out ?_))
    all_goals
      go_wp2_with (first
        | (go_at_call 67; refine (rev3 p q x r' c' _ HC.out).mono ?_; rintro e w3 ⟨rfl, hC3⟩; have HC3 := Lib.hid hC3; have HB3 := Lib.hid (Tl.Mods.below HB2.out hC3.m (fun k hk => by have e : k = r' := hk; rw [e]; exact HR'.out) HB2.out.size); clear hC3)
        | (go_at_call 68; refine (laid_any [x, q, p] 3 r' c' rfl (by omega) HU.out _ (fun k hk => HC3.out.c k hk)).mono ?_; rintro e w4 ⟨A4, c4, rfl, hR4, hA4, hB4⟩; have HR4 := Lib.hid hR4; have HA4 := Lib.hid hA4; have HB4 := Lib.hid hB4; clear hR4 hA4 hB4)
        | fail)
      go_ret
      refine ⟨A4, c4, rfl, ?_, fun k hk => Nat.le_trans HB3.out.size (HA4.out k hk), Tl.bel_trans HB3.out HB4.out HB3.out.size⟩
      rw [HF.out]
      exact HR4.out

  · have hs' : 2 = 0 ∨ ∃ r, A = some ⟨r, 0, none⟩ ∧ ∀ k, k < 2 → (w.drew.alloc (.cells #[Value.int .u32 p, Value.int .u32 q] 23)).cell? ⟨r, k, none⟩ = some (.int .u32 (List.getD [x, y] k 0)) := by
      rcases hs with hs | ⟨r, rfl, hr⟩
      · first | exact .inl rfl | cases hs
      · right
        refine ⟨r, rfl, fun k hk => ?_⟩
        have hc : w.cell? ⟨r, k, none⟩ = some (.int .u32 (List.getD [x, y] k 0)) := by
          rw [cell_of_row w r k _ _ _ hr]
          simpa using c1_at [x, y] k hk
        have hB : Below w.heap.size w (w.drew.alloc (.cells #[Value.int .u32 p, Value.int .u32 q] 23)) := by go_grown
        exact (hB.cell (p := ⟨r, k, none⟩) (lt_cell hc)).trans hc
    obtain ⟨r', c', w2, hrun, hC, hS⟩ := run_app32 (w.drew.alloc (.cells #[Value.int .u32 p, Value.int .u32 q] 23)) _ [p, q] [x, y] A 2 cp hR rfl hs' (by simp) (by simp)
    have hrn : (Builtin.append_ #[78, 78] 78 #[.slice (some ⟨w.heap.size, 0, none⟩) 2 2, .slice A 2 cp]).run Tryz.prog (w.drew.alloc (.cells #[Value.int .u32 p, Value.int .u32 q] 23)) = .ok (.slice (some ⟨r', 0, none⟩) 4 c') w2 := hrun
    have HRn := Lib.hid hrn
    have HC : Hid (Cr w2 r' [p, q, x, y] w2) := hC
    have hr' : w.heap.size ≤ r' := by
      rcases hS.grow r' (by simp [Tl.Bl, Value.ownBlock]) with e | e
      · have : w.heap.size = r' := by simpa [Tl.Bl, Value.ownBlock] using e
        omega
      · simp at e; omega
    have hB2 : Below w.heap.size w w2 := hS.mods.below (show Below w.heap.size w (w.drew.alloc (.cells #[Value.int .u32 p, Value.int .u32 q] 23)) by go_grown) (fun k hk => by
      have : w.heap.size = k := by simpa [Tl.Bl, Value.ownBlock] using hk
      omega) (by simp)
    have HB2 := Lib.hid hB2
    have HR' := Lib.hid hr'
    have HU : Hid (∀ k, U (List.getD [y, x, q, p] k 0)) := by
      intro k
      have u := fun k => hu k
      match k with
      | 0 => exact u 1
      | 1 => exact u 0
      | 2 => exact hg
      | 3 => exact hp
      | n + 4 => exact ⟨by simp, by simp⟩
    have o1 : w.drew.cell? ⟨a.g, 2, none⟩ = some (.pointer (some ⟨a.fg, 0, none⟩)) := c2
    have o2 : w.drew.cell? ⟨b, 1, none⟩ = some (.slice A 2 cp) := r1
    have q1 : w2.cell? ⟨a.g, 2, none⟩ = some (.pointer (some ⟨a.fg, 0, none⟩)) := (HB2.out.cell (p := ⟨a.g, 2, none⟩) hgl).trans c2
    have q2 : w2.cell? ⟨b, 1, none⟩ = _ := (HB2.out.cell (p := ⟨b, 1, none⟩) hbl).trans r1
    have n1 : (⟨a.g, 2, none⟩ : Addr).block ≠ w.heap.size := by simp; omega
    have n2 : (⟨b, 1, none⟩ : Addr).block ≠ w.heap.size := by simp; omega
    clear hrun hC hS hr' hB2 hs' hrn hs hR hb hz h
    go_enter Tryz.func48, Tryz.ntmps48
    go_wp2
    go_region_held3 (fun w' => w'.cell? ⟨a.g, 2, none⟩ = some (.pointer (some ⟨a.fg, 0, none⟩)) ∧ w'.cell? ⟨b, 1, none⟩ = some (.slice A 2 cp))
      (first | (with_reducible exact ⟨o1, o2⟩) | (with_reducible exact ⟨q1, q2⟩) | go_keep)
      (first
        | (go_at_call 30; refine (fpsl _ HD.out).mono ?_; rintro e w1 ⟨rfl, rfl⟩; rw [HPe.out])
        | (go_at_call 55; refine (fget _ HD.out 15).mono ?_; rintro e w1 ⟨rfl, rfl⟩; rw [HQe.out])
        | (refine step_append_run rfl _ _ _ _ rfl _ _ rfl rfl HRn.out ?_))
    all_goals
      go_wp2_with (first
        | (go_at_call 67; refine (rev4 p q x y r' c' _ HC.out).mono ?_; rintro e w3 ⟨rfl, hC3⟩; have HC3 := Lib.hid hC3; have HB3 := Lib.hid (Tl.Mods.below HB2.out hC3.m (fun k hk => by have e : k = r' := hk; rw [e]; exact HR'.out) HB2.out.size); clear hC3)
        | (go_at_call 68; refine (laid_any [y, x, q, p] 4 r' c' rfl (by omega) HU.out _ (fun k hk => HC3.out.c k hk)).mono ?_; rintro e w4 ⟨A4, c4, rfl, hR4, hA4, hB4⟩; have HR4 := Lib.hid hR4; have HA4 := Lib.hid hA4; have HB4 := Lib.hid hB4; clear hR4 hA4 hB4)
        | fail)
      go_ret
      refine ⟨A4, c4, rfl, ?_, fun k hk => Nat.le_trans HB3.out.size (HA4.out k hk), Tl.bel_trans HB3.out HB4.out HB3.out.size⟩
      rw [HF.out]
      exact HR4.out
  · simp at hl
end
end Go.Proofs.YteohkobdmkbcpaaGreatDoor.Cs
