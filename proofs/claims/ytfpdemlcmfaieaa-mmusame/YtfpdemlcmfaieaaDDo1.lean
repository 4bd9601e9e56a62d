/- A call on both: Set, Clear, Drop, the memory itself. -/
import Derived.Test.YtfpdemlcmfaieaaDMem
import Derived.StillTailTactics
namespace Go.Proofs.Ytfpdemlcmfaieaa.Cs
open Go.RowKit

/-- The document's tables are stored anew. -/
theorem Bw.rtabs {w W : World} {d : Ids} {S0 T0 S T : Nat → Prop} {s : St} {t t' : Tabs} {xs : List Int} {rows : Rows} {pl : Bool} (b : Bw w d S0 T0 S T s ⟨t, xs, rows⟩ pl W) (ht : t'.Ok) :
    Bw w d S0 T0 S T s ⟨t', xs, rows⟩ pl (((((W.setCell ⟨d.h, 2, none⟩ (.int .u32 t'.pb)).setCell ⟨d.h, 3, none⟩ (.int .u32 t'.pn)).setCell ⟨d.h, 4, none⟩ (.int .u32 t'.sb)).setCell ⟨d.h, 5, none⟩ (.int .u32 t'.sn)).setCell ⟨d.h, 6, none⟩ (.int .u32 t'.me)) := by
  have hM : Tl.Mods (fun k => k = d.h) W (((((W.setCell ⟨d.h, 2, none⟩ (.int .u32 t'.pb)).setCell ⟨d.h, 3, none⟩ (.int .u32 t'.pn)).setCell ⟨d.h, 4, none⟩ (.int .u32 t'.sb)).setCell ⟨d.h, 5, none⟩ (.int .u32 t'.sn)).setCell ⟨d.h, 6, none⟩ (.int .u32 t'.me)) :=
    (((((Tl.Mods.refl (fun k => k = d.h) W).set (p := ⟨d.h, 2, none⟩) _ (.inl rfl)).set (p := ⟨d.h, 3, none⟩) _ (.inl rfl)).set (p := ⟨d.h, 4, none⟩) _ (.inl rfl)).set (p := ⟨d.h, 5, none⟩) _ (.inl rfl)).set (p := ⟨d.h, 6, none⟩) _ (.inl rfl)
  refine ⟨ms_ref b hM (fun _ e => .inr e), ⟨⟨?_, b.rs.mx.rf.keep (fun k hk => hM.block k (b.rs.mx.rf.lo k hk) (fun e => by subst e; exact b.rs.mx.not hk)), b.rs.mx.fit, ht⟩, b.rs.mem.mods hM (fun e => ?_) (fun e => ?_)⟩, b.rr, b.st.trans ⟨hM.mono (fun _ _ e => .inr (.inr (.inr e))), fun _ h => .inl h⟩⟩
  · exact heap_setCell_same _ d.h 6 _ _ _ (heap_setCell_same _ d.h 5 _ _ _ (heap_setCell_same _ d.h 4 _ _ _ (heap_setCell_same _ d.h 3 _ _ _ (heap_setCell_same W d.h 2 _ _ _ b.rs.mx.box))))
  · have ty := b.rs.mem.typ.1
    rw [e] at ty
    exact absurd (ty.ne b.rs.mx.typ) (by decide)
  · have ty := b.rs.mem.typ.2
    rw [e] at ty
    exact absurd (ty.ne b.rs.mx.typ) (by decide)

set_option maxRecDepth 100000 in
set_option maxHeartbeats 2000000 in
theorem does_other (d : Ids) (S T : Nat → Prop) (t : Tabs) (xs : List Int) (rows rows2 : Rows) (pl : Bool) (K : Int) (va x n : Int) (u wt : Bool) (A : Option Addr) (m cc : Nat) (tc : Tabs) (w : World) (b : Bw w d S T S T ⟨t, xs, rows⟩ ⟨t, xs, rows2⟩ pl w) (hv : U va) (hK : K < 0 ∨ 9 < K) :
    Calls Try.prog 18 #[(Value.pointer (some ⟨d.rg, 0, none⟩)), (Value.pointer (some ⟨d.g, 0, none⟩)), (Value.pointer (some ⟨d.h, 0, none⟩)), .agg #[.int .i64 K, .int .u32 va, .int .u32 x, .int .i64 n, .bool u, .bool wt, .slice A m cc, .int .u32 tc.pb, .int .u32 tc.pn, .int .u32 tc.sb, .int .u32 tc.sn, .int .u32 tc.me]] w fun e w' => e = .returned (.bool true) ∧ ∃ S' T', Bw w d S T S' T' ⟨t, xs, rows⟩ ⟨t, xs, rows2⟩ pl w' := by
  have HC := Lib.hid (Cq.new (W := w) (c := ⟨K, va, x, n, u, wt, A, m, cc, tc⟩))
  dsimp only at HC
  have HB : Hid (Bw w d S T S T ⟨t, xs, rows⟩ ⟨t, xs, rows2⟩ pl (w.alloc (.cells #[.int .i64 K, .int .u32 va, .int .u32 x, .int .i64 n, .bool u, .bool wt, .slice A m cc, .int .u32 tc.pb, .int .u32 tc.pn, .int .u32 tc.sb, .int .u32 tc.sn, .int .u32 tc.me] 45))) := b.below (by go_grown)
  have HV := Lib.hid hv
  clear b
  have e0 : (K == 0) = false := by simp; omega
  have e1 : (K == 1) = false := by simp; omega
  have e2 : (K == 2) = false := by simp; omega
  have e3 : (K == 3) = false := by simp; omega
  have e4 : (K == 4) = false := by simp; omega
  have e5 : (K == 5) = false := by simp; omega
  have e6 : (K == 6) = false := by simp; omega
  have e7 : (K == 7) = false := by simp; omega
  have e8 : (K == 8) = false := by simp; omega
  have e9 : (K == 9) = false := by simp; omega
  clear hK hv
  go_enter Try.func18, Try.ntmps18
  go_wp2
  go_ret
  exact ⟨rfl, S, T, HB.out⟩

set_option maxRecDepth 100000 in
set_option maxHeartbeats 2000000 in
theorem does_6 (d : Ids) (S T : Nat → Prop) (t : Tabs) (xs : List Int) (rows rows2 : Rows) (pl : Bool) (va x n : Int) (u wt : Bool) (A : Option Addr) (m cc : Nat) (tc : Tabs) (w : World) (b : Bw w d S T S T ⟨t, xs, rows⟩ ⟨t, xs, rows2⟩ pl w) (hv : U va) (htc : tc.Ok) :
    Calls Try.prog 18 #[(Value.pointer (some ⟨d.rg, 0, none⟩)), (Value.pointer (some ⟨d.g, 0, none⟩)), (Value.pointer (some ⟨d.h, 0, none⟩)), .agg #[.int .i64 6, .int .u32 va, .int .u32 x, .int .i64 n, .bool u, .bool wt, .slice A m cc, .int .u32 tc.pb, .int .u32 tc.pn, .int .u32 tc.sb, .int .u32 tc.sn, .int .u32 tc.me]] w fun e w' => e = .returned (.bool true) ∧ ∃ S' T', Bw w d S T S' T' ⟨tc, xs, []⟩ ⟨tc, xs, []⟩ pl w' := by
  have HC := Lib.hid (Cq.new (W := w) (c := ⟨6, va, x, n, u, wt, A, m, cc, tc⟩))
  dsimp only at HC
  have HB : Hid (Bw w d S T S T ⟨t, xs, rows⟩ ⟨t, xs, rows2⟩ pl (w.alloc (.cells #[.int .i64 6, .int .u32 va, .int .u32 x, .int .i64 n, .bool u, .bool wt, .slice A m cc, .int .u32 tc.pb, .int .u32 tc.pn, .int .u32 tc.sb, .int .u32 tc.sn, .int .u32 tc.me] 45))) := b.below (by go_grown)
  have HV := Lib.hid hv
  clear b
  have HTc := Lib.hid htc
  clear hv htc
  go_enter Try.func18, Try.ntmps18
  go_wp2_with fail
  refine (set_any d.g d.rg d.tg S t tc rows _ HB.out.ms.mx HTc.out).mono ?_
  rintro e w1 ⟨rfl, S1, hx1, hs1⟩
  have HC1 := Lib.hid (HC.out.ux HB.out hs1.mods (fun k e => Or.elim e (fun e => .inl (.inl e)) (fun e => .inr (.inl e))))
  have HB1 := Lib.hid (HB.out.set hx1 hs1)
  clear hx1 hs1 HB HC
  obtain ⟨q7, q8, q9, q10, q11⟩ := HC1.out.tabs
  have hz := HC1.out.lt
  have f2 := frozen_of_row w1 d.h 2 _ _ HB1.out.rs.mx.box
  have f3 := frozen_of_row w1 d.h 3 _ _ HB1.out.rs.mx.box
  have f4 := frozen_of_row w1 d.h 4 _ _ HB1.out.rs.mx.box
  have f5 := frozen_of_row w1 d.h 5 _ _ HB1.out.rs.mx.box
  have f6 := frozen_of_row w1 d.h 6 _ _ HB1.out.rs.mx.box
  have k1 := HB1.out.rs.mx.c1
  have k2 := HB1.out.rs.mx.c2
  have k3 := HB1.out.rs.mx.c3
  have k4 := HB1.out.rs.mx.c4
  have k5 := HB1.out.rs.mx.c5
  have k6 := HB1.out.rs.mx.c6
  have HB2 := Lib.hid (HB1.out.rtabs HTc.out)
  go_wp2_with fail
  refine (Tl.rclear_any d.th T rows2 _ HB2.out.rs.mx.rf).mono ?_
  rintro e w3 ⟨rfl, T3, hT3, hs3⟩
  have HB3 : Hid (Bw w d S T S1 T3 ⟨tc, xs, []⟩ ⟨tc, xs, []⟩ pl w3) := HB2.out.two (s' := ⟨tc, xs, []⟩) (HB2.out.rs.turn hT3 Tl.Fit.nil hs3) (step_rg hs3)
  clear hT3 hs3
  go_wp2
  go_ret
  exact ⟨rfl, S1, T3, HB3.out⟩

set_option maxRecDepth 100000 in
set_option maxHeartbeats 2000000 in
theorem does_7 (d : Ids) (S T : Nat → Prop) (t : Tabs) (xs : List Int) (rows rows2 : Rows) (pl : Bool) (va x n : Int) (u wt : Bool) (A : Option Addr) (m cc : Nat) (tc : Tabs) (w : World) (b : Bw w d S T S T ⟨t, xs, rows⟩ ⟨t, xs, rows2⟩ pl w) (hv : U va) :
    Calls Try.prog 18 #[(Value.pointer (some ⟨d.rg, 0, none⟩)), (Value.pointer (some ⟨d.g, 0, none⟩)), (Value.pointer (some ⟨d.h, 0, none⟩)), .agg #[.int .i64 7, .int .u32 va, .int .u32 x, .int .i64 n, .bool u, .bool wt, .slice A m cc, .int .u32 tc.pb, .int .u32 tc.pn, .int .u32 tc.sb, .int .u32 tc.sn, .int .u32 tc.me]] w fun e w' => e = .returned (.bool true) ∧ ∃ S' T', Bw w d S T S' T' ⟨t, xs, []⟩ ⟨t, xs, []⟩ pl w' := by
  have HC := Lib.hid (Cq.new (W := w) (c := ⟨7, va, x, n, u, wt, A, m, cc, tc⟩))
  dsimp only at HC
  have HB : Hid (Bw w d S T S T ⟨t, xs, rows⟩ ⟨t, xs, rows2⟩ pl (w.alloc (.cells #[.int .i64 7, .int .u32 va, .int .u32 x, .int .i64 n, .bool u, .bool wt, .slice A m cc, .int .u32 tc.pb, .int .u32 tc.pn, .int .u32 tc.sb, .int .u32 tc.sn, .int .u32 tc.me] 45))) := b.below (by go_grown)
  have HV := Lib.hid hv
  clear b
  clear hv
  go_enter Try.func18, Try.ntmps18
  go_wp2_with fail
  refine (clear_any d.g d.rg d.tg S t rows _ HB.out.ms.mx).mono ?_
  rintro e w1 ⟨rfl, S1, hx1, hs1⟩
  have HB1 : Hid (Bw w d S T S1 T ⟨t, xs, []⟩ ⟨t, xs, rows2⟩ pl w1) := HB.out.one (s' := ⟨t, xs, []⟩) (HB.out.ms.turn hx1.tb hs1) (step_rg hs1)
  clear hx1 hs1
  have k1 := HB1.out.rs.mx.c1
  go_wp2_with fail
  refine (Tl.rclear_any d.th T rows2 _ HB1.out.rs.mx.rf).mono ?_
  rintro e w3 ⟨rfl, T3, hT3, hs3⟩
  have HB3 : Hid (Bw w d S T S1 T3 ⟨t, xs, []⟩ ⟨t, xs, []⟩ pl w3) := HB1.out.two (s' := ⟨t, xs, []⟩) (HB1.out.rs.turn hT3 Tl.Fit.nil hs3) (step_rg hs3)
  clear hT3 hs3
  go_wp2
  go_ret
  exact ⟨rfl, S1, T3, HB3.out⟩

set_option maxRecDepth 100000 in
set_option maxHeartbeats 2000000 in
theorem does_8 (d : Ids) (S T : Nat → Prop) (t : Tabs) (xs : List Int) (rows rows2 : Rows) (pl : Bool) (va x n : Int) (u wt : Bool) (A : Option Addr) (m cc : Nat) (tc : Tabs) (w : World) (b : Bw w d S T S T ⟨t, xs, rows⟩ ⟨t, xs, rows2⟩ pl w) (hv : U va) :
    Calls Try.prog 18 #[(Value.pointer (some ⟨d.rg, 0, none⟩)), (Value.pointer (some ⟨d.g, 0, none⟩)), (Value.pointer (some ⟨d.h, 0, none⟩)), .agg #[.int .i64 8, .int .u32 va, .int .u32 x, .int .i64 n, .bool u, .bool wt, .slice A m cc, .int .u32 tc.pb, .int .u32 tc.pn, .int .u32 tc.sb, .int .u32 tc.sn, .int .u32 tc.me]] w fun e w' => e = .returned (.bool true) ∧ ∃ S' T', Bw w d S T S' T' ⟨t, xs, Tl.dropR rows (va / 512)⟩ ⟨t, xs, Tl.dropR rows2 (va / 512)⟩ pl w' := by
  have HC := Lib.hid (Cq.new (W := w) (c := ⟨8, va, x, n, u, wt, A, m, cc, tc⟩))
  dsimp only at HC
  have HB : Hid (Bw w d S T S T ⟨t, xs, rows⟩ ⟨t, xs, rows2⟩ pl (w.alloc (.cells #[.int .i64 8, .int .u32 va, .int .u32 x, .int .i64 n, .bool u, .bool wt, .slice A m cc, .int .u32 tc.pb, .int .u32 tc.pn, .int .u32 tc.sb, .int .u32 tc.sn, .int .u32 tc.me] 45))) := b.below (by go_grown)
  have HV := Lib.hid hv
  clear b
  obtain ⟨v0, v1⟩ := hv
  obtain ⟨k0, k1, k2, k3, k4, k5, k6⟩ := HC.out.cells
  go_enter Try.func18, Try.ntmps18
  go_wp2_with fail
  refine (drop_any d.g d.rg d.tg S t rows va _ HB.out.ms.mx HV.out).mono ?_
  rintro e w1 ⟨rfl, S1, hx1, hs1⟩
  have HC1 := Lib.hid (HC.out.ux HB.out (step_rg (r := d.r) hs1).mods ux1)
  have HB1 : Hid (Bw w d S T S1 T ⟨t, xs, Tl.dropR rows (va / 512)⟩ ⟨t, xs, rows2⟩ pl w1) := HB.out.one (s' := ⟨t, xs, Tl.dropR rows (va / 512)⟩) (HB.out.ms.turn hx1.tb hs1) (step_rg hs1)
  clear hx1 hs1 k0 k1 k2 k3 k4 k5 k6
  obtain ⟨_, k1, _, _, _, _, _⟩ := HC1.out.cells
  have j1 := HB1.out.rs.mx.c1
  go_wp2_with fail
  go_still_tail 7, (by kernel_rfl)
  change wpList _ _ _ _ _ w1.drew
  have HBd := Lib.hid (HB1.out.below (W' := w1.drew) (by go_grown))
  generalize w1.drew = w2 at HBd ⊢
  clear k1 j1 HB1 HC1
  go_wp2_with fail
  refine (Tl.rdrop_any d.th T rows2 (va / 512) _ HBd.out.rs.mx.rf HBd.out.rs.mx.fit).mono ?_
  rintro e w3 ⟨rfl, T3, hT3, hs3⟩
  have HB3 : Hid (Bw w d S T S1 T3 ⟨t, xs, Tl.dropR rows (va / 512)⟩ ⟨t, xs, Tl.dropR rows2 (va / 512)⟩ pl w3) := HBd.out.two (s' := ⟨t, xs, Tl.dropR rows2 (va / 512)⟩) (HBd.out.rs.turn hT3 (HBd.out.rs.mx.fit.drop _) hs3) (step_rg hs3)
  clear hT3 hs3
  go_wp2
  go_ret
  exact ⟨rfl, S1, T3, HB3.out⟩

set_option maxRecDepth 100000 in
set_option maxHeartbeats 2000000 in
theorem does_9a (d : Ids) (S T : Nat → Prop) (t : Tabs) (xs : List Int) (rows rows2 : Rows) (pl : Bool) (va x n : Int) (u wt : Bool) (A : Option Addr) (m cc : Nat) (tc : Tabs) (w : World) (b : Bw w d S T S T ⟨t, xs, rows⟩ ⟨t, xs, rows2⟩ pl w) (hv : U va) (hx : U x) (hf : va + 4 ≤ xs.length) :
    Calls Try.prog 18 #[(Value.pointer (some ⟨d.rg, 0, none⟩)), (Value.pointer (some ⟨d.g, 0, none⟩)), (Value.pointer (some ⟨d.h, 0, none⟩)), .agg #[.int .i64 9, .int .u32 va, .int .u32 x, .int .i64 n, .bool u, .bool wt, .slice A m cc, .int .u32 tc.pb, .int .u32 tc.pn, .int .u32 tc.sb, .int .u32 tc.sn, .int .u32 tc.me]] w fun e w' => e = .returned (.bool true) ∧ ∃ S' T', Bw w d S T S' T' ⟨t, splice xs va.toNat (Rm.low x 4), rows⟩ ⟨t, splice xs va.toNat (Rm.low x 4), rows2⟩ pl w' := by
  have HC := Lib.hid (Cq.new (W := w) (c := ⟨9, va, x, n, u, wt, A, m, cc, tc⟩))
  dsimp only at HC
  have HB : Hid (Bw w d S T S T ⟨t, xs, rows⟩ ⟨t, xs, rows2⟩ pl (w.alloc (.cells #[.int .i64 9, .int .u32 va, .int .u32 x, .int .i64 n, .bool u, .bool wt, .slice A m cc, .int .u32 tc.pb, .int .u32 tc.pn, .int .u32 tc.sb, .int .u32 tc.sn, .int .u32 tc.me] 45))) := b.below (by go_grown)
  have HV := Lib.hid hv
  clear b
  have HF : Hid (va.toNat + 4 ≤ xs.length) := by have := hf; have := hv.1; show _ ≤ _; omega
  have HN : Hid (va = va.toNat) := by have := hv.1; show _ = _; omega
  have HXU := Lib.hid hx
  clear hf hx hv
  obtain ⟨k0, k1, k2, k3, k4, k5, k6⟩ := HC.out.cells
  go_enter Try.func18, Try.ntmps18
  go_wp2_with fail
  refine (Rm.put_at d.rg d.r xs va 4 va.toNat 4 HN.out rfl x _ HB.out.ms.mem (by omega) HF.out).mono ?_
  rintro e w1 ⟨rfl, hm1, hg1⟩
  obtain ⟨hms, hst⟩ := HB.out.ms.wrote hm1 hg1
  have HC1 := Lib.hid (HC.out.ux HB.out hst.mods ux1)
  have HB1 := Lib.hid (HB.out.one (s' := ⟨t, splice xs va.toNat (Rm.low x 4), rows⟩) hms hst)
  clear hm1 hg1 hms hst HB HC k0 k1 k2 k3 k4 k5 k6
  obtain ⟨_, k1, k2, _, _, _, _⟩ := HC1.out.cells
  have j0 := HB1.out.rs.mx.c0
  go_wp2_with fail
  go_still_tail 8, (by kernel_rfl)
  change wpList _ _ _ _ _ w1.drew
  have HBd := Lib.hid (HB1.out.below (W' := w1.drew) (by go_grown))
  generalize w1.drew = w2 at HBd ⊢
  clear k1 k2 j0 HB1 HC1
  go_wp2_with fail
  refine (rput_ok d.rh d.hr xs va x va.toNat _ HBd.out.rs.mem HN.out HXU.out HF.out).mono ?_
  rintro e w3 ⟨rfl, hm3, hg3⟩
  obtain ⟨hrs, hst⟩ := HBd.out.rs.wrote hm3 hg3
  have HB3 := Lib.hid (HBd.out.two (s' := ⟨t, splice xs va.toNat (Rm.low x 4), rows2⟩) hrs hst)
  clear hm3 hg3 hrs hst
  go_wp2
  go_ret
  exact ⟨rfl, S, T, HB3.out⟩

set_option maxRecDepth 100000 in
set_option maxHeartbeats 2000000 in
theorem does_9b (d : Ids) (S T : Nat → Prop) (t : Tabs) (xs : List Int) (rows rows2 : Rows) (pl : Bool) (va x n : Int) (u wt : Bool) (A : Option Addr) (m cc : Nat) (tc : Tabs) (w : World) (b : Bw w d S T S T ⟨t, xs, rows⟩ ⟨t, xs, rows2⟩ pl w) (hv : U va) (hx : U x) (hf : ¬ va + 4 ≤ xs.length) :
    Calls Try.prog 18 #[(Value.pointer (some ⟨d.rg, 0, none⟩)), (Value.pointer (some ⟨d.g, 0, none⟩)), (Value.pointer (some ⟨d.h, 0, none⟩)), .agg #[.int .i64 9, .int .u32 va, .int .u32 x, .int .i64 n, .bool u, .bool wt, .slice A m cc, .int .u32 tc.pb, .int .u32 tc.pn, .int .u32 tc.sb, .int .u32 tc.sn, .int .u32 tc.me]] w fun e w' => e = .returned (.bool true) ∧ ∃ S' T', Bw w d S T S' T' ⟨t, xs, rows⟩ ⟨t, xs, rows2⟩ pl w' := by
  have HC := Lib.hid (Cq.new (W := w) (c := ⟨9, va, x, n, u, wt, A, m, cc, tc⟩))
  dsimp only at HC
  have HB : Hid (Bw w d S T S T ⟨t, xs, rows⟩ ⟨t, xs, rows2⟩ pl (w.alloc (.cells #[.int .i64 9, .int .u32 va, .int .u32 x, .int .i64 n, .bool u, .bool wt, .slice A m cc, .int .u32 tc.pb, .int .u32 tc.pn, .int .u32 tc.sb, .int .u32 tc.sn, .int .u32 tc.me] 45))) := b.below (by go_grown)
  have HV := Lib.hid hv
  clear b
  have HF := Lib.hid hf
  have HN : Hid (va = va.toNat) := by have := hv.1; show _ = _; omega
  have HXU := Lib.hid hx
  clear hf hx hv
  obtain ⟨k0, k1, k2, k3, k4, k5, k6⟩ := HC.out.cells
  go_enter Try.func18, Try.ntmps18
  go_wp2_with fail
  refine (Rm.put_not d.rg d.r xs va 4 x _ HB.out.ms.mem HV.out.1 HV.out.2 (by have := HF.out; omega)).mono ?_
  rintro e w1 ⟨rfl, rfl⟩
  have HC1 := Lib.hid HC.out
  have HB1 := Lib.hid HB.out
  clear HB HC k0 k1 k2 k3 k4 k5 k6
  obtain ⟨_, k1, k2, _, _, _, _⟩ := HC1.out.cells
  have j0 := HB1.out.rs.mx.c0
  go_wp2_with fail
  generalize w.alloc (.cells #[.int .i64 9, .int .u32 va, .int .u32 x, .int .i64 n, .bool u, .bool wt, .slice A m cc, .int .u32 tc.pb, .int .u32 tc.pn, .int .u32 tc.sb, .int .u32 tc.sn, .int .u32 tc.me] 45) = w1 at *
  go_still_tail 8, (by kernel_rfl)
  change wpList _ _ _ _ _ w1.drew
  have HBd := Lib.hid (HB1.out.below (W' := w1.drew) (by go_grown))
  generalize w1.drew = w2 at HBd ⊢
  clear k1 k2 j0 HB1 HC1
  go_wp2_with fail
  refine (rput_not d.rh d.hr xs va x _ HBd.out.rs.mem HV.out (by have := HF.out; omega)).mono ?_
  rintro e w3 ⟨rfl, rfl⟩
  go_wp2
  go_ret
  exact ⟨rfl, S, T, HBd.out⟩

end Go.Proofs.Ytfpdemlcmfaieaa.Cs
