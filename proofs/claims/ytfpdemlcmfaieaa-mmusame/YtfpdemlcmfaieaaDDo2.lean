/- A call on both: Load, Probe, Peek. -/
import Derived.Test.YtfpdemlcmfaieaaDMem
import Derived.Deep.RegionHeld3
namespace Go.Proofs.Ytfpdemlcmfaieaa.Cs
open Go.RowKit

set_option maxRecDepth 100000 in
set_option maxHeartbeats 2000000 in
theorem does_2 (d : Ids) (S T : Nat → Prop) (t : Tabs) (xs : List Int) (rows rows2 : Rows) (pl : Bool) (va x n : Int) (u wt : Bool) (A : Option Addr) (m cc : Nat) (tc : Tabs) (w : World) (b : Bw w d S T S T ⟨t, xs, rows⟩ ⟨t, xs, rows2⟩ pl w) (hv : U va) (a : Acc) (r1 r2 : Rows) (hW1 : walk t xs u false true rows [] va n.toNat = (a, r1)) (hW2 : walk t xs u false (true && !pl) rows2 [] va n.toNat = (a, r2)) (hn : n ≤ 1024) :
    Calls Try.prog 18 #[(Value.pointer (some ⟨d.rg, 0, none⟩)), (Value.pointer (some ⟨d.g, 0, none⟩)), (Value.pointer (some ⟨d.h, 0, none⟩)), .agg #[.int .i64 2, .int .u32 va, .int .u32 x, .int .i64 n, .bool u, .bool wt, .slice A m cc, .int .u32 tc.pb, .int .u32 tc.pn, .int .u32 tc.sb, .int .u32 tc.sn, .int .u32 tc.me]] w fun e w' => e = .returned (.bool true) ∧ ∃ S' T', Bw w d S T S' T' ⟨t, xs, r1⟩ ⟨t, xs, r2⟩ pl w' := by
  have HC := Lib.hid (Cq.new (W := w) (c := ⟨2, va, x, n, u, wt, A, m, cc, tc⟩))
  dsimp only at HC
  have HB : Hid (Bw w d S T S T ⟨t, xs, rows⟩ ⟨t, xs, rows2⟩ pl (w.alloc (.cells #[.int .i64 2, .int .u32 va, .int .u32 x, .int .i64 n, .bool u, .bool wt, .slice A m cc, .int .u32 tc.pb, .int .u32 tc.pn, .int .u32 tc.sb, .int .u32 tc.sn, .int .u32 tc.me] 45))) := b.below (by go_grown)
  have HV := Lib.hid hv
  clear b
  have HW1 := Lib.hid hW1
  have HW2 := Lib.hid hW2
  clear hv hW1 hW2
  obtain ⟨k0, k1, k2, k3, k4, k5, k6⟩ := HC.out.cells
  go_enter Try.func18, Try.ntmps18
  go_wp2_with fail
  refine (load_any d.g d.rg d.tg d.r S t rows r1 xs a va n u _ HB.out.ms HV.out (by omega) HW1.out).mono ?_
  rintro e w1 ⟨⟨v1, rfl, hr1, hab1⟩, S1, hm1, hs1⟩
  have HC1 := Lib.hid (HC.out.ux HB.out (step_rg (r := d.r) hs1).mods ux1)
  have HB1 := Lib.hid (HB.out.one (s' := ⟨t, xs, r1⟩) hm1 (step_rg hs1))
  obtain ⟨A1, c1, rfl⟩ := hr1.shape
  have HR1 := Lib.hid hr1
  have HAb1 : Hid (Tl.Ab w.heap.size (Tl.Bl (.slice A1 (accY xs a).length c1))) := fun k hk => by have := hab1 k hk; simp at this; omega
  clear hm1 hs1 hr1 hab1 HC k0 k1 k2 k3 k4 k5 k6
  obtain ⟨_, k1, _, k3, k4, _, _⟩ := HC1.out.cells
  have hzq := HC1.out.lt
  go_wp2_with fail
  refine (rload_any d.h d.rh d.hr d.th T t pl rows2 r2 xs va n u a _ (HB1.out.rs.below (by go_grown)) HV.out (by omega) HW2.out).mono ?_
  rintro e w2 ⟨⟨v2, rfl, hr2, hab2⟩, T2, hm2, hs2⟩
  have HB1b := Lib.hid (HB1.out.below (W' := w1.alloc (.cells #[.int .i64 (fk a), .int .u32 (fa a), .int .u32 (fi a)] 50)) (by go_grown))
  have HF1 := Lib.hid (Fv.ux (Fv.new (W := w1)) HB1b.out (step_rg (r := d.hr) hs2).mods ux2)
  have HR1' : Hid (R8 w2 (.slice A1 (accY xs a).length c1) (accY xs a)) := Tl.own_mods (Tl.own_below HR1.out (by go_grown)) hs2.mods (fun k h1 h2 => rf_not HB1b.out.rs.mx.rf (R8.typ (Tl.own_below HR1.out (by go_grown)) h2) (by decide) (by decide) h1)
  have HB2 := Lib.hid (HB1b.out.two (s' := ⟨t, xs, r2⟩) hm2 (step_rg hs2))
  obtain ⟨A2, c2, rfl⟩ := hr2.shape
  have HR2 := Lib.hid hr2
  obtain ⟨f0, f1, f2, _, _, _⟩ := HF1.out.cells
  have hzf := HF1.out.lt
  have s1 := Rm.run_string (w2.alloc (.cells #[.int .i64 (fk a), .int .u32 (fa a), .int .u32 (fi a)] 50)) A1 (accY xs a).length c1 (accY xs a) (R8.src (Tl.own_below HR1'.out (by go_grown))) rfl
  have s2 := Rm.run_string (w2.alloc (.cells #[.int .i64 (fk a), .int .u32 (fa a), .int .u32 (fi a)] 50)) A2 (accY xs a).length c2 (accY xs a) (R8.src (Tl.own_below HR2.out (by go_grown))) rfl
  generalize (accY xs a).length = yn at *
  generalize Rm.str (accY xs a) = ss at *
  generalize fk a = K1 at *
  generalize fa a = V1 at *
  generalize fi a = I1 at *
  clear hm2 hs2 hr2 hab2 k1 k3 k4
  go_wp2
  go_ret
  exact ⟨rfl, S1, T2, HB2.out.below (by go_grown)⟩

set_option maxRecDepth 100000 in
set_option maxHeartbeats 2000000 in
theorem does_4 (d : Ids) (S T : Nat → Prop) (t : Tabs) (xs : List Int) (rows rows2 : Rows) (pl : Bool) (va x n : Int) (u wt : Bool) (A : Option Addr) (m cc : Nat) (tc : Tabs) (w : World) (b : Bw w d S T S T ⟨t, xs, rows⟩ ⟨t, xs, rows2⟩ pl w) (hv : U va) (a : Acc) (r1 r2 : Rows) (hW1 : walk t xs u wt true rows [] va n.toNat = (a, r1)) (hW2 : walk t xs u wt (true && !pl) rows2 [] va n.toNat = (a, r2)) (hn : n ≤ 1024) :
    Calls Try.prog 18 #[(Value.pointer (some ⟨d.rg, 0, none⟩)), (Value.pointer (some ⟨d.g, 0, none⟩)), (Value.pointer (some ⟨d.h, 0, none⟩)), .agg #[.int .i64 4, .int .u32 va, .int .u32 x, .int .i64 n, .bool u, .bool wt, .slice A m cc, .int .u32 tc.pb, .int .u32 tc.pn, .int .u32 tc.sb, .int .u32 tc.sn, .int .u32 tc.me]] w fun e w' => e = .returned (.bool true) ∧ ∃ S' T', Bw w d S T S' T' ⟨t, xs, r1⟩ ⟨t, xs, r2⟩ pl w' := by
  have HC := Lib.hid (Cq.new (W := w) (c := ⟨4, va, x, n, u, wt, A, m, cc, tc⟩))
  dsimp only at HC
  have HB : Hid (Bw w d S T S T ⟨t, xs, rows⟩ ⟨t, xs, rows2⟩ pl (w.alloc (.cells #[.int .i64 4, .int .u32 va, .int .u32 x, .int .i64 n, .bool u, .bool wt, .slice A m cc, .int .u32 tc.pb, .int .u32 tc.pn, .int .u32 tc.sb, .int .u32 tc.sn, .int .u32 tc.me] 45))) := b.below (by go_grown)
  have HV := Lib.hid hv
  clear b
  have HW1 := Lib.hid hW1
  have HW2 := Lib.hid hW2
  have HFl := Lib.hid (fun e => FlE.eq (a := a) (e := e))
  clear hv hW1 hW2
  obtain ⟨k0, k1, k2, k3, k4, k5, k6⟩ := HC.out.cells
  go_enter Try.func18, Try.ntmps18
  go_wp2_with fail
  refine (places_any d.h d.rh d.hr d.th T t pl rows2 r2 xs va n u wt a _ HB.out.rs HV.out (by omega) HW2.out).mono ?_
  rintro e w1 ⟨T1, hE, hT, hs1⟩
  obtain ⟨v1, rfl, _, _, _⟩ := hE.one
  have hfit : Tl.Fit r2 := by
    have := walk_fit HB.out.rs.mem.byt n.toNat rows2 [] va HV.out HB.out.rs.mx.fit (t := t) (u := u) (wr := wt) (keep := (true && !pl))
    rw [HW2.out] at this
    exact this
  have HC1 := Lib.hid (HC.out.ux HB.out (step_rg (r := d.hr) hs1).mods ux2)
  have HB1 := Lib.hid (HB.out.two (s' := ⟨t, xs, r2⟩) (HB.out.rs.turn hT hfit hs1) (step_rg hs1))
  obtain ⟨A1, c1, rfl⟩ : ∃ A1 c1, v1 = .slice A1 (plc a).length c1 := R1.shape (by assumption)
  clear hT hs1 hE HC HB k0 k1 k2 k3 k4 k5 k6 hfit
  go_wp2_with fail
  have HPr := Lib.hid (fun W S (h : Mx W d.g d.rg d.tg S t rows) (hm : Rm.Mem W d.rg d.r xs) => probe_any d.g d.rg d.tg d.r S t rows xs va n u wt W h hm HV.out (by omega) a r1 HW1.out)
  generalize fk a = K1 at *
  generalize fa a = V1 at *
  generalize fi a = I1 at *
  have HBw := Lib.hid (HB1.out.below (W' := w1.alloc (.cells #[.int .i64 K1, .int .u32 V1, .int .u32 I1] 50)) (by go_grown))
  have HCw := Lib.hid (HC1.out.below (W' := w1.alloc (.cells #[.int .i64 K1, .int .u32 V1, .int .u32 I1] 50)) (by go_grown))
  have HFw := Lib.hid (Fv.new (W := w1) (k := K1) (va := V1) (i := I1))
  generalize w1.alloc (.cells #[.int .i64 K1, .int .u32 V1, .int .u32 I1] 50) = W at HBw HCw HFw ⊢
  obtain ⟨_, k1, _, k3, k4, k5, _⟩ := HCw.out.cells
  obtain ⟨f0, f1, f2, _, _, _⟩ := HFw.out.cells
  clear HB1 HC1
  go_region_held3 (fun w' => w'.cell? ⟨w.heap.size, 1, none⟩ = some (.int .u32 va) ∧ w'.cell? ⟨w.heap.size, 3, none⟩ = some (.int .i64 n) ∧ w'.cell? ⟨w.heap.size, 4, none⟩ = some (.bool u) ∧ w'.cell? ⟨w.heap.size, 5, none⟩ = some (.bool wt) ∧ w'.cell? ⟨w1.heap.size, 0, none⟩ = some (.int .i64 K1) ∧ w'.cell? ⟨w1.heap.size, 1, none⟩ = some (.int .u32 V1) ∧ w'.cell? ⟨w1.heap.size, 2, none⟩ = some (.int .u32 I1))
    (first | go_keep | exact ⟨k1, k3, k4, k5, f0, f1, f2⟩ | exact ⟨((HCw.out.below (by go_grown)).ux (HBw.out.below (by go_grown)) (step_rg (r := d.r) hs2).mods ux1).cells.2.1, ((HCw.out.below (by go_grown)).ux (HBw.out.below (by go_grown)) (step_rg (r := d.r) hs2).mods ux1).cells.2.2.2.1, ((HCw.out.below (by go_grown)).ux (HBw.out.below (by go_grown)) (step_rg (r := d.r) hs2).mods ux1).cells.2.2.2.2.1, ((HCw.out.below (by go_grown)).ux (HBw.out.below (by go_grown)) (step_rg (r := d.r) hs2).mods ux1).cells.2.2.2.2.2.1, ((HFw.out.below (by go_grown)).ux (HBw.out.below (by go_grown)) (step_rg (r := d.r) hs2).mods ux1).cells.1, ((HFw.out.below (by go_grown)).ux (HBw.out.below (by go_grown)) (step_rg (r := d.r) hs2).mods ux1).cells.2.1, ((HFw.out.below (by go_grown)).ux (HBw.out.below (by go_grown)) (step_rg (r := d.r) hs2).mods ux1).cells.2.2.1⟩)
    (first | (go_at_call 24; refine (HPr.out _ S (HBw.out.ms.mx.below (by go_grown)) (HBw.out.ms.mem.below_ (by go_grown))).mono ?_; rintro e w2 ⟨hE, S2, hT2, hs2⟩; obtain rfl := HFl.out _ hE))
  go_wp2
  go_ret
  exact ⟨rfl, S2, T1, (HBw.out.below (by go_grown)).one (s' := ⟨t, xs, r1⟩) ((HBw.out.ms.below (by go_grown)).turn hT2 hs2) (step_rg hs2)⟩

set_option maxRecDepth 100000 in
set_option maxHeartbeats 2000000 in
theorem does_5a (d : Ids) (S T : Nat → Prop) (t : Tabs) (xs : List Int) (rows rows2 : Rows) (pl : Bool) (va x n : Int) (u wt : Bool) (A : Option Addr) (m cc : Nat) (tc : Tabs) (w : World) (b : Bw w d S T S T ⟨t, xs, rows⟩ ⟨t, xs, rows2⟩ pl w) (hv : U va) (p : Int) (hp1 : plE t xs rows va 1 u false = .ok p) (hp2 : plE t xs rows2 va 1 u false = .ok p) :
    Calls Try.prog 18 #[(Value.pointer (some ⟨d.rg, 0, none⟩)), (Value.pointer (some ⟨d.g, 0, none⟩)), (Value.pointer (some ⟨d.h, 0, none⟩)), .agg #[.int .i64 5, .int .u32 va, .int .u32 x, .int .i64 n, .bool u, .bool wt, .slice A m cc, .int .u32 tc.pb, .int .u32 tc.pn, .int .u32 tc.sb, .int .u32 tc.sn, .int .u32 tc.me]] w fun e w' => e = .returned (.bool true) ∧ ∃ S' T', Bw w d S T S' T' ⟨t, xs, rows⟩ ⟨t, xs, rows2⟩ pl w' := by
  have HC := Lib.hid (Cq.new (W := w) (c := ⟨5, va, x, n, u, wt, A, m, cc, tc⟩))
  dsimp only at HC
  have HB : Hid (Bw w d S T S T ⟨t, xs, rows⟩ ⟨t, xs, rows2⟩ pl (w.alloc (.cells #[.int .i64 5, .int .u32 va, .int .u32 x, .int .i64 n, .bool u, .bool wt, .slice A m cc, .int .u32 tc.pb, .int .u32 tc.pn, .int .u32 tc.sb, .int .u32 tc.sn, .int .u32 tc.me] 45))) := b.below (by go_grown)
  have HV := Lib.hid hv
  clear b
  obtain ⟨hfit, ⟨p0, p1⟩⟩ := plE_ok hv hp1
  have HPN : Hid (p = p.toNat) := by show _ = _; omega
  have HPF : Hid (p.toNat < xs.length) := by show _ < _; omega
  have hxl := HB.out.rs.mem.len
  generalize hpn : p.toNat = pn at HPN HPF ⊢
  have HPn := Lib.hid hpn
  have HP1 := Lib.hid hp1
  have HP2 := Lib.hid hp2
  clear hp1 hp2 hv hfit p0 p1 hpn
  obtain ⟨k0, k1, k2, k3, k4, k5, k6⟩ := HC.out.cells
  go_enter Try.func18, Try.ntmps18
  go_wp2_with fail
  refine (peek_ok d.g d.rg d.tg d.r S t rows xs va p u _ HB.out.ms HV.out HP1.out).mono ?_
  rintro e w1 ⟨rfl, S1, hm1, hs1⟩
  rw [HPn.out]
  obtain ⟨y, hy⟩ : ∃ y, xs.getD pn 0 = y := ⟨_, rfl⟩
  rw [hy]
  have HY := Lib.hid hy
  clear hy
  have HC1 := Lib.hid (HC.out.ux HB.out (step_rg (r := d.r) hs1).mods ux1)
  have HB1 := Lib.hid (HB.out.one (s' := ⟨t, xs, rows⟩) hm1 (step_rg hs1))
  clear hm1 hs1 HC k0 k1 k2 k3 k4 k5 k6
  obtain ⟨_, k1, _, _, k4, _, _⟩ := HC1.out.cells
  have hzq := HC1.out.lt
  go_wp2_with fail
  refine (find_at d.h d.rh d.hr d.th T t pl rows2 xs va 1 1 u false false _ rfl (HB1.out.rs.below (by go_grown)) HV.out).mono ?_
  rintro e w2 ⟨⟨T2, hT2, hs2⟩, hP⟩
  rw [show (false && !pl) = false from rfl, plR_false] at hT2
  rw [show ((1 : Nat) : Int) = 1 from rfl, HP2.out] at hP
  obtain rfl := hP
  have HB1b := Lib.hid (HB1.out.below (W' := w1.alloc (.cells #[.int .i64 0, .int .u32 0, .int .u32 0] 50)) (by go_grown))
  have HF1 := Lib.hid (Fv.ux (Fv.new (W := w1)) HB1b.out (step_rg (r := d.hr) hs2).mods ux2)
  have HB2 := Lib.hid (HB1b.out.two (s' := ⟨t, xs, rows2⟩) (HB1b.out.rs.turn hT2 HB1b.out.rs.mx.fit hs2) (step_rg hs2))
  obtain ⟨f0, f1, f2, _, _, _⟩ := HF1.out.cells
  have hzf := HF1.out.lt
  clear hT2 hs2 k1 k4
  have b0 := HB2.out.rs.mx.c0
  have b1 := HB2.out.rs.mem.cell
  have b2 := HB2.out.rs.mem.byte (i := pn) HPF.out
  have hg1 := HB2.out.rs.mx.glt
  have hg2 := HB2.out.rs.mem.glt
  have hg3 := HB2.out.rs.mem.rlt
  have hpl := HPF.out
  have hpe := HPN.out
  rw [HY.out] at b2
  rw [hpe]
  generalize xs.length = xn at *
  go_wp2
  go_ret
  exact ⟨rfl, S1, T2, HB2.out.below (by go_grown)⟩

set_option maxRecDepth 100000 in
set_option maxHeartbeats 2000000 in
theorem does_5b (d : Ids) (S T : Nat → Prop) (t : Tabs) (xs : List Int) (rows rows2 : Rows) (pl : Bool) (va x n : Int) (u wt : Bool) (A : Option Addr) (m cc : Nat) (tc : Tabs) (w : World) (b : Bw w d S T S T ⟨t, xs, rows⟩ ⟨t, xs, rows2⟩ pl w) (hv : U va) (k i : Int) (hp1 : plE t xs rows va 1 u false = .bad k i) (hp2 : plE t xs rows2 va 1 u false = .bad k i) :
    Calls Try.prog 18 #[(Value.pointer (some ⟨d.rg, 0, none⟩)), (Value.pointer (some ⟨d.g, 0, none⟩)), (Value.pointer (some ⟨d.h, 0, none⟩)), .agg #[.int .i64 5, .int .u32 va, .int .u32 x, .int .i64 n, .bool u, .bool wt, .slice A m cc, .int .u32 tc.pb, .int .u32 tc.pn, .int .u32 tc.sb, .int .u32 tc.sn, .int .u32 tc.me]] w fun e w' => e = .returned (.bool true) ∧ ∃ S' T', Bw w d S T S' T' ⟨t, xs, rows⟩ ⟨t, xs, rows2⟩ pl w' := by
  have HC := Lib.hid (Cq.new (W := w) (c := ⟨5, va, x, n, u, wt, A, m, cc, tc⟩))
  dsimp only at HC
  have HB : Hid (Bw w d S T S T ⟨t, xs, rows⟩ ⟨t, xs, rows2⟩ pl (w.alloc (.cells #[.int .i64 5, .int .u32 va, .int .u32 x, .int .i64 n, .bool u, .bool wt, .slice A m cc, .int .u32 tc.pb, .int .u32 tc.pn, .int .u32 tc.sb, .int .u32 tc.sn, .int .u32 tc.me] 45))) := b.below (by go_grown)
  have HV := Lib.hid hv
  clear b
  have hk := (plE_bad hp1).1
  have hk' : (k != 0) = true := by simp; omega
  have HP1 := Lib.hid hp1
  have HP2 := Lib.hid hp2
  clear hp1 hp2 hv hk
  obtain ⟨k0, k1, k2, k3, k4, k5, k6⟩ := HC.out.cells
  go_enter Try.func18, Try.ntmps18
  go_wp2_with fail
  refine (peek_bad d.g d.rg d.tg d.r S t rows xs va k i u _ HB.out.ms HV.out HP1.out).mono ?_
  rintro e w1 ⟨rfl, S1, hm1, hs1⟩
  skip
  have HC1 := Lib.hid (HC.out.ux HB.out (step_rg (r := d.r) hs1).mods ux1)
  have HB1 := Lib.hid (HB.out.one (s' := ⟨t, xs, rows⟩) hm1 (step_rg hs1))
  clear hm1 hs1 HC k0 k1 k2 k3 k4 k5 k6
  obtain ⟨_, k1, _, _, k4, _, _⟩ := HC1.out.cells
  have hzq := HC1.out.lt
  go_wp2_with fail
  refine (find_at d.h d.rh d.hr d.th T t pl rows2 xs va 1 1 u false false _ rfl (HB1.out.rs.below (by go_grown)) HV.out).mono ?_
  rintro e w2 ⟨⟨T2, hT2, hs2⟩, hP⟩
  rw [show (false && !pl) = false from rfl, plR_false] at hT2
  rw [show ((1 : Nat) : Int) = 1 from rfl, HP2.out] at hP
  obtain rfl := hP
  have HB1b := Lib.hid (HB1.out.below (W' := w1.alloc (.cells #[.int .i64 k, .int .u32 va, .int .u32 i] 50)) (by go_grown))
  have HF1 := Lib.hid (Fv.ux (Fv.new (W := w1)) HB1b.out (step_rg (r := d.hr) hs2).mods ux2)
  have HB2 := Lib.hid (HB1b.out.two (s' := ⟨t, xs, rows2⟩) (HB1b.out.rs.turn hT2 HB1b.out.rs.mx.fit hs2) (step_rg hs2))
  obtain ⟨f0, f1, f2, _, _, _⟩ := HF1.out.cells
  have hzf := HF1.out.lt
  clear hT2 hs2 k1 k4
  go_wp2
  go_ret
  exact ⟨rfl, S1, T2, HB2.out.below (by go_grown)⟩

end Go.Proofs.Ytfpdemlcmfaieaa.Cs
