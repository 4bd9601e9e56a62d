/- The walk of MmuSame. -/
import Derived.Test.YtfpdemlcmfaieaaSQd
import Derived.Test.YtfpdemlcmfaieaaWAll2
namespace Go.Proofs.Ytfpdemlcmfaieaa.Cs
open Go.RowKit

theorem nx_len {kp : Bool} {s : St} {c : Cal} {ys : List Int} (hv : U c.va) : (nx kp s c ys).xs.length = s.xs.length := by
  obtain ⟨v0, v1⟩ := hv
  unfold nx
  by_cases k0 : c.K = 0
  · simp only [if_pos k0]
  simp only [if_neg k0]
  by_cases k1 : c.K = 1
  · simp only [if_pos k1]
    exact stM_length (u := c.u) (keep := kp) (rows := s.rows) (va := c.va) (n := (max 0 (min c.n 4)).toNat) ⟨v0, v1⟩ rfl
  simp only [if_neg k1]
  by_cases k2 : c.K = 2
  · simp only [if_pos k2]
  simp only [if_neg k2]
  by_cases k3 : c.K = 3
  · simp only [if_pos k3]
    exact stM_length (u := c.u) (keep := kp) (rows := s.rows) (va := c.va) (n := c.m) ⟨v0, v1⟩ rfl
  simp only [if_neg k3]
  by_cases k4 : c.K = 4
  · simp only [if_pos k4]
  simp only [if_neg k4]
  by_cases k5 : c.K = 5
  · simp only [if_pos k5]
  simp only [if_neg k5]
  by_cases k6 : c.K = 6
  · simp only [if_pos k6]
  simp only [if_neg k6]
  by_cases k7 : c.K = 7
  · simp only [if_pos k7]
  simp only [if_neg k7]
  by_cases k8 : c.K = 8
  · simp only [if_pos k8]
  simp only [if_neg k8]
  by_cases k9 : c.K = 9
  · simp only [if_pos k9]
    split
    · rename_i h
      exact length_splice _ _ _ (by rw [Rm.low_length]; omega)
    · rfl
  simp only [if_neg k9]

set_option maxRecDepth 100000 in
set_option maxHeartbeats 400000 in
theorem msame_out (A : Option Addr) (n c : Nat) (t : Tabs) (B : Option Addr) (m d : Nat) (w : World) (h : 8192 < n) :
    Calls Try.prog 4 #[.slice A n c, (Value.agg #[Value.int .u32 (Tabs.pb t), Value.int .u32 (Tabs.pn t), Value.int .u32 (Tabs.sb t), Value.int .u32 (Tabs.sn t), Value.int .u32 (Tabs.me t)]), .slice B m d] w fun e w' => e = .returned (.bool true) ∧ Below w.heap.size w w' := by
  have h1' : (8192 : Int) < (n : Int) := by omega
  clear h
  go_enter Try.func4, Try.ntmps4
  go_wp2_with fail
  refine (alive _).mono ?_
  rintro e w1 ⟨rfl, hb1⟩
  have hb := Tl.bel2 (a := w) (by go_grown) hb1
  go_wp2
  go_ret
  exact ⟨rfl, hb⟩

set_option maxRecDepth 100000 in
set_option maxHeartbeats 4000000 in
theorem msame_in (A : Option Addr) (n c : Nat) (ys : List Int) (t : Tabs) (B : Option Addr) (m d : Nat) (w : World) (hi : In w A n c ys) (ht : t.Ok) (hj : Cls w B m d) (hn : n ≤ 8192) :
    Calls Try.prog 4 #[.slice A n c, (Value.agg #[Value.int .u32 (Tabs.pb t), Value.int .u32 (Tabs.pn t), Value.int .u32 (Tabs.sb t), Value.int .u32 (Tabs.sn t), Value.int .u32 (Tabs.me t)]), .slice B m d] w fun e w' => e = .returned (.bool true) ∧ Below w.heap.size w w' := by
  have g1 : ¬ (8192 : Int) < (n : Int) := by omega
  have HI := Lib.hid hi
  have HJ := Lib.hid hj
  have HTk := Lib.hid ht
  clear hi ht hj
  go_enter Try.func4, Try.ntmps4
  go_wp2_with fail
  refine (alive _).mono ?_
  rintro e w00 ⟨rfl, hb0⟩
  have HTt0 := Lib.hid (Tt.below Tt.new hb0)
  have HB00 := Lib.hid (Tl.bel2 (a := w) (by go_grown) hb0)
  clear hb0
  go_wp2_with fail
  refine (great_any B m d w _ HJ.out HB00.out).mono ?_
  rintro e w0 ⟨b, rfl, hg, hb0⟩
  have HTt := Lib.hid (HTt0.out.below hb0)
  have HB0 := Lib.hid (Tl.bel2 HB00.out hb0)
  clear hb0 HB00 HTt0
  cases b
  case true =>
    go_wp2
    go_ret
    exact ⟨rfl, HB0.out⟩
  obtain ⟨h60, hsm⟩ := hg rfl
  have HS := Lib.hid hsm
  clear hg hsm
  go_wp2_with fail
  refine (Rm.new_any n _).mono ?_
  rintro e w1 ⟨rg, r, rfl, h1, h2, hm, hb1⟩
  rw [Rm.sized_nat n (by omega)] at hm
  have HM := Lib.hid hm
  have HR := Lib.hid h2
  have HB1 := Lib.hid hb1
  clear h1 h2 hm hb1
  go_wp2_with fail
  refine (rnew_any n hn _).mono ?_
  rintro e w2 ⟨rh, hr, rfl, _, h2, hm, hb2⟩
  have HP := Lib.hid (Pr.make HM.out HR.out HB1.out hm h2 hb2)
  clear h2 hm hb2 HM HR HB1
  go_wp2_with fail
  refine (load_whole rg r n c A ys _ HP.out.mem (HI.out.below (Tl.bel2 HB0.out HP.out.bel))).mono ?_
  rintro e w3 ⟨rfl, hm3, hg3⟩
  have HP3 := Lib.hid (HP.out.load1 hm3 hg3)
  clear hm3 hg3 HP
  go_wp2_with fail
  refine (rload_whole rh hr n c A ys _ HP3.out.rb (HI.out.below (Tl.bel2 HB0.out HP3.out.bel)) (fun ad e h0 => ?_) hn).mono ?_
  · obtain ⟨ad', e', hl, _⟩ := HI.out.src (by rw [HI.out.len]; exact h0)
    rw [e] at e'
    injection e' with e'
    subst e'
    have := (HB0.out).size
    have := HP3.out.a2
    omega
  rintro e w4 ⟨rfl, hm4, hg4⟩
  have HP4 := Lib.hid (HP3.out.load2 hm4 hg4)
  clear hm4 hg4 HP3
  go_wp2_with fail
  refine (mnew_any rg _).mono ?_
  rintro e w5 ⟨g, tg, S, rfl, h5, _, hx, hA, hb5⟩
  have HX := Lib.hid (And.intro h5 (And.intro hx (And.intro hA hb5)))
  clear h5 hx hA hb5
  go_wp2_with fail
  refine (rmnew_any rh _).mono ?_
  rintro e w6 ⟨h, th, T, rfl, h6, hx6, hT, hb6⟩
  have HL := Lib.hid (Lq.make HP4.out HX.out.2.1 HX.out.1 HX.out.2.2.1 HX.out.2.2.2 hx6 h6 hT hb6)
  clear h6 hx6 hT hb6 HX HP4
  have f7 := frozen_of_row w6 h 7 _ _ HL.out.rs.mx.box
  have k7 := HL.out.rs.mx.c7
  have HLp := Lib.hid (HL.out.step2 (HL.out.bw.plain (p' := true)))
  have HTt6 := Lib.hid (HTt.out.below HLp.out.bel)
  obtain ⟨q0, q1, q2, q3, q4⟩ := HTt6.out.cells
  go_wp2_with fail
  clear HL k7 f7
  refine (set_any g rg tg S noTabs t [] _ HLp.out.ms.mx HTk.out).mono ?_
  rintro e w7 ⟨rfl, S7, hx7, hs7⟩
  have HL7 := Lib.hid (HLp.out.step (HLp.out.bw.set hx7 hs7))
  clear hx7 hs7 HLp HTt6 q0 q1 q2 q3 q4
  have HTt7 := Lib.hid (HTt.out.below HL7.out.bel)
  obtain ⟨q0, q1, q2, q3, q4⟩ := HTt7.out.cells
  have f2 := frozen_of_row w7 h 2 _ _ HL7.out.rs.mx.box
  have f3 := frozen_of_row w7 h 3 _ _ HL7.out.rs.mx.box
  have f4 := frozen_of_row w7 h 4 _ _ HL7.out.rs.mx.box
  have f5 := frozen_of_row w7 h 5 _ _ HL7.out.rs.mx.box
  have f6 := frozen_of_row w7 h 6 _ _ HL7.out.rs.mx.box
  have k2 := HL7.out.rs.mx.c2
  have k3 := HL7.out.rs.mx.c3
  have k4 := HL7.out.rs.mx.c4
  have k5 := HL7.out.rs.mx.c5
  have k6 := HL7.out.rs.mx.c6
  have HL8 := Lib.hid (HL7.out.step (HL7.out.bw.rtabs HTk.out))
  clear HL7 HTt7
  go_wp2_with fail
  clear q0 q1 q2 q3 q4 f2 f3 f4 f5 f6 k2 k3 k4 k5 k6
  have HF := HL8
  clear HL8
  generalize ((((((w7.setCell ⟨h, 2, none⟩ (.int .u32 t.pb)).setCell ⟨h, 3, none⟩ (.int .u32 t.pn)).setCell ⟨h, 4, none⟩ (.int .u32 t.sb)).setCell ⟨h, 5, none⟩ (.int .u32 t.sn)).setCell ⟨h, 6, none⟩ (.int .u32 t.me))) = w8 at *
  have HBF := Lib.hid (Tl.bel2 HB0.out HF.out.bel)
  refine (Rm.new_any n _).mono ?_
  rintro e w1y ⟨rgy, ry, rfl, h1, h2, hm, hb1⟩
  rw [Rm.sized_nat n (by omega)] at hm
  have HM := Lib.hid hm
  have HR := Lib.hid h2
  have HB1 := Lib.hid hb1
  clear h1 h2 hm hb1
  go_wp2_with fail
  refine (rnew_any n hn _).mono ?_
  rintro e w2y ⟨rhy, hry, rfl, _, h2, hm, hb2⟩
  have HP := Lib.hid (Pr.make HM.out HR.out HB1.out hm h2 hb2)
  clear h2 hm hb2 HM HR HB1
  go_wp2_with fail
  refine (load_whole rgy ry n c A ys _ HP.out.mem (HI.out.below (Tl.bel2 HBF.out HP.out.bel))).mono ?_
  rintro e w3y ⟨rfl, hm3, hg3⟩
  have HP3 := Lib.hid (HP.out.load1 hm3 hg3)
  clear hm3 hg3 HP
  go_wp2_with fail
  refine (rload_whole rhy hry n c A ys _ HP3.out.rb (HI.out.below (Tl.bel2 HBF.out HP3.out.bel)) (fun ad e h0 => ?_) hn).mono ?_
  · obtain ⟨ad', e', hl, _⟩ := HI.out.src (by rw [HI.out.len]; exact h0)
    rw [e] at e'
    injection e' with e'
    subst e'
    have := (HBF.out).size
    have := HP3.out.a2
    omega
  rintro e w4y ⟨rfl, hm4, hg4⟩
  have HP4 := Lib.hid (HP3.out.load2 hm4 hg4)
  clear hm4 hg4 HP3
  go_wp2_with fail
  refine (mnew_any rgy _).mono ?_
  rintro e w5y ⟨gy, tgy, Sy, rfl, h5, _, hx, hA, hb5⟩
  have HX := Lib.hid (And.intro h5 (And.intro hx (And.intro hA hb5)))
  clear h5 hx hA hb5
  go_wp2_with fail
  refine (rmnew_any rhy _).mono ?_
  rintro e w6y ⟨hy, thy, Ty, rfl, h6, hx6, hT, hb6⟩
  have HL := Lib.hid (Lq.make HP4.out HX.out.2.1 HX.out.1 HX.out.2.2.1 HX.out.2.2.2 hx6 h6 hT hb6)
  clear h6 hx6 hT hb6 HX HP4
  have HTt6 := Lib.hid ((HTt.out.below HF.out.bel).below HL.out.bel)
  obtain ⟨q0, q1, q2, q3, q4⟩ := HTt6.out.cells
  go_wp2_with fail
  refine (set_any gy rgy tgy Sy noTabs t [] _ HL.out.ms.mx HTk.out).mono ?_
  rintro e w7y ⟨rfl, S7y, hx7, hs7⟩
  have HL7 := Lib.hid (HL.out.step (HL.out.bw.set hx7 hs7))
  clear hx7 hs7 HL HTt6 q0 q1 q2 q3 q4
  have HTt7 := Lib.hid ((HTt.out.below HF.out.bel).below HL7.out.bel)
  obtain ⟨q0, q1, q2, q3, q4⟩ := HTt7.out.cells
  have f2 := frozen_of_row w7y hy 2 _ _ HL7.out.rs.mx.box
  have f3 := frozen_of_row w7y hy 3 _ _ HL7.out.rs.mx.box
  have f4 := frozen_of_row w7y hy 4 _ _ HL7.out.rs.mx.box
  have f5 := frozen_of_row w7y hy 5 _ _ HL7.out.rs.mx.box
  have f6 := frozen_of_row w7y hy 6 _ _ HL7.out.rs.mx.box
  have k2 := HL7.out.rs.mx.c2
  have k3 := HL7.out.rs.mx.c3
  have k4 := HL7.out.rs.mx.c4
  have k5 := HL7.out.rs.mx.c5
  have k6 := HL7.out.rs.mx.c6
  have HL8 := Lib.hid (HL7.out.step (HL7.out.bw.rtabs HTk.out))
  clear HL7 HTt7
  go_wp2_with fail
  clear q0 q1 q2 q3 q4 f2 f3 f4 f5 f6 k2 k3 k4 k5 k6
  have HQ0 := Lib.hid (Qd.make HF.out HL8.out)
  clear HL8 HF HBF
  go_loopw [85] (fun i W => ∃ k : Nat, k ≤ m ∧ i = .int .i64 k ∧ ∃ S T S2 T2 s, Qd w0 ⟨g, rg, r, tg, h, rh, hr, th⟩ ⟨gy, rgy, ry, tgy, hy, rhy, hry, thy⟩ S T S2 T2 s W ∧ s.xs.length = n) (fun i _ => m - (intOf i).toNat)
  case atStart => exact ⟨0, Nat.zero_le _, rfl, _, _, _, _, _, HQ0.out, HI.out.len⟩
  case round =>
    clear HQ0
    obtain ⟨k, hk, rfl, S, T, S2, T2, s, hQ, hln⟩ := hrel
    have HQ := Lib.hid hQ
    have HN := Lib.hid hln
    clear hQ hln
    by_cases hlt : k < m
    · obtain ⟨ad, c1, zs, rfl, hone, hcn, hcm⟩ := HS.out k hlt
      have HO := Lib.hid hone
      have HW := Lib.hid (Tl.bel2 HB0.out HQ.out.l1.bel)
      obtain ⟨b, o, sp, ha, hat⟩ := HO.out.at_ HW.out
      obtain ⟨c0, c1', c2, c3, c4, c5, c6, c7, c8, c9, c10, c11⟩ := hat
      have HCk := Lib.hid (And.intro hcn hcm)
      obtain ⟨K, va, x, nn, u, wt, D, bm, bc, tc⟩ := c1
      simp only at c0 c1' c2 c3 c4 c5 c6 c7 c8 c9 c10 c11
      clear hone hcn hcm HW
      obtain ⟨N, hN⟩ : ∃ N, s.rows.length = N := ⟨_, rfl⟩
      have HNr := Lib.hid hN
      have hN8 : N ≤ 8 := by rw [← hN]; exact HQ.out.l2.rs.mx.fit.2.1
      obtain ⟨A', c', B', d', -, r0, r1, -, -, -, -, HcA, HcB, -, -, -, -⟩ := HQ.out.l2.rs.mx.rf.open_
      rw [hN] at r0 r1 HcA HcB
      clear hN
      have j1 := HQ.out.l2.rs.mx.c1
      have hg1 := HQ.out.l2.rs.mx.glt
      have hg3 := HQ.out.l2.rs.mx.rf.lo _ HQ.out.l2.rs.mx.rf.in_
      go_wp2_with fail
      have HBA : Hid (Below wr.heap.size wr (wr.alloc (.cells #[.int .i64 K, .int .u32 va, .int .u32 x, .int .i64 nn, .bool u, .bool wt, .slice D bm bc, .int .u32 tc.pb, .int .u32 tc.pn, .int .u32 tc.sb, .int .u32 tc.sn, .int .u32 tc.me] 45))) := (by go_grown : Below _ _ _)
      have HC : Hid (Cq (wr.alloc (.cells #[.int .i64 K, .int .u32 va, .int .u32 x, .int .i64 nn, .bool u, .bool wt, .slice D bm bc, .int .u32 tc.pb, .int .u32 tc.pn, .int .u32 tc.sb, .int .u32 tc.sn, .int .u32 tc.me] 45)) wr.heap.size ⟨K, va, x, nn, u, wt, D, bm, bc, tc⟩) := Lib.hid (Cq.new (W := wr) (c := ⟨K, va, x, nn, u, wt, D, bm, bc, tc⟩))
      clear c0 c1' c2 c3 c4 c5 c6 c7 c8 c9 c10 c11
      generalize (wr.alloc (.cells #[.int .i64 K, .int .u32 va, .int .u32 x, .int .i64 nn, .bool u, .bool wt, .slice D bm bc, .int .u32 tc.pb, .int .u32 tc.pn, .int .u32 tc.sb, .int .u32 tc.sn, .int .u32 tc.me] 45)) = wA at *
      have HA := Lib.hid (HQ.out.below HBA.out)
      have HA1 : Hid (∀ j, j < N → ∃ r, A' = some ⟨r, 0, none⟩ ∧ wA.cell? ⟨r, j, none⟩ = some (.int .u32 (Tl.row s.rows j).1)) := fun j hj => by
        obtain ⟨r, e, hl, hc⟩ := HcA.out j hj
        exact ⟨r, e, (HBA.out.cell (p := ⟨r, j, none⟩) hl).trans hc⟩
      have HA2 : Hid (∀ j, j < N → ∃ r, B' = some ⟨r, 0, none⟩ ∧ wA.cell? ⟨r, j, none⟩ = some (.int .u32 (Tl.row s.rows j).2)) := fun j hj => by
        obtain ⟨r, e, hl, hc⟩ := HcB.out j hj
        exact ⟨r, e, (HBA.out.cell (p := ⟨r, j, none⟩) hl).trans hc⟩
      have r1' := (HBA.out.cell (p := ⟨thy, 1, none⟩) hg3).trans r1
      clear HcA HcB HBA r0 r1 j1 hg1 hg3 HQ
      generalize wr.heap.size = q at *
      clear wr
      go_loopw [97] (fun i W => ∃ j : Nat, j ≤ N ∧ i = .int .i64 j ∧ Chk s.t s.xs s.rows j ∧ W = wA) (fun i _ => N - (intOf i).toNat)
      case atStart => exact ⟨0, Nat.zero_le _, rfl, fun j hj => absurd hj (Nat.not_lt_zero _), rfl⟩
      case round =>
        obtain ⟨j, hj, rfl, hch, rfl⟩ := hrel
        have HCh := Lib.hid hch
        clear hch
        have j0 := HA.out.l2.rs.mx.c0
        have j1 := HA.out.l2.rs.mx.c1
        by_cases hjl : j < N
        · obtain ⟨ra, rfl, hpa⟩ := HA1.out j hjl
          obtain ⟨rb, rfl, hpb⟩ := HA2.out j hjl
          obtain ⟨pg, hpg⟩ : ∃ pg, (Tl.row s.rows j).1 = pg := ⟨_, rfl⟩
          obtain ⟨en, hen⟩ : ∃ en, (Tl.row s.rows j).2 = en := ⟨_, rfl⟩
          rw [hpg] at hpa
          rw [hen] at hpb
          have HE := Lib.hid (And.intro hpg hen)
          clear hpg hen
          obtain ⟨a, ha'⟩ : ∃ a, epl s.t (pg * 512 % 4294967296) = a := ⟨_, rfl⟩
          obtain ⟨bb, hbb⟩ : ∃ b, ein s.t (pg * 512 % 4294967296) = b := ⟨_, rfl⟩
          have HU : Hid (U a) := ha' ▸ epl_U s.t _
          have HEp := Lib.hid ha'
          have HEb := Lib.hid hbb
          clear ha' hbb
          go_wp2_with fail
          refine (rentry_any hy rhy thy T2 s.t false s.rows _ a bb _ HA.out.l2.rs.mx ⟨by omega, by omega⟩ HEp.out HEb.out).mono ?_
          rintro e w' ⟨rfl, rfl⟩
          by_cases hf : a + 4 ≤ (s.xs.length : Int)
          · have HF := Lib.hid hf
            clear hf
            go_wp2_with fail
            refine (rget_ok rhy hry s.xs a a.toNat _ HA.out.l2.rs.mem (by have := HU.out.1; omega) (by have := HU.out.1; have := HF.out; omega)).mono ?_
            rintro e w' ⟨rfl, rfl⟩
            obtain ⟨v, hv⟩ : ∃ v, Rm.val s.xs a.toNat 4 = v := ⟨_, rfl⟩
            have HV := Lib.hid hv
            rw [hv]
            clear hv
            cases bb
            case false =>
              go_wp2
              go_ret
              exact ⟨rfl, Tl.bel2 HB0.out HA.out.l1.bel⟩
            case true =>
              by_cases hve : v = en
              · subst hve
                have HNx : Hid (Chk s.t s.xs s.rows (j + 1)) := HCh.out.next (by rw [HE.out.1, HE.out.2, rdE_yes HEb.out (by rw [HEp.out]; exact HF.out), HEp.out, HV.out])
                clear HCh HV HE
                go_wp2
                go_roundw
                case rel => exact ⟨j + 1, by omega, by go_num, HNx.out, trivial⟩
                case measure => simp [intOf]; omega
              · go_wp2
                go_ret
                exact ⟨rfl, Tl.bel2 HB0.out HA.out.l1.bel⟩
          · have HF := Lib.hid hf
            clear hf
            go_wp2_with fail
            refine (rget_not rhy hry s.xs a _ HA.out.l2.rs.mem HU.out (Int.not_le.mpr HF.out)).mono ?_
            rintro e w' ⟨rfl, rfl⟩
            cases bb
            case false =>
              go_wp2
              go_ret
              exact ⟨rfl, Tl.bel2 HB0.out HA.out.l1.bel⟩
            case true =>
              go_wp2
              go_ret
              exact ⟨rfl, Tl.bel2 HB0.out HA.out.l1.bel⟩
        · have HCo : Hid (Coh s.t s.xs s.rows) := Chk.coh (by rw [HNr.out, ← show j = N by omega]; exact HCh.out)
          obtain ⟨c0, c1', c2, c3, c4, c5, c6⟩ := HC.out.cells
          obtain ⟨c7, c8, c9, c10, c11⟩ := HC.out.tabs
          simp only at c0 c1' c2 c3 c4 c5 c6 c7 c8 c9 c10 c11
          clear HCh HA1 HA2 r1' j0 j1
          go_wp2_with fail
          refine (does_any ⟨g, rg, r, tg, h, rh, hr, th⟩ S T s ⟨s.t, s.xs, []⟩ true ⟨K, va, x, nn, u, wt, D, bm, bc, tc⟩ zs _ HA.out.l1.bw (HA.out.l1.cok HO.out HCk.out.1 HCk.out.2 (Tl.bel2 HB0.out HA.out.l1.bel) HB0.out.size) (HA.out.ag HCo.out)).mono ?_
          rintro e w9 ⟨rfl, S9, T9, hB9⟩
          have HB9 := Lib.hid hB9
          have HC9 := Lib.hid (HC.out.ux HA.out.l1.bw HB9.out.st.mods (fun _ e => e))
          have HP9 := Lib.hid (HA.out.l1.pair HA.out.l2 HA.out.ap HB9.out)
          clear hB9 c0 c1' c2 c3 c4 c5 c6 c7 c8 c9 c10 c11
          obtain ⟨c0, c1', c2, c3, c4, c5, c6⟩ := HC9.out.cells
          obtain ⟨c7, c8, c9, c10, c11⟩ := HC9.out.tabs
          simp only at c0 c1' c2 c3 c4 c5 c6 c7 c8 c9 c10 c11
          go_wp2_with fail
          refine (does_any ⟨gy, rgy, ry, tgy, hy, rhy, hry, thy⟩ S2 T2 s s false ⟨K, va, x, nn, u, wt, D, bm, bc, tc⟩ zs _ HP9.out.2.1.bw (HP9.out.2.1.cok HO.out HCk.out.1 HCk.out.2 (Tl.bel2 HB0.out HP9.out.2.1.bel) HB0.out.size) (Ag.refl s)).mono ?_
          rintro e w10 ⟨rfl, S10, T10, hB10⟩
          have HQ10 := Lib.hid (HA.out.step HCo.out HO.out.va HB9.out hB10)
          have HN10 : Hid ((nx true s ⟨K, va, x, nn, u, wt, D, bm, bc, tc⟩ zs).xs.length = n) := (nx_len HO.out.va).trans HN.out
          clear hB10 HC9 HP9 HB9 c0 c1' c2 c3 c4 c5 c6 c7 c8 c9 c10 c11
          go_wp2
          go_roundw
          case rel => exact ⟨k + 1, by omega, by go_num, _, _, _, _, _, HQ10.out, HN10.out⟩
          case measure => simp [intOf]; omega
    · go_wp2_with fail
      refine (bytes_all rg r n s.xs _ HQ.out.l1.ms.mem HN.out).mono ?_
      rintro e w1 ⟨b1, rfl, hb1, hc1, hbe1⟩
      have HQ1 := Lib.hid (HQ.out.below hbe1)
      have HC1 := Lib.hid hc1
      have j0 := HQ1.out.l1.rs.mx.c0
      have j1 := HQ1.out.l1.rs.mem.cell
      simp only at j0 j1
      rw [HN.out] at j1
      obtain ⟨ss, hss⟩ : ∃ ss, Rm.str s.xs = ss := ⟨_, rfl⟩
      have HS1 : Hid (∀ w', Below w1.heap.size w1 w' → (convert 22 9 (.slice (some ⟨b1, 0, none⟩) n n)).run Try.prog w' = .ok (.string ss) w') := fun w' h => hss ▸ Rm.run_string w' _ n n s.xs ((Rm.Src.of_row HC1.out).below h) HN.out
      have HS2 : Hid (∀ w', Below w1.heap.size w1 w' → (convert 22 9 (.slice (some ⟨hr, 0, none⟩) n n)).run Try.prog w' = .ok (.string ss) w') := fun w' h => hss ▸ Rm.run_string w' _ n n s.xs ((Rm.Src.of_row HQ1.out.l1.rs.mem.row).below h) HN.out
      have s3 := HS1.out w1.drew (by go_grown)
      have s4 := HS2.out w1.drew (by go_grown)
      clear hss hb1 hc1 hbe1 HQ
      go_wp2_with fail
      go_region
      all_goals
        go_wp2
        go_ret
        exact ⟨rfl, Tl.bel2 HB0.out HQ1.out.l1.bel.drew⟩

theorem msame_walk (A : Option Addr) (n c : Nat) (t : Tabs) (B : Option Addr) (m d : Nat) (w : World) (hr : ∃ ys, In w A n c ys) (ht : t.Ok) (hj : Cls w B m d) :
    Calls Try.prog 4 #[.slice A n c, (Value.agg #[Value.int .u32 (Tabs.pb t), Value.int .u32 (Tabs.pn t), Value.int .u32 (Tabs.sb t), Value.int .u32 (Tabs.sn t), Value.int .u32 (Tabs.me t)]), .slice B m d] w fun e w' => e = .returned (.bool true) ∧ Below w.heap.size w w' := by
  obtain ⟨ys, hi⟩ := hr
  by_cases h : 8192 < n
  · exact msame_out A n c t B m d w h
  · exact msame_in A n c ys t B m d w hi ht hj (by omega)

end Go.Proofs.Ytfpdemlcmfaieaa.Cs
