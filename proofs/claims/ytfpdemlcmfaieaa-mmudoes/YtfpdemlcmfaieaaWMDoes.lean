/- The walk of MmuDoes. -/
import Derived.Test.YtfpdemlcmfaieaaDTop
import Derived.Test.YtfpdemlcmfaieaaDSame
namespace Go.Proofs.Ytfpdemlcmfaieaa.Cs
open Go.RowKit

set_option maxHeartbeats 400000 in
theorem mdoes_out (A : Option Addr) (n c : Nat) (t : Tabs) (B : Option Addr) (m d : Nat) (w : World) (h : 8192 < n) :
    Calls Try.prog 3 #[.slice A n c, (Value.agg #[Value.int .u32 (Tabs.pb t), Value.int .u32 (Tabs.pn t), Value.int .u32 (Tabs.sb t), Value.int .u32 (Tabs.sn t), Value.int .u32 (Tabs.me t)]), .slice B m d] w fun e w' => e = .returned (.bool true) ∧ Below w.heap.size w w' := by
  have h1' : (8192 : Int) < (n : Int) := by omega
  clear h
  go_enter Try.func3, Try.ntmps3
  go_wp2_with fail
  refine (alive _).mono ?_
  rintro e w1 ⟨rfl, hb1⟩
  have hb := Tl.bel2 (a := w) (by go_grown) hb1
  go_wp2
  go_ret
  exact ⟨rfl, hb⟩

set_option maxRecDepth 100000 in
set_option maxHeartbeats 4000000 in
theorem mdoes_in (A : Option Addr) (n c : Nat) (ys : List Int) (t : Tabs) (B : Option Addr) (m d : Nat) (w : World) (hi : In w A n c ys) (ht : t.Ok) (hj : Cls w B m d) (hn : n ≤ 8192) :
    Calls Try.prog 3 #[.slice A n c, (Value.agg #[Value.int .u32 (Tabs.pb t), Value.int .u32 (Tabs.pn t), Value.int .u32 (Tabs.sb t), Value.int .u32 (Tabs.sn t), Value.int .u32 (Tabs.me t)]), .slice B m d] w fun e w' => e = .returned (.bool true) ∧ Below w.heap.size w w' := by
  have g1 : ¬ (8192 : Int) < (n : Int) := by omega
  have HI := Lib.hid hi
  have HJ := Lib.hid hj
  have HTk := Lib.hid ht
  clear hi ht hj
  go_enter Try.func3, Try.ntmps3
  go_wp2_with fail
  refine (alive _).mono ?_
  rintro e w00 ⟨rfl, hb0⟩
  have HTt0 := Lib.hid (Tt.below Tt.new hb0)
  have HB00 := Lib.hid (Tl.bel2 (a := w) (by go_grown) hb0)
  clear hb0
  go_wp2_with fail
  refine (great_any B m d w _ HJ.out HB00.out).mono ?_
  rintro e w0 ⟨b, rfl, hg, hb0⟩
  have HTt := Lib.hid (HTt0.out.below hb0)
  have HB0 := Lib.hid (Tl.bel2 HB00.out hb0)
  clear hb0 HB00 HTt0
  cases b
  case true =>
    go_wp2
    go_ret
    exact ⟨rfl, HB0.out⟩
  obtain ⟨h60, hsm⟩ := hg rfl
  have HS := Lib.hid hsm
  clear hg hsm
  go_wp2_with fail
  refine (Rm.new_any n _).mono ?_
  rintro e w1 ⟨rg, r, rfl, h1, h2, hm, hb1⟩
  rw [Rm.sized_nat n (by omega)] at hm
  have HM := Lib.hid hm
  have HR := Lib.hid h2
  have HB1 := Lib.hid hb1
  clear h1 h2 hm hb1
  go_wp2_with fail
  refine (rnew_any n hn _).mono ?_
  rintro e w2 ⟨rh, hr, rfl, _, h2, hm, hb2⟩
  have HP := Lib.hid (Pr.make HM.out HR.out HB1.out hm h2 hb2)
  clear h2 hm hb2 HM HR HB1
  go_wp2_with fail
  refine (load_whole rg r n c A ys _ HP.out.mem (HI.out.below (Tl.bel2 HB0.out HP.out.bel))).mono ?_
  rintro e w3 ⟨rfl, hm3, hg3⟩
  have HP3 := Lib.hid (HP.out.load1 hm3 hg3)
  clear hm3 hg3 HP
  go_wp2_with fail
  refine (rload_whole rh hr n c A ys _ HP3.out.rb (HI.out.below (Tl.bel2 HB0.out HP3.out.bel)) (fun ad e h0 => ?_) hn).mono ?_
  · obtain ⟨ad', e', hl, _⟩ := HI.out.src (by rw [HI.out.len]; exact h0)
    rw [e] at e'
    injection e' with e'
    subst e'
    have := HB0.out.size
    have := HP3.out.a2
    omega
  rintro e w4 ⟨rfl, hm4, hg4⟩
  have HP4 := Lib.hid (HP3.out.load2 hm4 hg4)
  clear hm4 hg4 HP3
  go_wp2_with fail
  refine (mnew_any rg _).mono ?_
  rintro e w5 ⟨g, tg, S, rfl, h5, _, hx, hA, hb5⟩
  have HX := Lib.hid (And.intro h5 (And.intro hx (And.intro hA hb5)))
  clear h5 hx hA hb5
  go_wp2_with fail
  refine (rmnew_any rh _).mono ?_
  rintro e w6 ⟨h, th, T, rfl, h6, hx6, hT, hb6⟩
  have HL := Lib.hid (Lq.make HP4.out HX.out.2.1 HX.out.1 HX.out.2.2.1 HX.out.2.2.2 hx6 h6 hT hb6)
  clear h6 hx6 hT hb6 HX HP4
  have HTt6 := Lib.hid (HTt.out.below HL.out.bel)
  obtain ⟨q0, q1, q2, q3, q4⟩ := HTt6.out.cells
  go_wp2_with fail
  refine (set_any g rg tg S noTabs t [] _ HL.out.ms.mx HTk.out).mono ?_
  rintro e w7 ⟨rfl, S7, hx7, hs7⟩
  have HL7 := Lib.hid (HL.out.step (HL.out.bw.set hx7 hs7))
  clear hx7 hs7 HL HTt6 q0 q1 q2 q3 q4
  have HTt7 := Lib.hid (HTt.out.below HL7.out.bel)
  obtain ⟨q0, q1, q2, q3, q4⟩ := HTt7.out.cells
  have f2 := frozen_of_row w7 h 2 _ _ HL7.out.rs.mx.box
  have f3 := frozen_of_row w7 h 3 _ _ HL7.out.rs.mx.box
  have f4 := frozen_of_row w7 h 4 _ _ HL7.out.rs.mx.box
  have f5 := frozen_of_row w7 h 5 _ _ HL7.out.rs.mx.box
  have f6 := frozen_of_row w7 h 6 _ _ HL7.out.rs.mx.box
  have k2 := HL7.out.rs.mx.c2
  have k3 := HL7.out.rs.mx.c3
  have k4 := HL7.out.rs.mx.c4
  have k5 := HL7.out.rs.mx.c5
  have k6 := HL7.out.rs.mx.c6
  have HL8 := Lib.hid (HL7.out.step (HL7.out.bw.rtabs HTk.out))
  clear HL7 HTt7
  go_wp2_with fail
  go_loopw [53] (fun i W => ∃ k : Nat, k ≤ m ∧ i = .int .i64 k ∧ ∃ S T s, Lq w0 ⟨g, rg, r, tg, h, rh, hr, th⟩ S T s s false W) (fun i _ => m - (intOf i).toNat)
  case atStart => exact ⟨0, Nat.zero_le _, rfl, _, _, _, HL8.out⟩
  case round =>
    clear HL8 q0 q1 q2 q3 q4 f2 f3 f4 f5 f6 k2 k3 k4 k5 k6
    obtain ⟨k, hk, rfl, S, T, s, hL⟩ := hrel
    have HL := Lib.hid hL
    clear hL
    by_cases hlt : k < m
    · obtain ⟨ad, c1, zs, rfl, hone, hcn, hcm⟩ := HS.out k hlt
      have HO := Lib.hid hone
      have HW := Lib.hid (Tl.bel2 HB0.out HL.out.bel)
      obtain ⟨b, o, sp, ha, hat⟩ := HO.out.at_ HW.out
      obtain ⟨c0, c1', c2, c3, c4, c5, c6, c7, c8, c9, c10, c11⟩ := hat
      have HCk := Lib.hid (And.intro hcn hcm)
      obtain ⟨K, va, x, nn, u, wt, D, bm, bc, tc⟩ := c1
      simp only at c0 c1' c2 c3 c4 c5 c6 c7 c8 c9 c10 c11
      clear hone hcn hcm HW
      go_wp2_with fail
      refine (does_any ⟨g, rg, r, tg, h, rh, hr, th⟩ S T s s false ⟨K, va, x, nn, u, wt, D, bm, bc, tc⟩ zs _ (HL.out.below (by go_grown)).bw ((HL.out.below (by go_grown)).cok HO.out HCk.out.1 HCk.out.2 (Tl.bel2 HB0.out (HL.out.below (by go_grown)).bel) HB0.out.size) (Ag.refl s)).mono ?_
      rintro e w9 ⟨rfl, S9, T9, hB9⟩
      have HL9 : Hid (Lq w0 ⟨g, rg, r, tg, h, rh, hr, th⟩ S9 T9 _ _ false w9) := (HL.out.below (by go_grown)).step hB9
      clear hB9 HL
      go_wp2_with fail
      refine (same_any ⟨g, rg, r, tg, h, rh, hr, th⟩ S9 T9 _ _ _ false _ HL9.out.bw).mono ?_
      rintro e w10 ⟨rfl, hb10⟩
      have HL10 := Lib.hid (HL9.out.below hb10)
      clear hb10 HL9
      go_wp2
      go_roundw
      case rel => exact ⟨k + 1, by omega, by go_num, _, _, _, HL10.out⟩
      case measure => simp [intOf]; omega
    · have HTt9 := Lib.hid (HTt.out.below HL.out.bel)
      have HB9 := Lib.hid (Tl.bel2 HB0.out HL.out.bel)
      clear HL HTt HB0
      obtain ⟨q0, q1, q2, q3, q4⟩ := HTt9.out.cells
      go_wp2_with fail
      refine (set_nil _ t rfl _).mono ?_
      rintro e v1 ⟨rfl, hb1⟩
      have HB1 := Lib.hid (Tl.bel2 HB9.out hb1)
      clear hb1 HB9 HTt9 q0 q1 q2 q3 q4
      go_wp2_with fail
      refine (clear_nil _).mono ?_
      rintro e v1' ⟨rfl, rfl⟩
      go_wp2_with fail
      refine (drop_nil 0 _).mono ?_
      rintro e v1' ⟨rfl, rfl⟩
      go_wp2_with fail
      refine (load_nil 7 1 true _).mono ?_
      rintro e v2 ⟨rfl, hb2⟩
      have HB2 := Lib.hid (Tl.bel2 HB1.out hb2)
      clear hb2 HB1
      go_wp2_with fail
      refine (peek_nil 7 true _).mono ?_
      rintro e v3 ⟨rfl, hb3⟩
      have HF1 : Hid (Fv v3 v2.heap.size 1 7 0) := Fv.below Fv.new hb3
      have HB3 := Lib.hid (Tl.bel2 (Tl.bel2 HB2.out (by go_grown)) hb3)
      clear hb3 HB2
      obtain ⟨c0, c1, c2, _, _, _⟩ := HF1.out.cells
      have hz := HF1.out.lt
      go_wp2_with fail
      have HG1 : Hid (Fv ((v3.alloc (.cells #[.int .i64 1, .int .u32 7, .int .u32 0] 50)).alloc (.cells #[.int .i64 1, .int .u32 7, .int .u32 0] 50)) v2.heap.size 1 7 0) := Fv.below (Fv.below HF1.out (by go_grown)) (by go_grown)
      have HG2 : Hid (Fv ((v3.alloc (.cells #[.int .i64 1, .int .u32 7, .int .u32 0] 50)).alloc (.cells #[.int .i64 1, .int .u32 7, .int .u32 0] 50)) v3.heap.size 1 7 0) := Fv.below Fv.new (by go_grown)
      have HG3 : Hid (Fv ((v3.alloc (.cells #[.int .i64 1, .int .u32 7, .int .u32 0] 50)).alloc (.cells #[.int .i64 1, .int .u32 7, .int .u32 0] 50)) (v3.heap.size + 1) 1 7 0) := by
        have := Fv.new (W := v3.alloc (.cells #[.int .i64 1, .int .u32 7, .int .u32 0] 50)) (k := 1) (va := 7) (i := 0)
        exact Lib.hid (by simpa using this)
      have HB4 : Hid (Below w.heap.size w ((v3.alloc (.cells #[.int .i64 1, .int .u32 7, .int .u32 0] 50)).alloc (.cells #[.int .i64 1, .int .u32 7, .int .u32 0] 50))) := Tl.bel2 HB3.out (by go_grown)
      generalize ((v3.alloc (.cells #[.int .i64 1, .int .u32 7, .int .u32 0] 50)).alloc (.cells #[.int .i64 1, .int .u32 7, .int .u32 0] 50)) = v4 at *
      generalize v3.heap.size + 1 = F3 at *
      generalize v3.heap.size = F2 at *
      generalize v2.heap.size = F1 at *
      have HK : Hid (∀ W, Below v4.heap.size v4 W → (fun w' => w'.cell? ⟨F1, 0, none⟩ = some (.int .i64 1) ∧ w'.cell? ⟨F1, 1, none⟩ = some (.int .u32 7) ∧ w'.cell? ⟨F1, 2, none⟩ = some (.int .u32 0) ∧ w'.cell? ⟨F2, 0, none⟩ = some (.int .i64 1) ∧ w'.cell? ⟨F2, 1, none⟩ = some (.int .u32 7) ∧ w'.cell? ⟨F2, 2, none⟩ = some (.int .u32 0) ∧ w'.cell? ⟨F3, 0, none⟩ = some (.int .i64 1) ∧ w'.cell? ⟨F3, 1, none⟩ = some (.int .u32 7) ∧ w'.cell? ⟨F3, 2, none⟩ = some (.int .u32 0)) W) := fun W hb => by
        obtain ⟨a0, a1, a2, _, _, _⟩ := (HG1.out.below hb).cells
        obtain ⟨b0, b1, b2, _, _, _⟩ := (HG2.out.below hb).cells
        obtain ⟨d0, d1, d2, _, _, _⟩ := (HG3.out.below hb).cells
        exact ⟨a0, a1, a2, b0, b1, b2, d0, d1, d2⟩
      clear c0 c1 c2 hz HF1 HB3
      have HE0 : Hid (Below v4.heap.size v4 v4.drew) := (Below.refl _ _).drew
      obtain ⟨a0, a1, a2, b0, b1, b2, d0, d1, d2⟩ := HK.out v4 (Below.refl _ _)
      go_region_held3 (fun w' => w'.cell? ⟨F1, 0, none⟩ = some (.int .i64 1) ∧ w'.cell? ⟨F1, 1, none⟩ = some (.int .u32 7) ∧ w'.cell? ⟨F1, 2, none⟩ = some (.int .u32 0) ∧ w'.cell? ⟨F2, 0, none⟩ = some (.int .i64 1) ∧ w'.cell? ⟨F2, 1, none⟩ = some (.int .u32 7) ∧ w'.cell? ⟨F2, 2, none⟩ = some (.int .u32 0) ∧ w'.cell? ⟨F3, 0, none⟩ = some (.int .i64 1) ∧ w'.cell? ⟨F3, 1, none⟩ = some (.int .u32 7) ∧ w'.cell? ⟨F3, 2, none⟩ = some (.int .u32 0))
        (first | exact HK.out _ HE7.out | exact HK.out _ HE6.out | exact HK.out _ (HE5.out.alloc HE5.out.size _) | exact HK.out _ HE5.out | exact HK.out _ HE0.out | go_keep)
        (first | (go_at_call 24; refine (probe_nil 7 1 true true _).mono ?_; rintro e w5 ⟨rfl, hbe5⟩; have HE5 : Hid (Below v4.heap.size v4 w5) := Tl.bel2 (by go_grown) hbe5) | (go_at_call 25; refine (store_nil 7 true _ _ _ _).mono ?_; rintro e w6 ⟨rfl, hbe6⟩; have HE6 : Hid (Below v4.heap.size v4 w6) := Tl.bel2 (HE5.out.alloc HE5.out.size _) hbe6) | (go_at_call 26; refine (tables_nil _).mono ?_; rintro e w7 ⟨rfl, hbe7⟩; have HE7 : Hid (Below v4.heap.size v4 w7) := Tl.bel2 HE6.out hbe7) | (go_at_call 27; refine (buffered_nil _).mono ?_; rintro e w8 ⟨rfl, rfl⟩))
      all_goals
        go_wp2
        go_ret
        exact ⟨rfl, Tl.bel2 HB4.out HE7.out⟩

theorem mdoes_walk (A : Option Addr) (n c : Nat) (t : Tabs) (B : Option Addr) (m d : Nat) (w : World) (hr : ∃ ys, In w A n c ys) (ht : t.Ok) (hj : Cls w B m d) :
    Calls Try.prog 3 #[.slice A n c, (Value.agg #[Value.int .u32 (Tabs.pb t), Value.int .u32 (Tabs.pn t), Value.int .u32 (Tabs.sb t), Value.int .u32 (Tabs.sn t), Value.int .u32 (Tabs.me t)]), .slice B m d] w fun e w' => e = .returned (.bool true) ∧ Below w.heap.size w w' := by
  obtain ⟨ys, hi⟩ := hr
  by_cases h : 8192 < n
  · exact mdoes_out A n c t B m d w h
  · exact mdoes_in A n c ys t B m d w hi ht hj (by omega)

end Go.Proofs.Ytfpdemlcmfaieaa.Cs
