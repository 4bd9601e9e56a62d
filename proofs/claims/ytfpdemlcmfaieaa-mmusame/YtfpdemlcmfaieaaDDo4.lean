/- A call on both: Put. -/
import Derived.Test.YtfpdemlcmfaieaaDDo3
import Derived.Deep.RegionHeld3
namespace Go.Proofs.Ytfpdemlcmfaieaa.Cs
open Go.RowKit

theorem r8_low {w : World} {v : Value} {x : Int} {mm : Nat} (h : R8 w v (Rm.low x mm)) : ∃ A c, v = .slice A mm c := by
  obtain ⟨A, c, e⟩ := h.shape
  rw [Rm.low_length] at e
  exact ⟨A, c, e⟩
theorem sl_low {W : World} {h rh hr th : Nat} {T : Nat → Prop} {t : Tabs} {pl : Bool} {rows : Rows} {xs : List Int} {A : Option Addr} {c mm : Nat} {x : Int} (h8 : R8 W (.slice A mm c) (Rm.low x mm)) (hrs : Rs W h rh hr th T t pl rows xs) (hlt : ∀ k, Tl.Bl (.slice A mm c) k → hr < k) :
    Sl W (Rg T hr) A c (Rm.low x mm) := by
  rcases Tl.own_shape h8 with ⟨e, h0⟩ | ⟨r, cap, e, hc, hm, hrl, _, _⟩
  · rw [Rm.low_length] at h0
    subst h0
    injection e with _ _ e3
    subst e3
    exact Sl.none
  · injection e with e1 e2 e3
    subst e1 e3
    refine ⟨h8.src, Rm.low_byt _ _, hc, hm, fun _ ad e => ?_⟩
    injection e with e
    subst e
    have hB : Tl.Bl (.slice (some ⟨r, 0, none⟩) mm c) r := rfl
    refine ⟨fun e => ?_, hrl⟩
    rcases e with e | e
    · exact rf_not hrs.mx.rf (R8.typ h8 hB) (by decide) (by decide) e
    · have := hlt r hB
      simp at e
      omega

set_option maxRecDepth 100000 in
set_option maxHeartbeats 4000000 in
theorem does_1 (d : Ids) (S T : Nat → Prop) (t : Tabs) (xs : List Int) (rows rows2 : Rows) (pl : Bool) (va x n : Int) (u wt : Bool) (A : Option Addr) (m cc : Nat) (tc : Tabs) (w : World) (b : Bw w d S T S T ⟨t, xs, rows⟩ ⟨t, xs, rows2⟩ pl w) (hv : U va) (a : Acc) (r1 r2 : Rows) (mm : Nat) (hW1 : walk t xs u true true rows [] va mm = (a, r1)) (hW2 : walk t xs u true (true && !pl) rows2 [] va mm = (a, r2)) (hmm : (max 0 (min n 4)) = (mm : Int)) (hx : U x) :
    Calls Try.prog 18 #[(Value.pointer (some ⟨d.rg, 0, none⟩)), (Value.pointer (some ⟨d.g, 0, none⟩)), (Value.pointer (some ⟨d.h, 0, none⟩)), .agg #[.int .i64 1, .int .u32 va, .int .u32 x, .int .i64 n, .bool u, .bool wt, .slice A m cc, .int .u32 tc.pb, .int .u32 tc.pn, .int .u32 tc.sb, .int .u32 tc.sn, .int .u32 tc.me]] w fun e w' => e = .returned (.bool true) ∧ ∃ S' T', Bw w d S T S' T' ⟨t, stM t xs r1 (Rm.low x mm) a, stR t xs r1 a⟩ ⟨t, stM t xs r2 (Rm.low x mm) a, stR t xs r2 a⟩ pl w' := by
  have HC := Lib.hid (Cq.new (W := w) (c := ⟨1, va, x, n, u, wt, A, m, cc, tc⟩))
  dsimp only at HC
  have HB : Hid (Bw w d S T S T ⟨t, xs, rows⟩ ⟨t, xs, rows2⟩ pl (w.alloc (.cells #[.int .i64 1, .int .u32 va, .int .u32 x, .int .i64 n, .bool u, .bool wt, .slice A m cc, .int .u32 tc.pb, .int .u32 tc.pn, .int .u32 tc.sb, .int .u32 tc.sn, .int .u32 tc.me] 45))) := b.below (by go_grown)
  have HV := Lib.hid hv
  clear b
  have HW1 := Lib.hid hW1
  have HW2 := Lib.hid hW2
  have HMM := Lib.hid hmm
  have HX := Lib.hid hx
  have hm4 : mm ≤ 4 := by omega
  clear hv hW1 hW2 hmm hx
  obtain ⟨k0, k1, k2, k3, k4, k5, k6⟩ := HC.out.cells
  go_enter Try.func18, Try.ntmps18
  go_wp2_with fail
  generalize w.alloc (.cells #[.int .i64 1, .int .u32 va, .int .u32 x, .int .i64 n, .bool u, .bool wt, .slice A m cc, .int .u32 tc.pb, .int .u32 tc.pn, .int .u32 tc.sb, .int .u32 tc.sn, .int .u32 tc.me] 45) = W at HC HB k0 k1 k2 k3 k4 k5 k6 ⊢
  have HPt := Lib.hid (fun W1 (hms : Ms W1 d.g d.rg d.r d.tg S t rows xs) => put_any d.g d.rg d.tg d.r S t rows r1 xs a va x n mm u W1 hms HV.out HMM.out HW1.out)
  have HBt := Lib.hid (fun W1 => rbytes_any x n mm HX.out HMM.out W1)
  have HSr := Lib.hid (fun A4 c4 W1 (hrs : Rs W1 d.h d.rh d.hr d.th T t pl rows2 xs) (hsl : Sl W1 (Rg T d.hr) A4 c4 (Rm.low x mm)) => rstore_any d.h d.rh d.hr d.th T t pl rows2 r2 xs (Rm.low x mm) a va u A4 mm c4 W1 hrs HV.out (Rm.low_length x mm) (by omega) hsl HW2.out)
  generalize fk a = K1 at *
  generalize fa a = V1 at *
  generalize fi a = I1 at *
  go_region_held3 (fun w' => w'.cell? ⟨w.heap.size, 1, none⟩ = some (.int .u32 va) ∧ w'.cell? ⟨w.heap.size, 2, none⟩ = some (.int .u32 x) ∧ w'.cell? ⟨w.heap.size, 3, none⟩ = some (.int .i64 n) ∧ w'.cell? ⟨w.heap.size, 4, none⟩ = some (.bool u))
    (first | exact ⟨(((((HC.out.below (by go_grown)).ux (HB.out.below (by go_grown)) hs1.mods ux1).below (by go_grown)).below hb4).ux ((((HB.out.below (by go_grown)).one (s' := ⟨t, stM t xs r1 (Rm.low x mm) a, stR t xs r1 a⟩) hm1' hs1).below (by go_grown)).below hb4) hs2.mods ux2).cells.2.1, (((((HC.out.below (by go_grown)).ux (HB.out.below (by go_grown)) hs1.mods ux1).below (by go_grown)).below hb4).ux ((((HB.out.below (by go_grown)).one (s' := ⟨t, stM t xs r1 (Rm.low x mm) a, stR t xs r1 a⟩) hm1' hs1).below (by go_grown)).below hb4) hs2.mods ux2).cells.2.2.1, (((((HC.out.below (by go_grown)).ux (HB.out.below (by go_grown)) hs1.mods ux1).below (by go_grown)).below hb4).ux ((((HB.out.below (by go_grown)).one (s' := ⟨t, stM t xs r1 (Rm.low x mm) a, stR t xs r1 a⟩) hm1' hs1).below (by go_grown)).below hb4) hs2.mods ux2).cells.2.2.2.1, (((((HC.out.below (by go_grown)).ux (HB.out.below (by go_grown)) hs1.mods ux1).below (by go_grown)).below hb4).ux ((((HB.out.below (by go_grown)).one (s' := ⟨t, stM t xs r1 (Rm.low x mm) a, stR t xs r1 a⟩) hm1' hs1).below (by go_grown)).below hb4) hs2.mods ux2).cells.2.2.2.2.1⟩ | exact ⟨(((((HC.out.below (by go_grown)).ux (HB.out.below (by go_grown)) hs1.mods ux1).below (by go_grown)).below hb4)).cells.2.1, (((((HC.out.below (by go_grown)).ux (HB.out.below (by go_grown)) hs1.mods ux1).below (by go_grown)).below hb4)).cells.2.2.1, (((((HC.out.below (by go_grown)).ux (HB.out.below (by go_grown)) hs1.mods ux1).below (by go_grown)).below hb4)).cells.2.2.2.1, (((((HC.out.below (by go_grown)).ux (HB.out.below (by go_grown)) hs1.mods ux1).below (by go_grown)).below hb4)).cells.2.2.2.2.1⟩ | exact ⟨((HC.out.below (by go_grown)).ux (HB.out.below (by go_grown)) hs1.mods ux1).cells.2.1, ((HC.out.below (by go_grown)).ux (HB.out.below (by go_grown)) hs1.mods ux1).cells.2.2.1, ((HC.out.below (by go_grown)).ux (HB.out.below (by go_grown)) hs1.mods ux1).cells.2.2.2.1, ((HC.out.below (by go_grown)).ux (HB.out.below (by go_grown)) hs1.mods ux1).cells.2.2.2.2.1⟩ | exact ⟨k1, k2, k3, k4⟩ | go_keep)
    (first | (go_at_call 34; refine (HPt.out _ (HB.out.ms.below (by go_grown))).mono ?_; rintro e w1 ⟨rfl, S1, hm1', hs1⟩) | (go_at_call 43; refine (HBt.out _).mono ?_; rintro e w4 ⟨v4, rfl, hr4, hab4, hb4⟩; obtain ⟨A4, c4, rfl⟩ := r8_low hr4) | (go_at_call 42; refine (HSr.out A4 c4 _ ((((HB.out.below (by go_grown)).one (s' := ⟨t, stM t xs r1 (Rm.low x mm) a, stR t xs r1 a⟩) hm1' hs1).below (by go_grown)).below hb4).rs (sl_low hr4 ((((HB.out.below (by go_grown)).one (s' := ⟨t, stM t xs r1 (Rm.low x mm) a, stR t xs r1 a⟩) hm1' hs1).below (by go_grown)).below hb4).rs (fun k hk => by have h1 := hab4 k hk; have h2 := (((HB.out.below (by go_grown)).one (s' := ⟨t, stM t xs r1 (Rm.low x mm) a, stR t xs r1 a⟩) hm1' hs1).below (by go_grown)).rs.mem.rlt; exact Nat.lt_of_lt_of_le h2 h1))).mono ?_; rintro e w2 ⟨rfl, T2, hm2', hs2⟩))
  go_wp2
  go_ret
  exact ⟨rfl, S1, T2, ((((HB.out.below (by go_grown)).one (s' := ⟨t, stM t xs r1 (Rm.low x mm) a, stR t xs r1 a⟩) hm1' hs1).below (by go_grown)).below hb4).two (s' := ⟨t, stM t xs r2 (Rm.low x mm) a, stR t xs r2 a⟩) hm2' hs2⟩

end Go.Proofs.Ytfpdemlcmfaieaa.Cs
