/- The walk of PteBits. -/
import Derived.Test.YtifcaeifolcemaaWRights
namespace Go.Proofs.Ytifcaeifolcemaa.Cs
open Go.RowKit

theorem is_as (x : Int) (b : Bool) (hx : U x) (hb : iv x = b) (w : World) :
    Calls Try.prog 12 #[.int .u32 x] w fun e w' => e = .returned (.bool b) ∧ w = w' := hb ▸ is_any x hx w
theorem written_as (x : Int) (b : Bool) (hx : U x) (hb : im x = b) (w : World) :
    Calls Try.prog 14 #[.int .u32 x] w fun e w' => e = .returned (.bool b) ∧ w = w' := hb ▸ written_any x hx w
theorem place_as (x va p : Int) (hx : U x) (hv : U va) (hp : pl x va = p) (w : World) :
    Calls Try.prog 17 #[.int .u32 x, .int .u32 va] w fun e w' => e = .returned (.int .u32 p) ∧ w = w' := hp ▸ place_any x va hx hv w

set_option maxHeartbeats 800000 in
theorem bits_walk (x y va other : Int) (hx : (Lit.int .u32 x).wf = true) (hy : (Lit.int .u32 y).wf = true) (hv : (Lit.int .u32 va).wf = true) (ho : (Lit.int .u32 other).wf = true) (w : World) :
    Calls Try.prog 7 #[.int .u32 x, .int .u32 y, .int .u32 va, .int .u32 other] w fun e w' => e = .returned (.bool true) ∧ Below w.heap.size w w' := by
  have hx := U_of hx
  have hy := U_of hy
  have hv := U_of hv
  have ho := U_of ho
  have hv0 := hv.1
  have hv1 := hv.2
  have ho0 := ho.1
  have ho1 := ho.2
  obtain ⟨hz, hzf, hzp, hzv, hzm⟩ := same_parts hx hy
  have hq : U (va % 512 + 512 * (other % 1048576)) := ⟨by omega, by omega⟩
  obtain ⟨p, hp⟩ : ∃ p, pl x va = p := ⟨_, rfl⟩
  have hpb : 0 ≤ p := hp ▸ (pl_U x va).1
  have hpm : p % 512 = va % 512 := by rw [← hp]; unfold pl; omega
  have M := Lib.hid (fun u r => may_as x u r _ hx rfl)
  have Mz := Lib.hid (fun u r => may_as _ u r _ hz (my_eq hzp u r))
  have P1 := Lib.hid (place_as x va p hx hv hp)
  have P2 := Lib.hid (place_as _ va p hz hv ((pl_eq hzf va).trans hp))
  have P3 := Lib.hid (place_as x (va % 512 + 512 * (other % 1048576)) p hx hq (by rw [← hp]; unfold pl; omega))
  have I1 := Lib.hid (is_any x hx)
  have I2 := Lib.hid (is_as _ _ hz hzv)
  have W1 := Lib.hid (written_any x hx)
  have W2 := Lib.hid (written_as _ _ hz hzm)
  clear hz hzf hzp hzv hzm hx hy hv ho hq hp
  have i0 := idx0
  have i1 := idx1
  go_enter Try.func7, Try.ntmps7
  go_wp2_with (first
    | (go_at_call 8; refine (palive _).mono ?_; rintro e w' ⟨rfl, rfl⟩)
    | fail)
  go_loop [19] (fun i => ∃ k : Nat, k ≤ 2 ∧ i = .int .i64 k) (fun i => 2 - (intOf i).toNat)
  case atStart => exact ⟨0, by omega, rfl⟩
  case round =>
    obtain ⟨k, hk, rfl⟩ := hrel
    have h3 : k = 0 ∨ k = 1 ∨ k = 2 := by omega
    clear hk
    rcases h3 with rfl | rfl | rfl
    · go_wp2_with fail
      refine (M.out _ _ _).mono ?_
      rintro e w' ⟨rfl, rfl⟩
      go_wp2_with fail
      refine (Mz.out _ _ _).mono ?_
      rintro e w' ⟨rfl, rfl⟩
      go_wp2_with fail
      refine (M.out _ _ _).mono ?_
      rintro e w' ⟨rfl, rfl⟩
      go_wp2_with fail
      refine (Mz.out _ _ _).mono ?_
      rintro e w' ⟨rfl, rfl⟩
      go_wp2_with fail
      go_round
      case rel => exact ⟨1, by omega, rfl⟩
      case measure => simp [intOf]
    · go_wp2_with fail
      refine (M.out _ _ _).mono ?_
      rintro e w' ⟨rfl, rfl⟩
      go_wp2_with fail
      refine (Mz.out _ _ _).mono ?_
      rintro e w' ⟨rfl, rfl⟩
      go_wp2_with fail
      refine (M.out _ _ _).mono ?_
      rintro e w' ⟨rfl, rfl⟩
      go_wp2_with fail
      refine (Mz.out _ _ _).mono ?_
      rintro e w' ⟨rfl, rfl⟩
      go_wp2_with fail
      go_round
      case rel => exact ⟨2, by omega, rfl⟩
      case measure => simp [intOf]
    · go_wp2_with fail
      refine (I1.out _).mono ?_
      rintro e w' ⟨rfl, rfl⟩
      go_wp2_with fail
      refine (I2.out _).mono ?_
      rintro e w' ⟨rfl, rfl⟩
      go_wp2_with fail
      refine (W1.out _).mono ?_
      rintro e w' ⟨rfl, rfl⟩
      go_wp2_with fail
      refine (W2.out _).mono ?_
      rintro e w' ⟨rfl, rfl⟩
      go_wp2_with fail
      refine (P1.out _).mono ?_
      rintro e w' ⟨rfl, rfl⟩
      go_wp2_with fail
      refine (P2.out _).mono ?_
      rintro e w' ⟨rfl, rfl⟩
      go_wp2_with fail
      refine (P1.out _).mono ?_
      rintro e w' ⟨rfl, rfl⟩
      go_wp2_with fail
      refine (P3.out _).mono ?_
      rintro e w' ⟨rfl, rfl⟩
      go_wp2_with fail
      refine (P1.out _).mono ?_
      rintro e w' ⟨rfl, rfl⟩
      go_wp2
      go_ret
      exact ⟨rfl, Below.refl _ _⟩
end Go.Proofs.Ytifcaeifolcemaa.Cs
