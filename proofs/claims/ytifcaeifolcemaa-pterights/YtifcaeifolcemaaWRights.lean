/- The walk of PteRights. -/
import Derived.Test.YtifcaeifolcemaaPte
namespace Go.Proofs.Ytifcaeifolcemaa.Cs
open Go.RowKit

/-- may_any, with its answer named -/
theorem may_as (x : Int) (u r b : Bool) (hx : U x) (hb : my x u r = b) (w : World) :
    Calls Try.prog 15 #[.int .u32 x, .bool u, .bool r] w fun e w' => e = .returned (.bool b) ∧ w = w' := hb ▸ may_any x u r hx w

theorem idx0 : ∀ w, (Instr.index 33 (.agg #[.bool false, .bool true]) (.int .i64 0)).run Try.prog w = .ok (.bool false) w := fun _ => by kernel_rfl
theorem idx1 : ∀ w, (Instr.index 33 (.agg #[.bool false, .bool true]) (.int .i64 1)).run Try.prog w = .ok (.bool true) w := fun _ => by kernel_rfl

set_option maxHeartbeats 800000 in
theorem rights_walk (x : Int) (hx : (Lit.int .u32 x).wf = true) (w : World) :
    Calls Try.prog 5 #[.int .u32 x] w fun e w' => e = .returned (.bool true) ∧ Below w.heap.size w w' := by
  have hx := U_of hx
  obtain ⟨hz, he⟩ := same_rights hx
  have HE := Lib.hid (fun u b h => (my_eq he u true).trans (b := my x u true) (c := b) h)
  clear he
  have HR := Lib.hid (fun u h => my_read (x := x) u h)
  have HK := Lib.hid (fun r h => my_kernel (x := x) r h)
  have i0 := idx0
  have i1 := idx1
  go_enter Try.func5, Try.ntmps5
  go_wp2_with (first
    | (go_at_call 8; refine (palive _).mono ?_; rintro e w' ⟨rfl, rfl⟩)
    | fail)
  go_loop [10] (fun i => ∃ k : Nat, k ≤ 2 ∧ i = .int .i64 k) (fun i => 2 - (intOf i).toNat)
  case atStart => exact ⟨0, by omega, rfl⟩
  case round =>
    obtain ⟨k, hk, rfl⟩ := hrel
    have h3 : k = 0 ∨ k = 1 ∨ k = 2 := by omega
    clear hk
    rcases h3 with rfl | rfl | rfl
    · cases hb : my x false true
      · have hb2 := HE.out _ _ hb
        go_wp2_with (go_at_call 15; refine (may_as _ _ _ _ (by assumption) (by assumption) _).mono ?_; rintro e w' ⟨rfl, rfl⟩)
        go_round
        case rel => exact ⟨1, by omega, rfl⟩
        case measure => simp [intOf]
      · have hb2 := HE.out _ _ hb
        have hb3 := HR.out _ hb
        go_wp2_with (go_at_call 15; refine (may_as _ _ _ _ (by assumption) (by assumption) _).mono ?_; rintro e w' ⟨rfl, rfl⟩)
        go_round
        case rel => exact ⟨1, by omega, rfl⟩
        case measure => simp [intOf]
    · cases hb : my x true true
      · have hb2 := HE.out _ _ hb
        go_wp2_with (go_at_call 15; refine (may_as _ _ _ _ (by assumption) (by assumption) _).mono ?_; rintro e w' ⟨rfl, rfl⟩)
        go_round
        case rel => exact ⟨2, by omega, rfl⟩
        case measure => simp [intOf]
      · have hb2 := HE.out _ _ hb
        have hb3 := HR.out _ hb
        go_wp2_with (go_at_call 15; refine (may_as _ _ _ _ (by assumption) (by assumption) _).mono ?_; rintro e w' ⟨rfl, rfl⟩)
        go_round
        case rel => exact ⟨2, by omega, rfl⟩
        case measure => simp [intOf]
    · clear hz HE HR
      go_wp2
      go_loop [35] (fun i => ∃ k : Nat, k ≤ 2 ∧ i = .int .i64 k) (fun i => 2 - (intOf i).toNat)
      case atStart => exact ⟨0, by omega, rfl⟩
      case round =>
        obtain ⟨k, hk, rfl⟩ := hrel
        have h3 : k = 0 ∨ k = 1 ∨ k = 2 := by omega
        clear hk
        rcases h3 with rfl | rfl | rfl
        · cases hb : my x true false
          · go_wp2_with (go_at_call 15; refine (may_as _ _ _ _ (by assumption) (by assumption) _).mono ?_; rintro e w' ⟨rfl, rfl⟩)
            go_round
            case rel => exact ⟨1, by omega, rfl⟩
            case measure => simp [intOf]
          · have hb3 := HK.out _ hb
            go_wp2_with (go_at_call 15; refine (may_as _ _ _ _ (by assumption) (by assumption) _).mono ?_; rintro e w' ⟨rfl, rfl⟩)
            go_round
            case rel => exact ⟨1, by omega, rfl⟩
            case measure => simp [intOf]
        · cases hb : my x true true
          · go_wp2_with (go_at_call 15; refine (may_as _ _ _ _ (by assumption) (by assumption) _).mono ?_; rintro e w' ⟨rfl, rfl⟩)
            go_round
            case rel => exact ⟨2, by omega, rfl⟩
            case measure => simp [intOf]
          · have hb3 := HK.out _ hb
            go_wp2_with (go_at_call 15; refine (may_as _ _ _ _ (by assumption) (by assumption) _).mono ?_; rintro e w' ⟨rfl, rfl⟩)
            go_round
            case rel => exact ⟨2, by omega, rfl⟩
            case measure => simp [intOf]
        · go_wp2
          go_ret
          exact ⟨rfl, Below.refl _ _⟩
end Go.Proofs.Ytifcaeifolcemaa.Cs
