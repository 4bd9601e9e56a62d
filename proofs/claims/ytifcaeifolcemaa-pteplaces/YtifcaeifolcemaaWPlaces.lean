/- The walk of PtePlaces. -/
import Derived.Test.YtifcaeifolcemaaPte
namespace Go.Proofs.Ytifcaeifolcemaa.Cs
open Go.RowKit

set_option maxHeartbeats 400000 in
theorem places_walk (x y va more : Int) (hx : (Lit.int .u32 x).wf = true) (hy : (Lit.int .u32 y).wf = true) (hv : (Lit.int .u32 va).wf = true) (hm : (Lit.int .u32 more).wf = true) (w : World) :
    Calls Try.prog 6 #[.int .u32 x, .int .u32 y, .int .u32 va, .int .u32 more] w fun e w' => e = .returned (.bool true) ∧ Below w.heap.size w w' := by
  have hx := U_of hx
  have hy := U_of hy
  have hv := U_of hv
  have hm := U_of hm
  have hv0 := hv.1
  have hv1 := hv.2
  have hm0 := hm.1
  have hm1 := hm.2
  have C1 := Lib.hid (place_any x va hx hv)
  have C2 := Lib.hid (place_any y more hy hm)
  have hr : 0 < 512 - va % 512 := by omega
  have hn0 : 0 ≤ more % (512 - va % 512) := Int.emod_nonneg _ (by omega)
  have hn1 : more % (512 - va % 512) < 512 - va % 512 := Int.emod_lt_of_pos _ hr
  have C3 := Lib.hid (place_any x (va + more % (512 - va % 512)) hx ⟨by omega, by omega⟩)
  have hp := (pl_U x va)
  have hp0 := hp.1
  have hp1 : pl x va + 512 < 4294967296 := by unfold pl; omega
  have HE := Lib.hid (show pl x (va + more % (512 - va % 512)) = pl x va + more % (512 - va % 512) by unfold pl; omega)
  have HD := Lib.hid (show pl x va = pl y more → x % 2097152 = y % 2097152 by unfold pl; omega)
  rw [HE.out] at C3
  by_cases hf : x % 2097152 = y % 2097152
  · go_enter Try.func6, Try.ntmps6
    go_wp2_with (first
      | (go_at_call 8; refine (palive _).mono ?_; rintro e w' ⟨rfl, rfl⟩)
      | fail)
    refine (C1.out _).mono ?_
    rintro e w' ⟨rfl, rfl⟩
    go_wp2_with fail
    refine (C3.out _).mono ?_
    rintro e w' ⟨rfl, rfl⟩
    go_wp2_with fail
    refine (frame_any x hx _).mono ?_
    rintro e w' ⟨rfl, rfl⟩
    go_wp2_with fail
    refine (frame_any y hy _).mono ?_
    rintro e w' ⟨rfl, rfl⟩
    go_wp2
    go_ret
    exact ⟨rfl, Below.refl _ _⟩
  · have hne : ¬ pl x va = pl y more := fun h => hf (HD.out h)
    go_enter Try.func6, Try.ntmps6
    go_wp2_with (first
      | (go_at_call 8; refine (palive _).mono ?_; rintro e w' ⟨rfl, rfl⟩)
      | fail)
    refine (C1.out _).mono ?_
    rintro e w' ⟨rfl, rfl⟩
    go_wp2_with fail
    refine (C3.out _).mono ?_
    rintro e w' ⟨rfl, rfl⟩
    go_wp2_with fail
    refine (frame_any x hx _).mono ?_
    rintro e w' ⟨rfl, rfl⟩
    go_wp2_with fail
    refine (frame_any y hy _).mono ?_
    rintro e w' ⟨rfl, rfl⟩
    go_wp2_with fail
    refine (C1.out _).mono ?_
    rintro e w' ⟨rfl, rfl⟩
    go_wp2_with fail
    refine (C2.out _).mono ?_
    rintro e w' ⟨rfl, rfl⟩
    go_wp2
    go_ret
    exact ⟨ret_bool (by simp [hne]), Below.refl _ _⟩
end Go.Proofs.Ytifcaeifolcemaa.Cs
