/- The walks of PteReads and PteMakes. -/
import Derived.Test.YtifcaeifolcemaaPte
namespace Go.Proofs.Ytifcaeifolcemaa.Cs
open Go.RowKit

set_option maxHeartbeats 400000 in
theorem reads_walk (x va : Int) (u r : Bool) (hx : (Lit.int .u32 x).wf = true) (hv : (Lit.int .u32 va).wf = true) (w : World) :
    Calls Try.prog 3 #[.int .u32 x, .int .u32 va, .bool u, .bool r] w fun e w' => e = .returned (.bool true) ∧ Below w.heap.size w w' := by
  have hx := U_of hx
  have hv := U_of hv
  have h0 := hx.1
  have h1 := hx.2
  go_enter Try.func3, Try.ntmps3
  go_wp2_with (first
    | (go_at_call 8; refine (palive _).mono ?_; rintro e w' ⟨rfl, rfl⟩)
    | (go_at_call 9; refine (prot_any _ hx _).mono ?_; rintro e w' ⟨rfl, rfl⟩)
    | (go_at_call 10; refine (rprot_any _ hx _).mono ?_; rintro e w' ⟨rfl, rfl⟩)
    | (go_at_call 11; refine (frame_any _ hx _).mono ?_; rintro e w' ⟨rfl, rfl⟩)
    | (go_at_call 12; refine (is_any _ hx _).mono ?_; rintro e w' ⟨rfl, rfl⟩)
    | fail)
  refine (rbit31 _ hx _).mono ?_
  rintro e w' ⟨rfl, rfl⟩
  go_wp2_with (first
    | (go_at_call 14; refine (written_any _ hx _).mono ?_; rintro e w' ⟨rfl, rfl⟩)
    | fail)
  refine (rbit26 _ hx _).mono ?_
  rintro e w' ⟨rfl, rfl⟩
  go_wp2_with (first
    | (go_at_call 15; refine (may_any _ _ _ hx _).mono ?_; rintro e w' ⟨rfl, rfl⟩)
    | (go_at_call 16; refine (rmay_any _ _ _ hx _).mono ?_; rintro e w' ⟨rfl, rfl⟩)
    | (go_at_call 17; refine (place_any _ _ hx hv _).mono ?_; rintro e w' ⟨rfl, rfl⟩)
    | (go_at_call 18; refine (rplace_any _ _ hx hv _).mono ?_; rintro e w' ⟨rfl, rfl⟩)
    | fail)
  go_ret
  exact ⟨rfl, Below.refl _ _⟩

set_option maxHeartbeats 400000 in
theorem makes_walk (v : Bool) (p : Int) (m : Bool) (f : Int) (_ : (Lit.int .i64 p).wf = true) (hf : (Lit.int .u32 f).wf = true) (w : World) :
    Calls Try.prog 4 #[.bool v, .int .i64 p, .bool m, .int .u32 f] w fun e w' => e = .returned (.bool true) ∧ Below w.heap.size w w' := by
  have hf := U_of hf
  have h0 := hf.1
  have h1 := hf.2
  have C1 := Lib.hid (make_any v p m f hf)
  have C2 := Lib.hid (rmake_any v p m f hf)
  have hxU := mk_U v p m f
  have HF := Lib.hid (mk_frame v p m f)
  have HP := Lib.hid (mk_pr v p m f)
  have HV := Lib.hid (mk_iv v p m f)
  have HM := Lib.hid (mk_im v p m f)
  generalize mk v p m f = x at *
  have C3 := Lib.hid (is_any x hxU)
  have C4 := Lib.hid (written_any x hxU)
  have C5 := Lib.hid (frame_any x hxU)
  have C6 := Lib.hid (prot_any x hxU)
  rw [HV.out] at C3
  rw [HM.out] at C4
  rw [HF.out] at C5
  rw [HP.out] at C6
  have ht : -4 < p.tmod 4 ∧ p.tmod 4 < 4 := ⟨by have := Int.lt_tmod_of_pos p (b := 4) (by omega); omega, Int.tmod_lt_of_pos _ (by omega)⟩
  obtain ⟨h2, h3⟩ := ht
  have hq : (p.tmod 4 + 4) % 4 = p % 4 := by
    have := four_mod (p := p)
    rw [Int.tmod_eq_emod_of_nonneg (by omega)] at this
    exact this
  go_enter Try.func4, Try.ntmps4
  go_wp2_with (first
    | (go_at_call 8; refine (palive _).mono ?_; rintro e w' ⟨rfl, rfl⟩)
    | (go_at_call 19; refine (C1.out _).mono ?_; rintro e w' ⟨rfl, rfl⟩)
    | (go_at_call 20; refine (C2.out _).mono ?_; rintro e w' ⟨rfl, rfl⟩)
    | (go_at_call 12; refine (C3.out _).mono ?_; rintro e w' ⟨rfl, rfl⟩)
    | (go_at_call 14; refine (C4.out _).mono ?_; rintro e w' ⟨rfl, rfl⟩)
    | (go_at_call 11; refine (C5.out _).mono ?_; rintro e w' ⟨rfl, rfl⟩)
    | (go_at_call 9; refine (C6.out _).mono ?_; rintro e w' ⟨rfl, rfl⟩))
  go_ret
  exact ⟨rfl, Below.refl _ _⟩
end Go.Proofs.Ytifcaeifolcemaa.Cs
