/- The walk of BitsSizes. -/
import Derived.Test.YtpimfoejlfmimaaAlive
namespace Go.Proofs.Ytpimfoejlfmimaa.Cs
open Go.RowKit

set_option maxHeartbeats 1000000 in
theorem sizes_yes (x y s : Int) (hs : Sz s) (hx : U x) (hy : U y) (w : World) :
    Calls Try.prog 3 #[.int .u32 x, .int .u32 y, .int .i64 s] w fun e w' => e = .returned (.bool true) ∧ Below w.heap.size w w' := by
  have h4 : Sz 4 := .inr (.inr rfl)
  have hw1 : 256 ≤ W s := by rcases W_cases hs with h | h | h <;> omega
  have hw2 : W s ≤ 4294967296 := by rcases W_cases hs with h | h | h <;> omega
  have ba := sg_32 hs x
  have k1 := ng_sg hs x
  have k2 : sg x s % W 4 = ex x s := rfl
  go_enter Try.func3, Try.ntmps3
  go_wp2_with fail
  refine (alive_any _).mono ?_
  rintro e w1 ⟨rfl, hb1⟩
  go_wp2_with (first | (go_at_call 11; refine (size_any _ hs _).mono ?_; rintro e w' ⟨rfl, rfl⟩) | (go_at_call 12; refine (wide_any _ hs _).mono ?_; rintro e w' ⟨rfl, rfl⟩) | (go_at_call 13; refine (mask_any _ hs _).mono ?_; rintro e w' ⟨rfl, rfl⟩) | (go_at_call 14; refine (top_any _ hs _).mono ?_; rintro e w' ⟨rfl, rfl⟩) | (go_at_call 15; refine (neg_any _ _ (by assumption) (by assumption) _).mono ?_; rintro e w' ⟨rfl, rfl⟩) | (go_at_call 16; refine (rsigned_any _ _ (by assumption) (by assumption) _).mono ?_; rintro e w' ⟨rfl, rfl⟩) | (go_at_call 17; refine (extend_any _ _ (by assumption) (by assumption) _).mono ?_; rintro e w' ⟨rfl, rfl⟩) | (go_at_call 18; refine (rbits_any _ _ h4 (by omega) (by omega) _).mono ?_; rintro e w' ⟨rfl, rfl⟩) | fail)
  refine (signs_any _ _ hs hx _).mono ?_
  rintro e w2 ⟨rfl, hb2⟩
  go_wp2_with fail
  refine (rsigns_any _ _ hs hx _).mono ?_
  rintro e w3 ⟨rfl, hb3⟩
  go_wp2_with (first | (go_at_call 21; refine (put_any _ _ _ hs (by assumption) (by assumption) _).mono ?_; rintro e w' ⟨rfl, rfl⟩) | (go_at_call 22; refine (rput_any _ _ _ hs (by assumption) (by assumption) _).mono ?_; rintro e w' ⟨rfl, rfl⟩) | fail)
  go_ret
  exact ⟨rfl, below2 (below2 hb1 hb2) hb3⟩

set_option maxHeartbeats 400000 in
theorem sizes_not (x y s : Int) (hs : ¬ Sz s) (w : World) :
    Calls Try.prog 3 #[.int .u32 x, .int .u32 y, .int .i64 s] w fun e w' => e = .returned (.bool true) ∧ Below w.heap.size w w' := by
  go_enter Try.func3, Try.ntmps3
  go_wp2_with fail
  refine (alive_any _).mono ?_
  rintro e w1 ⟨rfl, hb1⟩
  go_wp2_with (first | (go_at_call 11; refine (size_not _ hs _).mono ?_; rintro e w' ⟨rfl, rfl⟩) | fail)
  go_ret
  exact ⟨rfl, hb1⟩

theorem sizes_walk (x y s : Int) (hx : (Lit.int .u32 x).wf = true) (hy : (Lit.int .u32 y).wf = true) (_ : (Lit.int .i64 s).wf = true) (w : World) :
    Calls Try.prog 3 #[.int .u32 x, .int .u32 y, .int .i64 s] w fun e w' => e = .returned (.bool true) ∧ Below w.heap.size w w' := by
  by_cases hs : Sz s
  · exact sizes_yes x y s hs (U_of hx) (U_of hy) w
  · exact sizes_not x y s hs w
end Go.Proofs.Ytpimfoejlfmimaa.Cs
