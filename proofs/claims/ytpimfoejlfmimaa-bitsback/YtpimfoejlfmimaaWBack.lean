/- The walk of BitsBack. -/
import Derived.Test.YtpimfoejlfmimaaAlive
namespace Go.Proofs.Ytpimfoejlfmimaa.Cs
open Go.RowKit

theorem df_sm {s : Int} (hs : Sz s) (a b : Int) (c : Bool) : df (sm a b c s % W s) b c s % W s = a % W s := by
  have h1 := sg_mod hs (sm a b c s)
  have h2 := sg_mod hs a
  unfold df; rw [sg_of_mod hs]
  unfold sm at h1 ⊢
  generalize sg (sg a s + sg b s + bt c) s = q at h1 ⊢
  generalize sg a s = p at h1 h2 ⊢
  generalize sg b s = r at h1 ⊢
  generalize bt c = d at h1 ⊢
  rcases W_cases hs with k | k | k <;> rw [k] at h1 h2 ⊢ <;> omega
theorem sm_df {s : Int} (hs : Sz s) (a b : Int) (c : Bool) : sm (df a b c s % W s) b c s % W s = a % W s := by
  have h1 := sg_mod hs (df a b c s)
  have h2 := sg_mod hs a
  unfold sm; rw [sg_of_mod hs]
  unfold df at h1 ⊢
  generalize sg (sg a s - sg b s - bt c) s = q at h1 ⊢
  generalize sg a s = p at h1 h2 ⊢
  generalize sg b s = r at h1 ⊢
  generalize bt c = d at h1 ⊢
  rcases W_cases hs with k | k | k <;> rw [k] at h1 h2 ⊢ <;> omega
theorem rest_U {s : Int} (hs : Sz s) (n : Int) : U (n % W s) := by
  have := rest_bound hs n
  exact ⟨by omega, by omega⟩

set_option maxHeartbeats 1000000 in
theorem back_yes (a b s : Int) (c : Bool) (hs : Sz s) (ha : U a) (hb : U b) (w : World) :
    Calls Try.prog 7 #[.int .u32 a, .int .u32 b, .bool c, .int .i64 s] w fun e w' => e = .returned (.bool true) ∧ Below w.heap.size w w' := by
  have k1 := df_sm hs a b c
  have k2 := sm_df hs a b c
  have k3 := and_mask hs ha
  go_enter Try.func7, Try.ntmps7
  go_wp2_with fail
  refine (alive_any _).mono ?_
  rintro e w1 ⟨rfl, hb1⟩
  go_wp2_with (first | (go_at_call 11; refine (size_any _ hs _).mono ?_; rintro e w' ⟨rfl, rfl⟩) | fail)
  refine (add_any _ _ _ _ hs ha hb _).mono ?_
  rintro e w2 ⟨rfl, hb2⟩
  go_wp2_with fail
  refine (sub_any _ _ _ _ hs (rest_U hs _) hb _).mono ?_
  rintro e w3 ⟨rfl, hb3⟩
  go_wp2_with fail
  refine (sub_any _ _ _ _ hs ha hb _).mono ?_
  rintro e w4 ⟨rfl, hb4⟩
  go_wp2_with fail
  refine (add_any _ _ _ _ hs (rest_U hs _) hb _).mono ?_
  rintro e w5 ⟨rfl, hb5⟩
  go_wp2_with (go_at_call 13; refine (mask_any _ hs _).mono ?_; rintro e w' ⟨rfl, rfl⟩)
  go_ret
  have hx := below3 (below3 (below3 (below2 hb1 hb2) hb3) hb4) hb5
  exact ⟨rfl, hx.alloc hx.size _⟩

set_option maxHeartbeats 400000 in
theorem back_not (a b s : Int) (c : Bool) (hs : ¬ Sz s) (w : World) :
    Calls Try.prog 7 #[.int .u32 a, .int .u32 b, .bool c, .int .i64 s] w fun e w' => e = .returned (.bool true) ∧ Below w.heap.size w w' := by
  go_enter Try.func7, Try.ntmps7
  go_wp2_with fail
  refine (alive_any _).mono ?_
  rintro e w1 ⟨rfl, hb1⟩
  go_wp2_with (first | (go_at_call 11; refine (size_not _ hs _).mono ?_; rintro e w' ⟨rfl, rfl⟩) | fail)
  go_ret
  exact ⟨rfl, hb1⟩

theorem back_walk (a b : Int) (c : Bool) (s : Int) (ha : (Lit.int .u32 a).wf = true) (hb : (Lit.int .u32 b).wf = true) (_ : (Lit.int .i64 s).wf = true) (w : World) :
    Calls Try.prog 7 #[.int .u32 a, .int .u32 b, .bool c, .int .i64 s] w fun e w' => e = .returned (.bool true) ∧ Below w.heap.size w w' := by
  by_cases hs : Sz s
  · exact back_yes a b s c hs (U_of ha) (U_of hb) w
  · exact back_not a b s c hs w
end Go.Proofs.Ytpimfoejlfmimaa.Cs
