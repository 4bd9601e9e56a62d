/- The walk of BitsSums. -/
import Derived.Test.YtpimfoejlfmimaaAlive
namespace Go.Proofs.Ytpimfoejlfmimaa.Cs
open Go.RowKit

set_option maxHeartbeats 1000000 in
theorem sums_yes (a b s : Int) (c : Bool) (hs : Sz s) (ha : U a) (hb : U b) (w : World) :
    Calls Try.prog 4 #[.int .u32 a, .int .u32 b, .bool c, .int .i64 s] w fun e w' => e = .returned (.bool true) ∧ Below w.heap.size w w' := by
  go_enter Try.func4, Try.ntmps4
  go_wp2_with fail
  refine (alive_any _).mono ?_
  rintro e w1 ⟨rfl, hb1⟩
  go_wp2_with (first | (go_at_call 11; refine (size_any _ hs _).mono ?_; rintro e w' ⟨rfl, rfl⟩) | fail)
  refine (add_any _ _ _ _ hs ha hb _).mono ?_
  rintro e w2 ⟨rfl, hb2⟩
  go_wp2_with fail
  refine (radd_any _ _ _ _ hs ha hb _).mono ?_
  rintro e w3 ⟨rfl, hb3⟩
  go_wp2_with fail
  refine (sub_any _ _ _ _ hs ha hb _).mono ?_
  rintro e w4 ⟨rfl, hb4⟩
  go_wp2_with fail
  refine (rsub_any _ _ _ _ hs ha hb _).mono ?_
  rintro e w5 ⟨rfl, hb5⟩
  have c2 := fun o => (below3 (below3 hb3 hb4) hb5).cell (p := ⟨w2.heap.size, o, none⟩) (by simp)
  have c3 := fun o => (below3 hb4 hb5).cell (p := ⟨w3.heap.size, o, none⟩) (by simp)
  have c4 := fun o => hb5.cell (p := ⟨w4.heap.size, o, none⟩) (by simp)
  have z3 : w2.heap.size < w3.heap.size := by have := hb3.size; simp at this; omega
  have z4 : w3.heap.size < w4.heap.size := by have := hb4.size; simp at this; omega
  have z5 : w4.heap.size < w5.heap.size := by have := hb5.size; simp at this; omega
  have z25 : w2.heap.size < w5.heap.size := by omega
  have z35 : w3.heap.size < w5.heap.size := by omega
  go_wp2
  go_ret
  have hx := below3 (below3 (below3 (below2 hb1 hb2) hb3) hb4) hb5
  exact ⟨rfl, hx.alloc hx.size _⟩

set_option maxHeartbeats 400000 in
theorem sums_not (a b s : Int) (c : Bool) (hs : ¬ Sz s) (w : World) :
    Calls Try.prog 4 #[.int .u32 a, .int .u32 b, .bool c, .int .i64 s] w fun e w' => e = .returned (.bool true) ∧ Below w.heap.size w w' := by
  go_enter Try.func4, Try.ntmps4
  go_wp2_with fail
  refine (alive_any _).mono ?_
  rintro e w1 ⟨rfl, hb1⟩
  go_wp2_with (first | (go_at_call 11; refine (size_not _ hs _).mono ?_; rintro e w' ⟨rfl, rfl⟩) | fail)
  go_ret
  exact ⟨rfl, hb1⟩

theorem sums_walk (a b : Int) (c : Bool) (s : Int) (ha : (Lit.int .u32 a).wf = true) (hb : (Lit.int .u32 b).wf = true) (_ : (Lit.int .i64 s).wf = true) (w : World) :
    Calls Try.prog 4 #[.int .u32 a, .int .u32 b, .bool c, .int .i64 s] w fun e w' => e = .returned (.bool true) ∧ Below w.heap.size w w' := by
  by_cases hs : Sz s
  · exact sums_yes a b s c hs (U_of ha) (U_of hb) w
  · exact sums_not a b s c hs w
end Go.Proofs.Ytpimfoejlfmimaa.Cs
