/- The walk of ShiftFields. -/
import Derived.Test.YtfhhlieacmkheaaSAlive
namespace Go.Proofs.Ytfhhlieacmkheaa.Cs
open Go.RowKit

set_option maxHeartbeats 2000000 in
theorem fields_yes (r t s x : Int) (g : Bool) (hr : V r) (hx : U x) (ht0 : 0 ≤ t) (ht1 : t ≤ 4294967296) (hs0 : 0 ≤ s) (hs1 : s ≤ 32) (w : World) :
    Calls Try.prog 4 #[.int .u64 r, .int .i64 t, .int .i64 s, .int .u32 x, .bool g] w fun e w' => e = .returned (.bool true) ∧ Below w.heap.size w w' := by
  have K0 := Lib.hid alive9
  have K1 := Lib.hid (span_any t s hs1)
  have K2 := Lib.hid (rspan_any t s ht0 hs0 hs1)
  have K3 := Lib.hid (extract_any r t s g hs0 hs1)
  have K4 := Lib.hid (rext_any r t s g hr ht0 hs0 hs1)
  have K5 := Lib.hid (insert_any r t s x hr hx hs0 hs1)
  have K6 := Lib.hid (rins_any r t s x hr hx ht0 hs0 hs1)
  generalize sp t s = y1 at *
  generalize ev r (t % 32).toNat s.toNat g = y2 at *
  generalize iv r (t % 32).toNat s.toNat x = y3 at *
  clear hr hx
  go_enter Try.func4, Try.ntmps4
  go_wp2_with fail
  refine (K0.out _).mono ?_
  rintro e w1 ⟨rfl, hb1⟩
  go_wp2_with fail
  refine (K1.out _).mono ?_
  rintro e w' ⟨rfl, rfl⟩
  go_wp2_with fail
  refine (K2.out _).mono ?_
  rintro e w' ⟨rfl, rfl⟩
  go_wp2_with fail
  refine (K3.out _).mono ?_
  rintro e w' ⟨rfl, rfl⟩
  go_wp2_with fail
  refine (K4.out _).mono ?_
  rintro e w2 ⟨rfl, hb2⟩
  go_wp2_with fail
  refine (K5.out _).mono ?_
  rintro e w' ⟨rfl, rfl⟩
  go_wp2_with fail
  refine (K6.out _).mono ?_
  rintro e w3 ⟨rfl, hb3⟩
  go_wp2
  go_ret
  exact ⟨rfl, below2 (below2 hb1 hb2) hb3⟩

set_option maxHeartbeats 2000000 in
theorem fields_not (r t s x : Int) (g : Bool) (h : ¬ (0 ≤ t ∧ t ≤ 4294967296 ∧ 0 ≤ s ∧ s ≤ 32)) (w : World) :
    Calls Try.prog 4 #[.int .u64 r, .int .i64 t, .int .i64 s, .int .u32 x, .bool g] w fun e w' => e = .returned (.bool true) ∧ Below w.heap.size w w' := by
  have K0 := Lib.hid alive9
  have hh : t < 0 ∨ (0 ≤ t ∧ 4294967296 < t) ∨ (0 ≤ t ∧ t ≤ 4294967296 ∧ s < 0) ∨ (0 ≤ t ∧ t ≤ 4294967296 ∧ 0 ≤ s ∧ 32 < s) := by omega
  clear h
  rcases hh with h | ⟨h, h1⟩ | ⟨h, h1, h2⟩ | ⟨h, h1, h2, h3⟩
  all_goals
    go_enter Try.func4, Try.ntmps4
    go_wp2_with fail
    refine (K0.out _).mono ?_
    rintro e w1 ⟨rfl, hb1⟩
    go_wp2
    go_ret
    exact ⟨rfl, hb1⟩

theorem fields_walk (r t s x : Int) (g : Bool) (hr : (Lit.int .u64 r).wf = true) (_ : (Lit.int .i64 t).wf = true) (_ : (Lit.int .i64 s).wf = true) (hx : (Lit.int .u32 x).wf = true) (w : World) :
    Calls Try.prog 4 #[.int .u64 r, .int .i64 t, .int .i64 s, .int .u32 x, .bool g] w fun e w' => e = .returned (.bool true) ∧ Below w.heap.size w w' := by
  by_cases h : 0 ≤ t ∧ t ≤ 4294967296 ∧ 0 ≤ s ∧ s ≤ 32
  · exact fields_yes r t s x g (V_of hr) (U_of hx) h.1 h.2.1 h.2.2.1 h.2.2.2 w
  · exact fields_not r t s x g h w

end Go.Proofs.Ytfhhlieacmkheaa.Cs
