/- The walk of AluDoes. -/
import Derived.Test.YtfninhgjejdafaaALoop
namespace Go.Proofs.Ytfninhgjejdafaa.Cs
open Go.RowKit

set_option maxHeartbeats 1000000 in
theorem adoes_yes (op a b s : Int) (c : Bool) (hs : Sz s) (ha : U a) (hb : U b) (w : World) :
    Calls Try.prog 3 #[.int .i64 op, .int .u32 a, .int .u32 b, .bool c, .int .i64 s] w fun e w' => e = .returned (.bool true) ∧ Below w.heap.size w w' := by
  have k1 := do_any op a b s c hs ha hb
  have k2 := rdo_any op a b s c hs ha hb
  have k3 := logic_any op
  have k4 := rlogic_any op
  generalize an op a b c s = A at *
  generalize lgc op = l at *
  obtain ⟨x, n, z, v, cc, ok⟩ := A
  unfold An.val at *
  have K1 := Lib.hid k1
  have K2 := Lib.hid k2
  have K3 := Lib.hid k3
  have K4 := Lib.hid k4
  clear k1 k2 k3 k4
  go_enter Try.func3, Try.ntmps3
  go_wp2_with fail
  refine (alive8 _).mono ?_
  rintro e w1 ⟨rfl, hb1⟩
  go_wp2_with (first | (go_at_call 10; refine (size_any _ hs _).mono ?_; rintro e w' ⟨rfl, rfl⟩) | fail)
  refine (K1.out _).mono ?_
  rintro e w2 ⟨rfl, hb2⟩
  go_wp2_with fail
  refine (K2.out _).mono ?_
  rintro e w3 ⟨rfl, hb3⟩
  have c2 := fun o => hb3.cell (p := ⟨w2.heap.size, o, none⟩) (by simp)
  have z3 : w2.heap.size < w3.heap.size := by have := hb3.size; simp at this; omega
  go_wp2_with (first | (go_at_call 13; refine (K3.out _).mono ?_; rintro e w' ⟨rfl, rfl⟩) | (go_at_call 14; refine (K4.out _).mono ?_; rintro e w' ⟨rfl, rfl⟩))
  go_ret
  have hx := below3 (below2 hb1 hb2) hb3
  exact ⟨by simp, hx.alloc hx.size _⟩

set_option maxHeartbeats 400000 in
theorem adoes_not (op a b s : Int) (c : Bool) (hs : ¬ Sz s) (w : World) :
    Calls Try.prog 3 #[.int .i64 op, .int .u32 a, .int .u32 b, .bool c, .int .i64 s] w fun e w' => e = .returned (.bool true) ∧ Below w.heap.size w w' := by
  go_enter Try.func3, Try.ntmps3
  go_wp2_with fail
  refine (alive8 _).mono ?_
  rintro e w1 ⟨rfl, hb1⟩
  go_wp2_with (first | (go_at_call 10; refine (size_not _ hs _).mono ?_; rintro e w' ⟨rfl, rfl⟩) | fail)
  go_ret
  exact ⟨rfl, hb1⟩

theorem adoes_walk (op a b : Int) (c : Bool) (s : Int) (_ : (Lit.int .i64 op).wf = true) (ha : (Lit.int .u32 a).wf = true) (hb : (Lit.int .u32 b).wf = true) (_ : (Lit.int .i64 s).wf = true) (w : World) :
    Calls Try.prog 3 #[.int .i64 op, .int .u32 a, .int .u32 b, .bool c, .int .i64 s] w fun e w' => e = .returned (.bool true) ∧ Below w.heap.size w w' := by
  by_cases hs : Sz s
  · exact adoes_yes op a b s c hs (U_of ha) (U_of hb) w
  · exact adoes_not op a b s c hs w
end Go.Proofs.Ytfninhgjejdafaa.Cs
