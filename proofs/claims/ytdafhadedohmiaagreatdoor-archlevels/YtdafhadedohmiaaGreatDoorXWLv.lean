/- ArchLevels: the walk. -/
import Derived.Test.YtdafhadedohmiaaGreatDoorXTop
namespace Go.Proofs.YtdafhadedohmiaaGreatDoor.Cs
open Go.RowKit
set_option linter.unusedVariables false
set_option linter.unusedSimpArgs false

theorem u_of {n : Int} (h : (Lit.int .u32 n).wf = true) : U n := by
  have := bounds_u32 h
  exact ⟨by omega, by omega⟩
set_option maxHeartbeats 1000000 in
set_option maxRecDepth 100000 in
theorem levels_walk (a0 a1 : Int) (W : World) (h0 : (Lit.int .u32 a0).wf = true) (h1 : (Lit.int .u32 a1).wf = true) (hT : 7 ≤ W.heap.size ∧ Tl.Ia.Gl W) : Calls Tryz.prog 6 #[.int .u32 a0, .int .u32 a1] W fun e w' => e = .returned (.bool true) ∧ Below W.heap.size W w' := by
  have HA := Lib.hid (alive W hT.1 hT.2)
  have HL := Lib.hid (fun w => level_any a0 a1 (u_of h0) (u_of h1) w)
  have HR := Lib.hid (fun w => rlevel_any a0 a1 (u_of h0) (u_of h1) w)
  clear h0 h1 hT
  go_enter Tryz.func6, Tryz.ntmps6
  go_wp2_with fail
  refine HA.out.mono ?_
  rintro e w1 ⟨rfl, b1⟩
  have B1 := Lib.hid b1
  clear b1
  go_wp2_with fail
  refine (HL.out w1).mono ?_
  rintro e w2 ⟨rfl, rfl⟩
  go_wp2_with fail
  refine (HR.out w1).mono ?_
  rintro e w3 ⟨rfl, b3⟩
  have B3 := Lib.hid (Tl.bel_trans B1.out b3 B1.out.size)
  clear b3
  go_wp2
  refine bodyPost_ret (v := .bool true) (by simp [results, Tryz.results6, go_sem]) rfl ⟨rfl, B3.out⟩

end Go.Proofs.YtdafhadedohmiaaGreatDoor.Cs
