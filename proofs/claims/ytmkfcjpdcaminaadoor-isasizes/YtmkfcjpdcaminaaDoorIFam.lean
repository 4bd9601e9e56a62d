/- Contracts of package isa: the shapes of a family. -/
import Derived.Test.YtmkfcjpdcaminaaDoorIShp0
namespace Go.Proofs.YtmkfcjpdcaminaaDoor.Cs
open Go.RowKit

def faC : List Nat := [0, 1, 2, 3, 4, 5, 6, 7, 8, 9, 10, 11, 12, 13, 14, 16, 17, 18, 19, 20, 21, 22, 23]
theorem fa_in : upto 24 (fun k => decide (fam.getD k [] = []) || faC.contains k) = true := by kernel_rfl
theorem fx0 : ∀ w, (Instr.index 56 (.agg #[.int .i64 6, .int .i64 7, .int .i64 10, .int .i64 11, .int .i64 12, .int .i64 13, .int .i64 14]) (.int .i64 0)).run Tryd.prog w = .ok (.int .i64 6) w := fun _ => by kernel_rfl
theorem fx1 : ∀ w, (Instr.index 56 (.agg #[.int .i64 6, .int .i64 7, .int .i64 10, .int .i64 11, .int .i64 12, .int .i64 13, .int .i64 14]) (.int .i64 1)).run Tryd.prog w = .ok (.int .i64 7) w := fun _ => by kernel_rfl
theorem fx2 : ∀ w, (Instr.index 56 (.agg #[.int .i64 6, .int .i64 7, .int .i64 10, .int .i64 11, .int .i64 12, .int .i64 13, .int .i64 14]) (.int .i64 2)).run Tryd.prog w = .ok (.int .i64 10) w := fun _ => by kernel_rfl
theorem fx3 : ∀ w, (Instr.index 56 (.agg #[.int .i64 6, .int .i64 7, .int .i64 10, .int .i64 11, .int .i64 12, .int .i64 13, .int .i64 14]) (.int .i64 3)).run Tryd.prog w = .ok (.int .i64 11) w := fun _ => by kernel_rfl
theorem fx4 : ∀ w, (Instr.index 56 (.agg #[.int .i64 6, .int .i64 7, .int .i64 10, .int .i64 11, .int .i64 12, .int .i64 13, .int .i64 14]) (.int .i64 4)).run Tryd.prog w = .ok (.int .i64 12) w := fun _ => by kernel_rfl
theorem fx5 : ∀ w, (Instr.index 56 (.agg #[.int .i64 6, .int .i64 7, .int .i64 10, .int .i64 11, .int .i64 12, .int .i64 13, .int .i64 14]) (.int .i64 5)).run Tryd.prog w = .ok (.int .i64 13) w := fun _ => by kernel_rfl
theorem fx6 : ∀ w, (Instr.index 56 (.agg #[.int .i64 6, .int .i64 7, .int .i64 10, .int .i64 11, .int .i64 12, .int .i64 13, .int .i64 14]) (.int .i64 6)).run Tryd.prog w = .ok (.int .i64 14) w := fun _ => by kernel_rfl
set_option maxHeartbeats 3200000 in
set_option maxRecDepth 20000 in
theorem fa_at (k : Nat) (hk : k ∈ faC) (w : World) : Calls Tryd.prog 24 #[.int .i64 k] w (ShE w (fms.getD k (0, 0, []))) := by
  simp only [faC, List.mem_cons, List.mem_nil_iff, or_false] at hk
  rcases hk with rfl | rfl | rfl | rfl | rfl | rfl | rfl | rfl | rfl | rfl | rfl | rfl | rfl | rfl | rfl | rfl | rfl | rfl | rfl | rfl | rfl | rfl | rfl
  · have i0 := fx0
    go_enter Tryd.func24, Tryd.ntmps24
    go_wp2
    exact bodyPost_ret (v := shv (14, 6, [114, 120, 109, 120])) (by simp [results, Tryd.results24, go_sem]) rfl ⟨rfl, al1 _ _⟩
  · have i0 := fx0
    go_enter Tryd.func24, Tryd.ntmps24
    go_wp2
    exact bodyPost_ret (v := shv (15, 6, [114, 120, 114, 120, 119, 120])) (by simp [results, Tryd.results24, go_sem]) rfl ⟨rfl, al1 _ _⟩
  · have i0 := fx1
    go_enter Tryd.func24, Tryd.ntmps24
    go_wp2
    exact bodyPost_ret (v := shv (14, 7, [114, 120, 109, 120])) (by simp [results, Tryd.results24, go_sem]) rfl ⟨rfl, al1 _ _⟩
  · have i0 := fx1
    go_enter Tryd.func24, Tryd.ntmps24
    go_wp2
    exact bodyPost_ret (v := shv (15, 7, [114, 120, 114, 120, 119, 120])) (by simp [results, Tryd.results24, go_sem]) rfl ⟨rfl, al1 _ _⟩
  · have i0 := fx2
    go_enter Tryd.func24, Tryd.ntmps24
    go_wp2
    exact bodyPost_ret (v := shv (14, 10, [114, 120, 109, 120])) (by simp [results, Tryd.results24, go_sem]) rfl ⟨rfl, al1 _ _⟩
  · have i0 := fx2
    go_enter Tryd.func24, Tryd.ntmps24
    go_wp2
    exact bodyPost_ret (v := shv (15, 10, [114, 120, 114, 120, 119, 120])) (by simp [results, Tryd.results24, go_sem]) rfl ⟨rfl, al1 _ _⟩
  · have i0 := fx3
    go_enter Tryd.func24, Tryd.ntmps24
    go_wp2
    exact bodyPost_ret (v := shv (14, 11, [114, 120, 109, 120])) (by simp [results, Tryd.results24, go_sem]) rfl ⟨rfl, al1 _ _⟩
  · have i0 := fx3
    go_enter Tryd.func24, Tryd.ntmps24
    go_wp2
    exact bodyPost_ret (v := shv (15, 11, [114, 120, 114, 120, 119, 120])) (by simp [results, Tryd.results24, go_sem]) rfl ⟨rfl, al1 _ _⟩
  · have i0 := fx4
    go_enter Tryd.func24, Tryd.ntmps24
    go_wp2
    exact bodyPost_ret (v := shv (14, 12, [114, 120, 109, 120])) (by simp [results, Tryd.results24, go_sem]) rfl ⟨rfl, al1 _ _⟩
  · have i0 := fx4
    go_enter Tryd.func24, Tryd.ntmps24
    go_wp2
    exact bodyPost_ret (v := shv (15, 12, [114, 120, 114, 120, 119, 120])) (by simp [results, Tryd.results24, go_sem]) rfl ⟨rfl, al1 _ _⟩
  · have i0 := fx5
    go_enter Tryd.func24, Tryd.ntmps24
    go_wp2
    exact bodyPost_ret (v := shv (14, 13, [114, 120, 109, 120])) (by simp [results, Tryd.results24, go_sem]) rfl ⟨rfl, al1 _ _⟩
  · have i0 := fx5
    go_enter Tryd.func24, Tryd.ntmps24
    go_wp2
    exact bodyPost_ret (v := shv (15, 13, [114, 120, 114, 120, 119, 120])) (by simp [results, Tryd.results24, go_sem]) rfl ⟨rfl, al1 _ _⟩
  · have i0 := fx6
    go_enter Tryd.func24, Tryd.ntmps24
    go_wp2
    exact bodyPost_ret (v := shv (14, 14, [114, 120, 109, 120])) (by simp [results, Tryd.results24, go_sem]) rfl ⟨rfl, al1 _ _⟩
  · have i0 := fx6
    go_enter Tryd.func24, Tryd.ntmps24
    go_wp2
    exact bodyPost_ret (v := shv (15, 14, [114, 120, 114, 120, 119, 120])) (by simp [results, Tryd.results24, go_sem]) rfl ⟨rfl, al1 _ _⟩
  · go_enter Tryd.func24, Tryd.ntmps24
    go_wp2
    exact bodyPost_ret (v := shv (12, 3, [114, 120, 119, 120])) (by simp [results, Tryd.results24, go_sem]) rfl ⟨rfl, al1 _ _⟩
  · go_enter Tryd.func24, Tryd.ntmps24
    go_wp2
    exact bodyPost_ret (v := shv (12, 1, [114, 120, 119, 120])) (by simp [results, Tryd.results24, go_sem]) rfl ⟨rfl, al1 _ _⟩
  · go_enter Tryd.func24, Tryd.ntmps24
    go_wp2
    exact bodyPost_ret (v := shv (17, 16, [114, 120, 114, 120])) (by simp [results, Tryd.results24, go_sem]) rfl ⟨rfl, al1 _ _⟩
  · go_enter Tryd.func24, Tryd.ntmps24
    go_wp2
    exact bodyPost_ret (v := shv (12, 2, [114, 120, 119, 120])) (by simp [results, Tryd.results24, go_sem]) rfl ⟨rfl, al1 _ _⟩
  · go_enter Tryd.func24, Tryd.ntmps24
    go_wp2
    exact bodyPost_ret (v := shv (17, 15, [114, 120, 114, 120])) (by simp [results, Tryd.results24, go_sem]) rfl ⟨rfl, al1 _ _⟩
  · go_enter Tryd.func24, Tryd.ntmps24
    go_wp2
    exact bodyPost_ret (v := shv (13, 18, [119, 120])) (by simp [results, Tryd.results24, go_sem]) rfl ⟨rfl, al1 _ _⟩
  · go_enter Tryd.func24, Tryd.ntmps24
    go_wp2
    exact bodyPost_ret (v := shv (16, 17, [114, 120])) (by simp [results, Tryd.results24, go_sem]) rfl ⟨rfl, al1 _ _⟩
  · go_enter Tryd.func24, Tryd.ntmps24
    go_wp2
    exact bodyPost_ret (v := shv (13, 4, [109, 120])) (by simp [results, Tryd.results24, go_sem]) rfl ⟨rfl, al1 _ _⟩
  · go_enter Tryd.func24, Tryd.ntmps24
    go_wp2
    exact bodyPost_ret (v := shv (13, 5, [109, 120])) (by simp [results, Tryd.results24, go_sem]) rfl ⟨rfl, al1 _ _⟩

end Go.Proofs.YtmkfcjpdcaminaaDoor.Cs
