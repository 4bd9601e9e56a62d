/- Contracts of package isa: the shapes of single codes, and of a family. -/
import Derived.Test.YtmkfcjpdcaminaaDoorIShp0
namespace Go.Proofs.YtmkfcjpdcaminaaDoor.Cs
open Go.RowKit

def eaC : List Nat := [0, 1, 2, 3, 4, 5, 16, 17, 18, 19, 20, 21, 22, 23, 24, 25, 26, 27, 28, 29, 30, 31, 40, 41, 44, 45, 48, 49, 50, 51, 58, 59, 60]
theorem ea_in : upto 256 (fun k => (decide (nms.getD k [] = []) || Nat.ble 64 k) || eaC.contains k) = true := by kernel_rfl
set_option maxHeartbeats 3200000 in
set_option maxRecDepth 20000 in
theorem ea_at (k : Nat) (hk : k ∈ eaC) (w : World) : Calls Tryd.prog 21 #[.int .i64 k] w (ShE w (sh (k : Int))) := by
  simp only [eaC, List.mem_cons, List.mem_nil_iff, or_false] at hk
  rcases hk with rfl | rfl | rfl | rfl | rfl | rfl | rfl | rfl | rfl | rfl | rfl | rfl | rfl | rfl | rfl | rfl | rfl | rfl | rfl | rfl | rfl | rfl | rfl | rfl | rfl | rfl | rfl | rfl | rfl | rfl | rfl | rfl | rfl
  · go_enter Tryd.func21, Tryd.ntmps21
    go_wp2
    exact bodyPost_ret (v := shv (1, 0, [])) (by simp [results, Tryd.results21, go_sem]) rfl ⟨rfl, al1 _ _⟩
  · go_enter Tryd.func21, Tryd.ntmps21
    go_wp2
    exact bodyPost_ret (v := shv (2, 0, [])) (by simp [results, Tryd.results21, go_sem]) rfl ⟨rfl, al1 _ _⟩
  · go_enter Tryd.func21, Tryd.ntmps21
    go_wp2
    exact bodyPost_ret (v := shv (3, 0, [])) (by simp [results, Tryd.results21, go_sem]) rfl ⟨rfl, al1 _ _⟩
  · go_enter Tryd.func21, Tryd.ntmps21
    go_wp2
    exact bodyPost_ret (v := shv (4, 0, [])) (by simp [results, Tryd.results21, go_sem]) rfl ⟨rfl, al1 _ _⟩
  · go_enter Tryd.func21, Tryd.ntmps21
    go_wp2
    exact bodyPost_ret (v := shv (5, 0, [])) (by simp [results, Tryd.results21, go_sem]) rfl ⟨rfl, al1 _ _⟩
  · go_enter Tryd.func21, Tryd.ntmps21
    go_wp2
    exact bodyPost_ret (v := shv (6, 0, [])) (by simp [results, Tryd.results21, go_sem]) rfl ⟨rfl, al1 _ _⟩
  · go_enter Tryd.func21, Tryd.ntmps21
    go_wp2
    exact bodyPost_ret (v := shv (7, 0, [98, 98])) (by simp [results, Tryd.results21, go_sem]) rfl ⟨rfl, al1 _ _⟩
  · go_enter Tryd.func21, Tryd.ntmps21
    go_wp2
    exact bodyPost_ret (v := shv (8, 0, [98, 98])) (by simp [results, Tryd.results21, go_sem]) rfl ⟨rfl, al1 _ _⟩
  · go_enter Tryd.func21, Tryd.ntmps21
    go_wp2
    exact bodyPost_ret (v := shv (9, 0, [98, 98])) (by simp [results, Tryd.results21, go_sem]) rfl ⟨rfl, al1 _ _⟩
  · go_enter Tryd.func21, Tryd.ntmps21
    go_wp2
    exact bodyPost_ret (v := shv (9, 0, [98, 98])) (by simp [results, Tryd.results21, go_sem]) rfl ⟨rfl, al1 _ _⟩
  · go_enter Tryd.func21, Tryd.ntmps21
    go_wp2
    exact bodyPost_ret (v := shv (9, 0, [98, 98])) (by simp [results, Tryd.results21, go_sem]) rfl ⟨rfl, al1 _ _⟩
  · go_enter Tryd.func21, Tryd.ntmps21
    go_wp2
    exact bodyPost_ret (v := shv (9, 0, [98, 98])) (by simp [results, Tryd.results21, go_sem]) rfl ⟨rfl, al1 _ _⟩
  · go_enter Tryd.func21, Tryd.ntmps21
    go_wp2
    exact bodyPost_ret (v := shv (10, 0, [97, 98])) (by simp [results, Tryd.results21, go_sem]) rfl ⟨rfl, al1 _ _⟩
  · go_enter Tryd.func21, Tryd.ntmps21
    go_wp2
    exact bodyPost_ret (v := shv (11, 0, [97, 98])) (by simp [results, Tryd.results21, go_sem]) rfl ⟨rfl, al1 _ _⟩
  · go_enter Tryd.func21, Tryd.ntmps21
    go_wp2
    exact bodyPost_ret (v := shv (9, 0, [98, 98])) (by simp [results, Tryd.results21, go_sem]) rfl ⟨rfl, al1 _ _⟩
  · go_enter Tryd.func21, Tryd.ntmps21
    go_wp2
    exact bodyPost_ret (v := shv (9, 0, [98, 98])) (by simp [results, Tryd.results21, go_sem]) rfl ⟨rfl, al1 _ _⟩
  · go_enter Tryd.func21, Tryd.ntmps21
    go_wp2
    exact bodyPost_ret (v := shv (9, 0, [98, 98])) (by simp [results, Tryd.results21, go_sem]) rfl ⟨rfl, al1 _ _⟩
  · go_enter Tryd.func21, Tryd.ntmps21
    go_wp2
    exact bodyPost_ret (v := shv (9, 0, [98, 98])) (by simp [results, Tryd.results21, go_sem]) rfl ⟨rfl, al1 _ _⟩
  · go_enter Tryd.func21, Tryd.ntmps21
    go_wp2
    exact bodyPost_ret (v := shv (9, 0, [98, 98])) (by simp [results, Tryd.results21, go_sem]) rfl ⟨rfl, al1 _ _⟩
  · go_enter Tryd.func21, Tryd.ntmps21
    go_wp2
    exact bodyPost_ret (v := shv (9, 0, [98, 98])) (by simp [results, Tryd.results21, go_sem]) rfl ⟨rfl, al1 _ _⟩
  · go_enter Tryd.func21, Tryd.ntmps21
    go_wp2
    exact bodyPost_ret (v := shv (9, 0, [98, 98])) (by simp [results, Tryd.results21, go_sem]) rfl ⟨rfl, al1 _ _⟩
  · go_enter Tryd.func21, Tryd.ntmps21
    go_wp2
    exact bodyPost_ret (v := shv (9, 0, [98, 98])) (by simp [results, Tryd.results21, go_sem]) rfl ⟨rfl, al1 _ _⟩
  · go_enter Tryd.func21, Tryd.ntmps21
    go_wp2
    exact bodyPost_ret (v := shv (40, 0, [114, 119, 97, 98, 97, 98])) (by simp [results, Tryd.results21, go_sem]) rfl ⟨rfl, al1 _ _⟩
  · go_enter Tryd.func21, Tryd.ntmps21
    go_wp2
    exact bodyPost_ret (v := shv (42, 0, [114, 119, 97, 98, 97, 98])) (by simp [results, Tryd.results21, go_sem]) rfl ⟨rfl, al1 _ _⟩
  · go_enter Tryd.func21, Tryd.ntmps21
    go_wp2
    exact bodyPost_ret (v := shv (41, 0, [114, 119, 97, 98, 114, 98, 114, 119, 97, 98])) (by simp [results, Tryd.results21, go_sem]) rfl ⟨rfl, al1 _ _⟩
  · go_enter Tryd.func21, Tryd.ntmps21
    go_wp2
    exact bodyPost_ret (v := shv (43, 0, [114, 119, 97, 98, 114, 98, 114, 119, 97, 98])) (by simp [results, Tryd.results21, go_sem]) rfl ⟨rfl, al1 _ _⟩
  · go_enter Tryd.func21, Tryd.ntmps21
    go_wp2
    exact bodyPost_ret (v := shv (7, 0, [98, 119])) (by simp [results, Tryd.results21, go_sem]) rfl ⟨rfl, al1 _ _⟩
  · go_enter Tryd.func21, Tryd.ntmps21
    go_wp2
    exact bodyPost_ret (v := shv (8, 0, [98, 119])) (by simp [results, Tryd.results21, go_sem]) rfl ⟨rfl, al1 _ _⟩
  · go_enter Tryd.func21, Tryd.ntmps21
    go_wp2
    exact bodyPost_ret (v := shv (18, 0, [114, 119, 119, 108])) (by simp [results, Tryd.results21, go_sem]) rfl ⟨rfl, al1 _ _⟩
  · go_enter Tryd.func21, Tryd.ntmps21
    go_wp2
    exact bodyPost_ret (v := shv (18, 0, [114, 119, 119, 98])) (by simp [results, Tryd.results21, go_sem]) rfl ⟨rfl, al1 _ _⟩
  · go_enter Tryd.func21, Tryd.ntmps21
    go_wp2
    exact bodyPost_ret (v := shv (44, 0, [114, 98, 114, 119, 97, 98])) (by simp [results, Tryd.results21, go_sem]) rfl ⟨rfl, al1 _ _⟩
  · go_enter Tryd.func21, Tryd.ntmps21
    go_wp2
    exact bodyPost_ret (v := shv (45, 0, [114, 98, 114, 119, 97, 98])) (by simp [results, Tryd.results21, go_sem]) rfl ⟨rfl, al1 _ _⟩
  · go_enter Tryd.func21, Tryd.ntmps21
    go_wp2
    exact bodyPost_ret (v := shv (19, 0, [114, 119, 119, 108])) (by simp [results, Tryd.results21, go_sem]) rfl ⟨rfl, al1 _ _⟩

def laC : List Nat := [224, 225, 232, 233, 238, 239, 240, 242, 243, 244, 245, 246, 247, 251]
theorem la_in : upto 256 (fun k => (decide (nms.getD k [] = []) || !Nat.ble 224 k) || laC.contains k) = true := by kernel_rfl
set_option maxHeartbeats 3200000 in
set_option maxRecDepth 20000 in
theorem la_at (k : Nat) (hk : k ∈ laC) (w : World) : Calls Tryd.prog 22 #[.int .i64 k] w (ShE w (sh (k : Int))) := by
  simp only [laC, List.mem_cons, List.mem_nil_iff, or_false] at hk
  rcases hk with rfl | rfl | rfl | rfl | rfl | rfl | rfl | rfl | rfl | rfl | rfl | rfl | rfl | rfl
  · go_enter Tryd.func22, Tryd.ntmps22
    go_wp2
    exact bodyPost_ret (v := shv (26, 1, [114, 108, 118, 98, 98, 98])) (by simp [results, Tryd.results22, go_sem]) rfl ⟨rfl, al1 _ _⟩
  · go_enter Tryd.func22, Tryd.ntmps22
    go_wp2
    exact bodyPost_ret (v := shv (26, 0, [114, 108, 118, 98, 98, 98])) (by simp [results, Tryd.results22, go_sem]) rfl ⟨rfl, al1 _ _⟩
  · go_enter Tryd.func22, Tryd.ntmps22
    go_wp2
    exact bodyPost_ret (v := shv (25, 1, [114, 108, 98, 98])) (by simp [results, Tryd.results22, go_sem]) rfl ⟨rfl, al1 _ _⟩
  · go_enter Tryd.func22, Tryd.ntmps22
    go_wp2
    exact bodyPost_ret (v := shv (25, 0, [114, 108, 98, 98])) (by simp [results, Tryd.results22, go_sem]) rfl ⟨rfl, al1 _ _⟩
  · go_enter Tryd.func22, Tryd.ntmps22
    go_wp2
    exact bodyPost_ret (v := shv (29, 1, [114, 108, 114, 98, 118, 98, 119, 108])) (by simp [results, Tryd.results22, go_sem]) rfl ⟨rfl, al1 _ _⟩
  · go_enter Tryd.func22, Tryd.ntmps22
    go_wp2
    exact bodyPost_ret (v := shv (29, 0, [114, 108, 114, 98, 118, 98, 119, 108])) (by simp [results, Tryd.results22, go_sem]) rfl ⟨rfl, al1 _ _⟩
  · go_enter Tryd.func22, Tryd.ntmps22
    go_wp2
    exact bodyPost_ret (v := shv (30, 0, [114, 108, 114, 108, 114, 98, 118, 98])) (by simp [results, Tryd.results22, go_sem]) rfl ⟨rfl, al1 _ _⟩
  · go_enter Tryd.func22, Tryd.ntmps22
    go_wp2
    exact bodyPost_ret (v := shv (27, 0, [114, 108, 109, 108, 98, 98])) (by simp [results, Tryd.results22, go_sem]) rfl ⟨rfl, al1 _ _⟩
  · go_enter Tryd.func22, Tryd.ntmps22
    go_wp2
    exact bodyPost_ret (v := shv (27, 1, [114, 108, 109, 108, 98, 98])) (by simp [results, Tryd.results22, go_sem]) rfl ⟨rfl, al1 _ _⟩
  · go_enter Tryd.func22, Tryd.ntmps22
    go_wp2
    exact bodyPost_ret (v := shv (28, 1, [109, 108, 98, 98])) (by simp [results, Tryd.results22, go_sem]) rfl ⟨rfl, al1 _ _⟩
  · go_enter Tryd.func22, Tryd.ntmps22
    go_wp2
    exact bodyPost_ret (v := shv (28, 0, [109, 108, 98, 98])) (by simp [results, Tryd.results22, go_sem]) rfl ⟨rfl, al1 _ _⟩
  · go_enter Tryd.func22, Tryd.ntmps22
    go_wp2
    exact bodyPost_ret (v := shv (18, 0, [114, 108, 119, 98])) (by simp [results, Tryd.results22, go_sem]) rfl ⟨rfl, al1 _ _⟩
  · go_enter Tryd.func22, Tryd.ntmps22
    go_wp2
    exact bodyPost_ret (v := shv (18, 0, [114, 108, 119, 119])) (by simp [results, Tryd.results22, go_sem]) rfl ⟨rfl, al1 _ _⟩
  · go_enter Tryd.func22, Tryd.ntmps22
    go_wp2
    exact bodyPost_ret (v := shv (31, 0, [114, 108, 97, 98])) (by simp [results, Tryd.results22, go_sem]) rfl ⟨rfl, al1 _ _⟩

def odC : List Nat := [120, 152, 153, 154, 155, 156, 158, 159, 184, 185, 186, 187, 188, 190, 191, 216, 217, 218, 219, 220, 221, 222, 223]
theorem od_in : upto 256 (fun k => (decide (nms.getD k [] = []) || (!Nat.ble 96 k || (Nat.ble 224 k || !Nat.ble 24 ((k - 96) % 32)))) || odC.contains k) = true := by kernel_rfl
set_option maxHeartbeats 3200000 in
set_option maxRecDepth 20000 in
theorem od_at (k : Nat) (hk : k ∈ odC) (w : World) : Calls Tryd.prog 23 #[.int .i64 k] w (ShE w (sh (k : Int))) := by
  simp only [odC, List.mem_cons, List.mem_nil_iff, or_false] at hk
  rcases hk with rfl | rfl | rfl | rfl | rfl | rfl | rfl | rfl | rfl | rfl | rfl | rfl | rfl | rfl | rfl | rfl | rfl | rfl | rfl | rfl | rfl | rfl | rfl
  · go_enter Tryd.func23, Tryd.ntmps23
    go_wp2
    exact bodyPost_ret (v := shv (23, 0, [114, 98, 114, 108, 119, 108])) (by simp [results, Tryd.results23, go_sem]) rfl ⟨rfl, al1 _ _⟩
  · go_enter Tryd.func23, Tryd.ntmps23
    go_wp2
    exact bodyPost_ret (v := shv (18, 0, [114, 98, 119, 108])) (by simp [results, Tryd.results23, go_sem]) rfl ⟨rfl, al1 _ _⟩
  · go_enter Tryd.func23, Tryd.ntmps23
    go_wp2
    exact bodyPost_ret (v := shv (18, 0, [114, 98, 119, 119])) (by simp [results, Tryd.results23, go_sem]) rfl ⟨rfl, al1 _ _⟩
  · go_enter Tryd.func23, Tryd.ntmps23
    go_wp2
    exact bodyPost_ret (v := shv (19, 0, [114, 98, 119, 108])) (by simp [results, Tryd.results23, go_sem]) rfl ⟨rfl, al1 _ _⟩
  · go_enter Tryd.func23, Tryd.ntmps23
    go_wp2
    exact bodyPost_ret (v := shv (19, 0, [114, 98, 119, 119])) (by simp [results, Tryd.results23, go_sem]) rfl ⟨rfl, al1 _ _⟩
  · go_enter Tryd.func23, Tryd.ntmps23
    go_wp2
    exact bodyPost_ret (v := shv (24, 0, [114, 98, 114, 108, 119, 108])) (by simp [results, Tryd.results23, go_sem]) rfl ⟨rfl, al1 _ _⟩
  · go_enter Tryd.func23, Tryd.ntmps23
    go_wp2
    exact bodyPost_ret (v := shv (20, 0, [97, 98, 119, 108])) (by simp [results, Tryd.results23, go_sem]) rfl ⟨rfl, al1 _ _⟩
  · go_enter Tryd.func23, Tryd.ntmps23
    go_wp2
    exact bodyPost_ret (v := shv (21, 0, [97, 98])) (by simp [results, Tryd.results23, go_sem]) rfl ⟨rfl, al1 _ _⟩
  · go_enter Tryd.func23, Tryd.ntmps23
    go_wp2
    exact bodyPost_ret (v := shv (35, 0, [114, 119])) (by simp [results, Tryd.results23, go_sem]) rfl ⟨rfl, al1 _ _⟩
  · go_enter Tryd.func23, Tryd.ntmps23
    go_wp2
    exact bodyPost_ret (v := shv (36, 0, [114, 119])) (by simp [results, Tryd.results23, go_sem]) rfl ⟨rfl, al1 _ _⟩
  · go_enter Tryd.func23, Tryd.ntmps23
    go_wp2
    exact bodyPost_ret (v := shv (33, 0, [114, 119])) (by simp [results, Tryd.results23, go_sem]) rfl ⟨rfl, al1 _ _⟩
  · go_enter Tryd.func23, Tryd.ntmps23
    go_wp2
    exact bodyPost_ret (v := shv (32, 0, [114, 119])) (by simp [results, Tryd.results23, go_sem]) rfl ⟨rfl, al1 _ _⟩
  · go_enter Tryd.func23, Tryd.ntmps23
    go_wp2
    exact bodyPost_ret (v := shv (37, 0, [114, 119])) (by simp [results, Tryd.results23, go_sem]) rfl ⟨rfl, al1 _ _⟩
  · go_enter Tryd.func23, Tryd.ntmps23
    go_wp2
    exact bodyPost_ret (v := shv (20, 0, [97, 119, 119, 108])) (by simp [results, Tryd.results23, go_sem]) rfl ⟨rfl, al1 _ _⟩
  · go_enter Tryd.func23, Tryd.ntmps23
    go_wp2
    exact bodyPost_ret (v := shv (21, 0, [97, 119])) (by simp [results, Tryd.results23, go_sem]) rfl ⟨rfl, al1 _ _⟩
  · go_enter Tryd.func23, Tryd.ntmps23
    go_wp2
    exact bodyPost_ret (v := shv (14, 8, [114, 108, 109, 108])) (by simp [results, Tryd.results23, go_sem]) rfl ⟨rfl, al1 _ _⟩
  · go_enter Tryd.func23, Tryd.ntmps23
    go_wp2
    exact bodyPost_ret (v := shv (14, 9, [114, 108, 109, 108])) (by simp [results, Tryd.results23, go_sem]) rfl ⟨rfl, al1 _ _⟩
  · go_enter Tryd.func23, Tryd.ntmps23
    go_wp2
    exact bodyPost_ret (v := shv (38, 0, [114, 108, 114, 108])) (by simp [results, Tryd.results23, go_sem]) rfl ⟨rfl, al1 _ _⟩
  · go_enter Tryd.func23, Tryd.ntmps23
    go_wp2
    exact bodyPost_ret (v := shv (39, 0, [114, 108, 119, 108])) (by simp [results, Tryd.results23, go_sem]) rfl ⟨rfl, al1 _ _⟩
  · go_enter Tryd.func23, Tryd.ntmps23
    go_wp2
    exact bodyPost_ret (v := shv (34, 0, [119, 108])) (by simp [results, Tryd.results23, go_sem]) rfl ⟨rfl, al1 _ _⟩
  · go_enter Tryd.func23, Tryd.ntmps23
    go_wp2
    exact bodyPost_ret (v := shv (22, 0, [114, 108])) (by simp [results, Tryd.results23, go_sem]) rfl ⟨rfl, al1 _ _⟩
  · go_enter Tryd.func23, Tryd.ntmps23
    go_wp2
    exact bodyPost_ret (v := shv (20, 0, [97, 108, 119, 108])) (by simp [results, Tryd.results23, go_sem]) rfl ⟨rfl, al1 _ _⟩
  · go_enter Tryd.func23, Tryd.ntmps23
    go_wp2
    exact bodyPost_ret (v := shv (21, 0, [97, 108])) (by simp [results, Tryd.results23, go_sem]) rfl ⟨rfl, al1 _ _⟩

end Go.Proofs.YtmkfcjpdcaminaaDoor.Cs
