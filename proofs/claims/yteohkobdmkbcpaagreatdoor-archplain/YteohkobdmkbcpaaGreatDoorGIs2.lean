import Derived.Test.YteohkobdmkbcpaaGreatDoorGIsa

/- Shapes of instructions as values. -/
namespace Go.Proofs.YteohkobdmkbcpaaGreatDoor.Tl.Ia
open Go.RowKit

/-- A shape as a value. -/
abbrev shv (s : Int × Int × List UInt8) : Value := .agg #[.int .i64 s.1, .int .i64 s.2.1, .string (sb s.2.2)]
def ShE (w : World) (s : Int × Int × List UInt8) (e : Ending) (w' : World) : Prop := e = .returned (shv s) ∧ Below w.heap.size w w'
/-- A family's shapes, the size an x. -/
def fms : List (Int × Int × List UInt8) := [(14, 6, [114, 120, 109, 120]), (15, 6, [114, 120, 114, 120, 119, 120]), (14, 7, [114, 120, 109, 120]), (15, 7, [114, 120, 114, 120, 119, 120]), (14, 10, [114, 120, 109, 120]), (15, 10, [114, 120, 114, 120, 119, 120]), (14, 11, [114, 120, 109, 120]), (15, 11, [114, 120, 114, 120, 119, 120]), (14, 12, [114, 120, 109, 120]), (15, 12, [114, 120, 114, 120, 119, 120]), (14, 13, [114, 120, 109, 120]), (15, 13, [114, 120, 114, 120, 119, 120]), (14, 14, [114, 120, 109, 120]), (15, 14, [114, 120, 114, 120, 119, 120]), (12, 3, [114, 120, 119, 120]), (0, 0, []), (12, 1, [114, 120, 119, 120]), (17, 16, [114, 120, 114, 120]), (12, 2, [114, 120, 119, 120]), (17, 15, [114, 120, 114, 120]), (13, 18, [119, 120]), (16, 17, [114, 120]), (13, 4, [109, 120]), (13, 5, [109, 120])]
theorem al1 (w : World) (o : Obj) : Below w.heap.size w (w.alloc o) := (Below.refl _ _).alloc (Nat.le_refl _) _

end Go.Proofs.YteohkobdmkbcpaaGreatDoor.Tl.Ia

/- Contracts of package isa: the shapes of single codes, and of a family. -/
namespace Go.Proofs.YteohkobdmkbcpaaGreatDoor.Tl.Ia
open Go.RowKit

def eaC : List Nat := [0, 1, 2, 3, 4, 5, 16, 17, 18, 19, 20, 21, 22, 23, 24, 25, 26, 27, 28, 29, 30, 31, 40, 41, 44, 45, 48, 49, 50, 51, 58, 59, 60]
theorem ea_in : upto 256 (fun k => (decide (nms.getD k [] = []) || Nat.ble 64 k) || eaC.contains k) = true := by kernel_rfl
set_option maxHeartbeats 3200000 in
set_option maxRecDepth 100000 in
theorem ea_at (k : Nat) (hk : k ∈ eaC) (w : World) : Calls Tryz.prog 141 #[.int .i64 k] w (ShE w (sh (k : Int))) := by
  simp only [eaC, List.mem_cons, List.mem_nil_iff, or_false] at hk
  rcases hk with rfl | rfl | rfl | rfl | rfl | rfl | rfl | rfl | rfl | rfl | rfl | rfl | rfl | rfl | rfl | rfl | rfl | rfl | rfl | rfl | rfl | rfl | rfl | rfl | rfl | rfl | rfl | rfl | rfl | rfl | rfl | rfl | rfl
  · go_enter Tryz.func141, Tryz.ntmps141
    go_wp2
    exact bodyPost_ret (v := shv (1, 0, [])) (by simp [results, Tryz.results141, go_sem]) rfl ⟨rfl, al1 _ _⟩
  · go_enter Tryz.func141, Tryz.ntmps141
    go_wp2
    exact bodyPost_ret (v := shv (2, 0, [])) (by simp [results, Tryz.results141, go_sem]) rfl ⟨rfl, al1 _ _⟩
  · go_enter Tryz.func141, Tryz.ntmps141
    go_wp2
    exact bodyPost_ret (v := shv (3, 0, [])) (by simp [results, Tryz.results141, go_sem]) rfl ⟨rfl, al1 _ _⟩
  · go_enter Tryz.func141, Tryz.ntmps141
    go_wp2
    exact bodyPost_ret (v := shv (4, 0, [])) (by simp [results, Tryz.results141, go_sem]) rfl ⟨rfl, al1 _ _⟩
  · go_enter Tryz.func141, Tryz.ntmps141
    go_wp2
    exact bodyPost_ret (v := shv (5, 0, [])) (by simp [results, Tryz.results141, go_sem]) rfl ⟨rfl, al1 _ _⟩
  · go_enter Tryz.func141, Tryz.ntmps141
    go_wp2
    exact bodyPost_ret (v := shv (6, 0, [])) (by simp [results, Tryz.results141, go_sem]) rfl ⟨rfl, al1 _ _⟩
  · go_enter Tryz.func141, Tryz.ntmps141
    go_wp2
    exact bodyPost_ret (v := shv (7, 0, [98, 98])) (by simp [results, Tryz.results141, go_sem]) rfl ⟨rfl, al1 _ _⟩
  · go_enter Tryz.func141, Tryz.ntmps141
    go_wp2
    exact bodyPost_ret (v := shv (8, 0, [98, 98])) (by simp [results, Tryz.results141, go_sem]) rfl ⟨rfl, al1 _ _⟩
  · go_enter Tryz.func141, Tryz.ntmps141
    go_wp2
    exact bodyPost_ret (v := shv (9, 0, [98, 98])) (by simp [results, Tryz.results141, go_sem]) rfl ⟨rfl, al1 _ _⟩
  · go_enter Tryz.func141, Tryz.ntmps141
    go_wp2
    exact bodyPost_ret (v := shv (9, 0, [98, 98])) (by simp [results, Tryz.results141, go_sem]) rfl ⟨rfl, al1 _ _⟩
  · go_enter Tryz.func141, Tryz.ntmps141
    go_wp2
    exact bodyPost_ret (v := shv (9, 0, [98, 98])) (by simp [results, Tryz.results141, go_sem]) rfl ⟨rfl, al1 _ _⟩
  · go_enter Tryz.func141, Tryz.ntmps141
    go_wp2
    exact bodyPost_ret (v := shv (9, 0, [98, 98])) (by simp [results, Tryz.results141, go_sem]) rfl ⟨rfl, al1 _ _⟩
  · go_enter Tryz.func141, Tryz.ntmps141
    go_wp2
    exact bodyPost_ret (v := shv (10, 0, [97, 98])) (by simp [results, Tryz.results141, go_sem]) rfl ⟨rfl, al1 _ _⟩
  · go_enter Tryz.func141, Tryz.ntmps141
    go_wp2
    exact bodyPost_ret (v := shv (11, 0, [97, 98])) (by simp [results, Tryz.results141, go_sem]) rfl ⟨rfl, al1 _ _⟩
  · go_enter Tryz.func141, Tryz.ntmps141
    go_wp2
    exact bodyPost_ret (v := shv (9, 0, [98, 98])) (by simp [results, Tryz.results141, go_sem]) rfl ⟨rfl, al1 _ _⟩
  · go_enter Tryz.func141, Tryz.ntmps141
    go_wp2
    exact bodyPost_ret (v := shv (9, 0, [98, 98])) (by simp [results, Tryz.results141, go_sem]) rfl ⟨rfl, al1 _ _⟩
  · go_enter Tryz.func141, Tryz.ntmps141
    go_wp2
    exact bodyPost_ret (v := shv (9, 0, [98, 98])) (by simp [results, Tryz.results141, go_sem]) rfl ⟨rfl, al1 _ _⟩
  · go_enter Tryz.func141, Tryz.ntmps141
    go_wp2
    exact bodyPost_ret (v := shv (9, 0, [98, 98])) (by simp [results, Tryz.results141, go_sem]) rfl ⟨rfl, al1 _ _⟩
  · go_enter Tryz.func141, Tryz.ntmps141
    go_wp2
    exact bodyPost_ret (v := shv (9, 0, [98, 98])) (by simp [results, Tryz.results141, go_sem]) rfl ⟨rfl, al1 _ _⟩
  · go_enter Tryz.func141, Tryz.ntmps141
    go_wp2
    exact bodyPost_ret (v := shv (9, 0, [98, 98])) (by simp [results, Tryz.results141, go_sem]) rfl ⟨rfl, al1 _ _⟩
  · go_enter Tryz.func141, Tryz.ntmps141
    go_wp2
    exact bodyPost_ret (v := shv (9, 0, [98, 98])) (by simp [results, Tryz.results141, go_sem]) rfl ⟨rfl, al1 _ _⟩
  · go_enter Tryz.func141, Tryz.ntmps141
    go_wp2
    exact bodyPost_ret (v := shv (9, 0, [98, 98])) (by simp [results, Tryz.results141, go_sem]) rfl ⟨rfl, al1 _ _⟩
  · go_enter Tryz.func141, Tryz.ntmps141
    go_wp2
    exact bodyPost_ret (v := shv (40, 0, [114, 119, 97, 98, 97, 98])) (by simp [results, Tryz.results141, go_sem]) rfl ⟨rfl, al1 _ _⟩
  · go_enter Tryz.func141, Tryz.ntmps141
    go_wp2
    exact bodyPost_ret (v := shv (42, 0, [114, 119, 97, 98, 97, 98])) (by simp [results, Tryz.results141, go_sem]) rfl ⟨rfl, al1 _ _⟩
  · go_enter Tryz.func141, Tryz.ntmps141
    go_wp2
    exact bodyPost_ret (v := shv (41, 0, [114, 119, 97, 98, 114, 98, 114, 119, 97, 98])) (by simp [results, Tryz.results141, go_sem]) rfl ⟨rfl, al1 _ _⟩
  · go_enter Tryz.func141, Tryz.ntmps141
    go_wp2
    exact bodyPost_ret (v := shv (43, 0, [114, 119, 97, 98, 114, 98, 114, 119, 97, 98])) (by simp [results, Tryz.results141, go_sem]) rfl ⟨rfl, al1 _ _⟩
  · go_enter Tryz.func141, Tryz.ntmps141
    go_wp2
    exact bodyPost_ret (v := shv (7, 0, [98, 119])) (by simp [results, Tryz.results141, go_sem]) rfl ⟨rfl, al1 _ _⟩
  · go_enter Tryz.func141, Tryz.ntmps141
    go_wp2
    exact bodyPost_ret (v := shv (8, 0, [98, 119])) (by simp [results, Tryz.results141, go_sem]) rfl ⟨rfl, al1 _ _⟩
  · go_enter Tryz.func141, Tryz.ntmps141
    go_wp2
    exact bodyPost_ret (v := shv (18, 0, [114, 119, 119, 108])) (by simp [results, Tryz.results141, go_sem]) rfl ⟨rfl, al1 _ _⟩
  · go_enter Tryz.func141, Tryz.ntmps141
    go_wp2
    exact bodyPost_ret (v := shv (18, 0, [114, 119, 119, 98])) (by simp [results, Tryz.results141, go_sem]) rfl ⟨rfl, al1 _ _⟩
  · go_enter Tryz.func141, Tryz.ntmps141
    go_wp2
    exact bodyPost_ret (v := shv (44, 0, [114, 98, 114, 119, 97, 98])) (by simp [results, Tryz.results141, go_sem]) rfl ⟨rfl, al1 _ _⟩
  · go_enter Tryz.func141, Tryz.ntmps141
    go_wp2
    exact bodyPost_ret (v := shv (45, 0, [114, 98, 114, 119, 97, 98])) (by simp [results, Tryz.results141, go_sem]) rfl ⟨rfl, al1 _ _⟩
  · go_enter Tryz.func141, Tryz.ntmps141
    go_wp2
    exact bodyPost_ret (v := shv (19, 0, [114, 119, 119, 108])) (by simp [results, Tryz.results141, go_sem]) rfl ⟨rfl, al1 _ _⟩

def laC : List Nat := [224, 225, 232, 233, 238, 239, 240, 242, 243, 244, 245, 246, 247, 251]
theorem la_in : upto 256 (fun k => (decide (nms.getD k [] = []) || !Nat.ble 224 k) || laC.contains k) = true := by kernel_rfl
set_option maxHeartbeats 3200000 in
set_option maxRecDepth 100000 in
theorem la_at (k : Nat) (hk : k ∈ laC) (w : World) : Calls Tryz.prog 142 #[.int .i64 k] w (ShE w (sh (k : Int))) := by
  simp only [laC, List.mem_cons, List.mem_nil_iff, or_false] at hk
  rcases hk with rfl | rfl | rfl | rfl | rfl | rfl | rfl | rfl | rfl | rfl | rfl | rfl | rfl | rfl
  · go_enter Tryz.func142, Tryz.ntmps142
    go_wp2
    exact bodyPost_ret (v := shv (26, 1, [114, 108, 118, 98, 98, 98])) (by simp [results, Tryz.results142, go_sem]) rfl ⟨rfl, al1 _ _⟩
  · go_enter Tryz.func142, Tryz.ntmps142
    go_wp2
    exact bodyPost_ret (v := shv (26, 0, [114, 108, 118, 98, 98, 98])) (by simp [results, Tryz.results142, go_sem]) rfl ⟨rfl, al1 _ _⟩
  · go_enter Tryz.func142, Tryz.ntmps142
    go_wp2
    exact bodyPost_ret (v := shv (25, 1, [114, 108, 98, 98])) (by simp [results, Tryz.results142, go_sem]) rfl ⟨rfl, al1 _ _⟩
  · go_enter Tryz.func142, Tryz.ntmps142
    go_wp2
    exact bodyPost_ret (v := shv (25, 0, [114, 108, 98, 98])) (by simp [results, Tryz.results142, go_sem]) rfl ⟨rfl, al1 _ _⟩
  · go_enter Tryz.func142, Tryz.ntmps142
    go_wp2
    exact bodyPost_ret (v := shv (29, 1, [114, 108, 114, 98, 118, 98, 119, 108])) (by simp [results, Tryz.results142, go_sem]) rfl ⟨rfl, al1 _ _⟩
  · go_enter Tryz.func142, Tryz.ntmps142
    go_wp2
    exact bodyPost_ret (v := shv (29, 0, [114, 108, 114, 98, 118, 98, 119, 108])) (by simp [results, Tryz.results142, go_sem]) rfl ⟨rfl, al1 _ _⟩
  · go_enter Tryz.func142, Tryz.ntmps142
    go_wp2
    exact bodyPost_ret (v := shv (30, 0, [114, 108, 114, 108, 114, 98, 118, 98])) (by simp [results, Tryz.results142, go_sem]) rfl ⟨rfl, al1 _ _⟩
  · go_enter Tryz.func142, Tryz.ntmps142
    go_wp2
    exact bodyPost_ret (v := shv (27, 0, [114, 108, 109, 108, 98, 98])) (by simp [results, Tryz.results142, go_sem]) rfl ⟨rfl, al1 _ _⟩
  · go_enter Tryz.func142, Tryz.ntmps142
    go_wp2
    exact bodyPost_ret (v := shv (27, 1, [114, 108, 109, 108, 98, 98])) (by simp [results, Tryz.results142, go_sem]) rfl ⟨rfl, al1 _ _⟩
  · go_enter Tryz.func142, Tryz.ntmps142
    go_wp2
    exact bodyPost_ret (v := shv (28, 1, [109, 108, 98, 98])) (by simp [results, Tryz.results142, go_sem]) rfl ⟨rfl, al1 _ _⟩
  · go_enter Tryz.func142, Tryz.ntmps142
    go_wp2
    exact bodyPost_ret (v := shv (28, 0, [109, 108, 98, 98])) (by simp [results, Tryz.results142, go_sem]) rfl ⟨rfl, al1 _ _⟩
  · go_enter Tryz.func142, Tryz.ntmps142
    go_wp2
    exact bodyPost_ret (v := shv (18, 0, [114, 108, 119, 98])) (by simp [results, Tryz.results142, go_sem]) rfl ⟨rfl, al1 _ _⟩
  · go_enter Tryz.func142, Tryz.ntmps142
    go_wp2
    exact bodyPost_ret (v := shv (18, 0, [114, 108, 119, 119])) (by simp [results, Tryz.results142, go_sem]) rfl ⟨rfl, al1 _ _⟩
  · go_enter Tryz.func142, Tryz.ntmps142
    go_wp2
    exact bodyPost_ret (v := shv (31, 0, [114, 108, 97, 98])) (by simp [results, Tryz.results142, go_sem]) rfl ⟨rfl, al1 _ _⟩

def odC : List Nat := [120, 152, 153, 154, 155, 156, 158, 159, 184, 185, 186, 187, 188, 190, 191, 216, 217, 218, 219, 220, 221, 222, 223]
theorem od_in : upto 256 (fun k => (decide (nms.getD k [] = []) || (!Nat.ble 96 k || (Nat.ble 224 k || !Nat.ble 24 ((k - 96) % 32)))) || odC.contains k) = true := by kernel_rfl
set_option maxHeartbeats 3200000 in
set_option maxRecDepth 100000 in
theorem od_at (k : Nat) (hk : k ∈ odC) (w : World) : Calls Tryz.prog 143 #[.int .i64 k] w (ShE w (sh (k : Int))) := by
  simp only [odC, List.mem_cons, List.mem_nil_iff, or_false] at hk
  rcases hk with rfl | rfl | rfl | rfl | rfl | rfl | rfl | rfl | rfl | rfl | rfl | rfl | rfl | rfl | rfl | rfl | rfl | rfl | rfl | rfl | rfl | rfl | rfl
  · go_enter Tryz.func143, Tryz.ntmps143
    go_wp2
    exact bodyPost_ret (v := shv (23, 0, [114, 98, 114, 108, 119, 108])) (by simp [results, Tryz.results143, go_sem]) rfl ⟨rfl, al1 _ _⟩
  · go_enter Tryz.func143, Tryz.ntmps143
    go_wp2
    exact bodyPost_ret (v := shv (18, 0, [114, 98, 119, 108])) (by simp [results, Tryz.results143, go_sem]) rfl ⟨rfl, al1 _ _⟩
  · go_enter Tryz.func143, Tryz.ntmps143
    go_wp2
    exact bodyPost_ret (v := shv (18, 0, [114, 98, 119, 119])) (by simp [results, Tryz.results143, go_sem]) rfl ⟨rfl, al1 _ _⟩
  · go_enter Tryz.func143, Tryz.ntmps143
    go_wp2
    exact bodyPost_ret (v := shv (19, 0, [114, 98, 119, 108])) (by simp [results, Tryz.results143, go_sem]) rfl ⟨rfl, al1 _ _⟩
  · go_enter Tryz.func143, Tryz.ntmps143
    go_wp2
    exact bodyPost_ret (v := shv (19, 0, [114, 98, 119, 119])) (by simp [results, Tryz.results143, go_sem]) rfl ⟨rfl, al1 _ _⟩
  · go_enter Tryz.func143, Tryz.ntmps143
    go_wp2
    exact bodyPost_ret (v := shv (24, 0, [114, 98, 114, 108, 119, 108])) (by simp [results, Tryz.results143, go_sem]) rfl ⟨rfl, al1 _ _⟩
  · go_enter Tryz.func143, Tryz.ntmps143
    go_wp2
    exact bodyPost_ret (v := shv (20, 0, [97, 98, 119, 108])) (by simp [results, Tryz.results143, go_sem]) rfl ⟨rfl, al1 _ _⟩
  · go_enter Tryz.func143, Tryz.ntmps143
    go_wp2
    exact bodyPost_ret (v := shv (21, 0, [97, 98])) (by simp [results, Tryz.results143, go_sem]) rfl ⟨rfl, al1 _ _⟩
  · go_enter Tryz.func143, Tryz.ntmps143
    go_wp2
    exact bodyPost_ret (v := shv (35, 0, [114, 119])) (by simp [results, Tryz.results143, go_sem]) rfl ⟨rfl, al1 _ _⟩
  · go_enter Tryz.func143, Tryz.ntmps143
    go_wp2
    exact bodyPost_ret (v := shv (36, 0, [114, 119])) (by simp [results, Tryz.results143, go_sem]) rfl ⟨rfl, al1 _ _⟩
  · go_enter Tryz.func143, Tryz.ntmps143
    go_wp2
    exact bodyPost_ret (v := shv (33, 0, [114, 119])) (by simp [results, Tryz.results143, go_sem]) rfl ⟨rfl, al1 _ _⟩
  · go_enter Tryz.func143, Tryz.ntmps143
    go_wp2
    exact bodyPost_ret (v := shv (32, 0, [114, 119])) (by simp [results, Tryz.results143, go_sem]) rfl ⟨rfl, al1 _ _⟩
  · go_enter Tryz.func143, Tryz.ntmps143
    go_wp2
    exact bodyPost_ret (v := shv (37, 0, [114, 119])) (by simp [results, Tryz.results143, go_sem]) rfl ⟨rfl, al1 _ _⟩
  · go_enter Tryz.func143, Tryz.ntmps143
    go_wp2
    exact bodyPost_ret (v := shv (20, 0, [97, 119, 119, 108])) (by simp [results, Tryz.results143, go_sem]) rfl ⟨rfl, al1 _ _⟩
  · go_enter Tryz.func143, Tryz.ntmps143
    go_wp2
    exact bodyPost_ret (v := shv (21, 0, [97, 119])) (by simp [results, Tryz.results143, go_sem]) rfl ⟨rfl, al1 _ _⟩
  · go_enter Tryz.func143, Tryz.ntmps143
    go_wp2
    exact bodyPost_ret (v := shv (14, 8, [114, 108, 109, 108])) (by simp [results, Tryz.results143, go_sem]) rfl ⟨rfl, al1 _ _⟩
  · go_enter Tryz.func143, Tryz.ntmps143
    go_wp2
    exact bodyPost_ret (v := shv (14, 9, [114, 108, 109, 108])) (by simp [results, Tryz.results143, go_sem]) rfl ⟨rfl, al1 _ _⟩
  · go_enter Tryz.func143, Tryz.ntmps143
    go_wp2
    exact bodyPost_ret (v := shv (38, 0, [114, 108, 114, 108])) (by simp [results, Tryz.results143, go_sem]) rfl ⟨rfl, al1 _ _⟩
  · go_enter Tryz.func143, Tryz.ntmps143
    go_wp2
    exact bodyPost_ret (v := shv (39, 0, [114, 108, 119, 108])) (by simp [results, Tryz.results143, go_sem]) rfl ⟨rfl, al1 _ _⟩
  · go_enter Tryz.func143, Tryz.ntmps143
    go_wp2
    exact bodyPost_ret (v := shv (34, 0, [119, 108])) (by simp [results, Tryz.results143, go_sem]) rfl ⟨rfl, al1 _ _⟩
  · go_enter Tryz.func143, Tryz.ntmps143
    go_wp2
    exact bodyPost_ret (v := shv (22, 0, [114, 108])) (by simp [results, Tryz.results143, go_sem]) rfl ⟨rfl, al1 _ _⟩
  · go_enter Tryz.func143, Tryz.ntmps143
    go_wp2
    exact bodyPost_ret (v := shv (20, 0, [97, 108, 119, 108])) (by simp [results, Tryz.results143, go_sem]) rfl ⟨rfl, al1 _ _⟩
  · go_enter Tryz.func143, Tryz.ntmps143
    go_wp2
    exact bodyPost_ret (v := shv (21, 0, [97, 108])) (by simp [results, Tryz.results143, go_sem]) rfl ⟨rfl, al1 _ _⟩

end Go.Proofs.YteohkobdmkbcpaaGreatDoor.Tl.Ia

/- Contracts of package isa: the shapes of a family. -/
namespace Go.Proofs.YteohkobdmkbcpaaGreatDoor.Tl.Ia
open Go.RowKit

def faC : List Nat := [0, 1, 2, 3, 4, 5, 6, 7, 8, 9, 10, 11, 12, 13, 14, 16, 17, 18, 19, 20, 21, 22, 23]
theorem fa_in : upto 24 (fun k => decide (fam.getD k [] = []) || faC.contains k) = true := by kernel_rfl
theorem fx0 : ∀ w, (Instr.index 235 (.agg #[.int .i64 6, .int .i64 7, .int .i64 10, .int .i64 11, .int .i64 12, .int .i64 13, .int .i64 14]) (.int .i64 0)).run Tryz.prog w = .ok (.int .i64 6) w := fun _ => by kernel_rfl
theorem fx1 : ∀ w, (Instr.index 235 (.agg #[.int .i64 6, .int .i64 7, .int .i64 10, .int .i64 11, .int .i64 12, .int .i64 13, .int .i64 14]) (.int .i64 1)).run Tryz.prog w = .ok (.int .i64 7) w := fun _ => by kernel_rfl
theorem fx2 : ∀ w, (Instr.index 235 (.agg #[.int .i64 6, .int .i64 7, .int .i64 10, .int .i64 11, .int .i64 12, .int .i64 13, .int .i64 14]) (.int .i64 2)).run Tryz.prog w = .ok (.int .i64 10) w := fun _ => by kernel_rfl
theorem fx3 : ∀ w, (Instr.index 235 (.agg #[.int .i64 6, .int .i64 7, .int .i64 10, .int .i64 11, .int .i64 12, .int .i64 13, .int .i64 14]) (.int .i64 3)).run Tryz.prog w = .ok (.int .i64 11) w := fun _ => by kernel_rfl
theorem fx4 : ∀ w, (Instr.index 235 (.agg #[.int .i64 6, .int .i64 7, .int .i64 10, .int .i64 11, .int .i64 12, .int .i64 13, .int .i64 14]) (.int .i64 4)).run Tryz.prog w = .ok (.int .i64 12) w := fun _ => by kernel_rfl
theorem fx5 : ∀ w, (Instr.index 235 (.agg #[.int .i64 6, .int .i64 7, .int .i64 10, .int .i64 11, .int .i64 12, .int .i64 13, .int .i64 14]) (.int .i64 5)).run Tryz.prog w = .ok (.int .i64 13) w := fun _ => by kernel_rfl
theorem fx6 : ∀ w, (Instr.index 235 (.agg #[.int .i64 6, .int .i64 7, .int .i64 10, .int .i64 11, .int .i64 12, .int .i64 13, .int .i64 14]) (.int .i64 6)).run Tryz.prog w = .ok (.int .i64 14) w := fun _ => by kernel_rfl
set_option maxHeartbeats 3200000 in
set_option maxRecDepth 100000 in
theorem fa_at (k : Nat) (hk : k ∈ faC) (w : World) : Calls Tryz.prog 144 #[.int .i64 k] w (ShE w (fms.getD k (0, 0, []))) := by
  simp only [faC, List.mem_cons, List.mem_nil_iff, or_false] at hk
  rcases hk with rfl | rfl | rfl | rfl | rfl | rfl | rfl | rfl | rfl | rfl | rfl | rfl | rfl | rfl | rfl | rfl | rfl | rfl | rfl | rfl | rfl | rfl | rfl
  · have i0 := fx0
    go_enter Tryz.func144, Tryz.ntmps144
    go_wp2
    exact bodyPost_ret (v := shv (14, 6, [114, 120, 109, 120])) (by simp [results, Tryz.results144, go_sem]) rfl ⟨rfl, al1 _ _⟩
  · have i0 := fx0
    go_enter Tryz.func144, Tryz.ntmps144
    go_wp2
    exact bodyPost_ret (v := shv (15, 6, [114, 120, 114, 120, 119, 120])) (by simp [results, Tryz.results144, go_sem]) rfl ⟨rfl, al1 _ _⟩
  · have i0 := fx1
    go_enter Tryz.func144, Tryz.ntmps144
    go_wp2
    exact bodyPost_ret (v := shv (14, 7, [114, 120, 109, 120])) (by simp [results, Tryz.results144, go_sem]) rfl ⟨rfl, al1 _ _⟩
  · have i0 := fx1
    go_enter Tryz.func144, Tryz.ntmps144
    go_wp2
    exact bodyPost_ret (v := shv (15, 7, [114, 120, 114, 120, 119, 120])) (by simp [results, Tryz.results144, go_sem]) rfl ⟨rfl, al1 _ _⟩
  · have i0 := fx2
    go_enter Tryz.func144, Tryz.ntmps144
    go_wp2
    exact bodyPost_ret (v := shv (14, 10, [114, 120, 109, 120])) (by simp [results, Tryz.results144, go_sem]) rfl ⟨rfl, al1 _ _⟩
  · have i0 := fx2
    go_enter Tryz.func144, Tryz.ntmps144
    go_wp2
    exact bodyPost_ret (v := shv (15, 10, [114, 120, 114, 120, 119, 120])) (by simp [results, Tryz.results144, go_sem]) rfl ⟨rfl, al1 _ _⟩
  · have i0 := fx3
    go_enter Tryz.func144, Tryz.ntmps144
    go_wp2
    exact bodyPost_ret (v := shv (14, 11, [114, 120, 109, 120])) (by simp [results, Tryz.results144, go_sem]) rfl ⟨rfl, al1 _ _⟩
  · have i0 := fx3
    go_enter Tryz.func144, Tryz.ntmps144
    go_wp2
    exact bodyPost_ret (v := shv (15, 11, [114, 120, 114, 120, 119, 120])) (by simp [results, Tryz.results144, go_sem]) rfl ⟨rfl, al1 _ _⟩
  · have i0 := fx4
    go_enter Tryz.func144, Tryz.ntmps144
    go_wp2
    exact bodyPost_ret (v := shv (14, 12, [114, 120, 109, 120])) (by simp [results, Tryz.results144, go_sem]) rfl ⟨rfl, al1 _ _⟩
  · have i0 := fx4
    go_enter Tryz.func144, Tryz.ntmps144
    go_wp2
    exact bodyPost_ret (v := shv (15, 12, [114, 120, 114, 120, 119, 120])) (by simp [results, Tryz.results144, go_sem]) rfl ⟨rfl, al1 _ _⟩
  · have i0 := fx5
    go_enter Tryz.func144, Tryz.ntmps144
    go_wp2
    exact bodyPost_ret (v := shv (14, 13, [114, 120, 109, 120])) (by simp [results, Tryz.results144, go_sem]) rfl ⟨rfl, al1 _ _⟩
  · have i0 := fx5
    go_enter Tryz.func144, Tryz.ntmps144
    go_wp2
    exact bodyPost_ret (v := shv (15, 13, [114, 120, 114, 120, 119, 120])) (by simp [results, Tryz.results144, go_sem]) rfl ⟨rfl, al1 _ _⟩
  · have i0 := fx6
    go_enter Tryz.func144, Tryz.ntmps144
    go_wp2
    exact bodyPost_ret (v := shv (14, 14, [114, 120, 109, 120])) (by simp [results, Tryz.results144, go_sem]) rfl ⟨rfl, al1 _ _⟩
  · have i0 := fx6
    go_enter Tryz.func144, Tryz.ntmps144
    go_wp2
    exact bodyPost_ret (v := shv (15, 14, [114, 120, 114, 120, 119, 120])) (by simp [results, Tryz.results144, go_sem]) rfl ⟨rfl, al1 _ _⟩
  · go_enter Tryz.func144, Tryz.ntmps144
    go_wp2
    exact bodyPost_ret (v := shv (12, 3, [114, 120, 119, 120])) (by simp [results, Tryz.results144, go_sem]) rfl ⟨rfl, al1 _ _⟩
  · go_enter Tryz.func144, Tryz.ntmps144
    go_wp2
    exact bodyPost_ret (v := shv (12, 1, [114, 120, 119, 120])) (by simp [results, Tryz.results144, go_sem]) rfl ⟨rfl, al1 _ _⟩
  · go_enter Tryz.func144, Tryz.ntmps144
    go_wp2
    exact bodyPost_ret (v := shv (17, 16, [114, 120, 114, 120])) (by simp [results, Tryz.results144, go_sem]) rfl ⟨rfl, al1 _ _⟩
  · go_enter Tryz.func144, Tryz.ntmps144
    go_wp2
    exact bodyPost_ret (v := shv (12, 2, [114, 120, 119, 120])) (by simp [results, Tryz.results144, go_sem]) rfl ⟨rfl, al1 _ _⟩
  · go_enter Tryz.func144, Tryz.ntmps144
    go_wp2
    exact bodyPost_ret (v := shv (17, 15, [114, 120, 114, 120])) (by simp [results, Tryz.results144, go_sem]) rfl ⟨rfl, al1 _ _⟩
  · go_enter Tryz.func144, Tryz.ntmps144
    go_wp2
    exact bodyPost_ret (v := shv (13, 18, [119, 120])) (by simp [results, Tryz.results144, go_sem]) rfl ⟨rfl, al1 _ _⟩
  · go_enter Tryz.func144, Tryz.ntmps144
    go_wp2
    exact bodyPost_ret (v := shv (16, 17, [114, 120])) (by simp [results, Tryz.results144, go_sem]) rfl ⟨rfl, al1 _ _⟩
  · go_enter Tryz.func144, Tryz.ntmps144
    go_wp2
    exact bodyPost_ret (v := shv (13, 4, [109, 120])) (by simp [results, Tryz.results144, go_sem]) rfl ⟨rfl, al1 _ _⟩
  · go_enter Tryz.func144, Tryz.ntmps144
    go_wp2
    exact bodyPost_ret (v := shv (13, 5, [109, 120])) (by simp [results, Tryz.results144, go_sem]) rfl ⟨rfl, al1 _ _⟩

end Go.Proofs.YteohkobdmkbcpaaGreatDoor.Tl.Ia
