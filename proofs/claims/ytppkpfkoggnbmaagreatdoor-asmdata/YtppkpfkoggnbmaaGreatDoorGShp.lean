import Derived.Test.YtppkpfkoggnbmaaGreatDoorIIsa1
import Derived.Deep.RegionHeld3
import Derived.Laws.MakeOwn
import Derived.IntWalk

/- Shapes of instructions as values. -/
namespace Go.Proofs.YtppkpfkoggnbmaaGreatDoor.Cs.Ia
open Go.RowKit

/-- A shape as a value. -/
abbrev shv (s : Int × Int × List UInt8) : Value := .agg #[.int .i64 s.1, .int .i64 s.2.1, .string (sb s.2.2)]
def ShE (w : World) (s : Int × Int × List UInt8) (e : Ending) (w' : World) : Prop := e = .returned (shv s) ∧ Below w.heap.size w w'
/-- A family's shapes, the size an x. -/
def fms : List (Int × Int × List UInt8) := [(14, 6, [114, 120, 109, 120]), (15, 6, [114, 120, 114, 120, 119, 120]), (14, 7, [114, 120, 109, 120]), (15, 7, [114, 120, 114, 120, 119, 120]), (14, 10, [114, 120, 109, 120]), (15, 10, [114, 120, 114, 120, 119, 120]), (14, 11, [114, 120, 109, 120]), (15, 11, [114, 120, 114, 120, 119, 120]), (14, 12, [114, 120, 109, 120]), (15, 12, [114, 120, 114, 120, 119, 120]), (14, 13, [114, 120, 109, 120]), (15, 13, [114, 120, 114, 120, 119, 120]), (14, 14, [114, 120, 109, 120]), (15, 14, [114, 120, 114, 120, 119, 120]), (12, 3, [114, 120, 119, 120]), (0, 0, []), (12, 1, [114, 120, 119, 120]), (17, 16, [114, 120, 114, 120]), (12, 2, [114, 120, 119, 120]), (17, 15, [114, 120, 114, 120]), (13, 18, [119, 120]), (16, 17, [114, 120]), (13, 4, [109, 120]), (13, 5, [109, 120])]
theorem al1 (w : World) (o : Obj) : Below w.heap.size w (w.alloc o) := (Below.refl _ _).alloc (Nat.le_refl _) _

end Go.Proofs.YtppkpfkoggnbmaaGreatDoor.Cs.Ia

/- Contracts of package isa: the shapes of single codes, and of a family. -/
namespace Go.Proofs.YtppkpfkoggnbmaaGreatDoor.Cs.Ia
open Go.RowKit

def eaC : List Nat := [0, 1, 2, 3, 4, 5, 16, 17, 18, 19, 20, 21, 22, 23, 24, 25, 26, 27, 28, 29, 30, 31, 40, 41, 44, 45, 48, 49, 50, 51, 58, 59, 60]
theorem ea_in : upto 256 (fun k => (decide (nms.getD k [] = []) || Nat.ble 64 k) || eaC.contains k) = true := by kernel_rfl
set_option maxHeartbeats 3200000 in
set_option maxRecDepth 100000 in
theorem ea_at (k : Nat) (hk : k ∈ eaC) (w : World) : Calls Tryz.prog 50 #[.int .i64 k] w (ShE w (sh (k : Int))) := by
  simp only [eaC, List.mem_cons, List.mem_nil_iff, or_false] at hk
  rcases hk with rfl | rfl | rfl | rfl | rfl | rfl | rfl | rfl | rfl | rfl | rfl | rfl | rfl | rfl | rfl | rfl | rfl | rfl | rfl | rfl | rfl | rfl | rfl | rfl | rfl | rfl | rfl | rfl | rfl | rfl | rfl | rfl | rfl
  · go_enter Tryz.func50, Tryz.ntmps50
    go_wp2
    exact bodyPost_ret (v := shv (1, 0, [])) (by simp [results, Tryz.results50, go_sem]) rfl ⟨rfl, al1 _ _⟩
  · go_enter Tryz.func50, Tryz.ntmps50
    go_wp2
    exact bodyPost_ret (v := shv (2, 0, [])) (by simp [results, Tryz.results50, go_sem]) rfl ⟨rfl, al1 _ _⟩
  · go_enter Tryz.func50, Tryz.ntmps50
    go_wp2
    exact bodyPost_ret (v := shv (3, 0, [])) (by simp [results, Tryz.results50, go_sem]) rfl ⟨rfl, al1 _ _⟩
  · go_enter Tryz.func50, Tryz.ntmps50
    go_wp2
    exact bodyPost_ret (v := shv (4, 0, [])) (by simp [results, Tryz.results50, go_sem]) rfl ⟨rfl, al1 _ _⟩
  · go_enter Tryz.func50, Tryz.ntmps50
    go_wp2
    exact bodyPost_ret (v := shv (5, 0, [])) (by simp [results, Tryz.results50, go_sem]) rfl ⟨rfl, al1 _ _⟩
  · go_enter Tryz.func50, Tryz.ntmps50
    go_wp2
    exact bodyPost_ret (v := shv (6, 0, [])) (by simp [results, Tryz.results50, go_sem]) rfl ⟨rfl, al1 _ _⟩
  · go_enter Tryz.func50, Tryz.ntmps50
    go_wp2
    exact bodyPost_ret (v := shv (7, 0, [98, 98])) (by simp [results, Tryz.results50, go_sem]) rfl ⟨rfl, al1 _ _⟩
  · go_enter Tryz.func50, Tryz.ntmps50
    go_wp2
    exact bodyPost_ret (v := shv (8, 0, [98, 98])) (by simp [results, Tryz.results50, go_sem]) rfl ⟨rfl, al1 _ _⟩
  · go_enter Tryz.func50, Tryz.ntmps50
    go_wp2
    exact bodyPost_ret (v := shv (9, 0, [98, 98])) (by simp [results, Tryz.results50, go_sem]) rfl ⟨rfl, al1 _ _⟩
  · go_enter Tryz.func50, Tryz.ntmps50
    go_wp2
    exact bodyPost_ret (v := shv (9, 0, [98, 98])) (by simp [results, Tryz.results50, go_sem]) rfl ⟨rfl, al1 _ _⟩
  · go_enter Tryz.func50, Tryz.ntmps50
    go_wp2
    exact bodyPost_ret (v := shv (9, 0, [98, 98])) (by simp [results, Tryz.results50, go_sem]) rfl ⟨rfl, al1 _ _⟩
  · go_enter Tryz.func50, Tryz.ntmps50
    go_wp2
    exact bodyPost_ret (v := shv (9, 0, [98, 98])) (by simp [results, Tryz.results50, go_sem]) rfl ⟨rfl, al1 _ _⟩
  · go_enter Tryz.func50, Tryz.ntmps50
    go_wp2
    exact bodyPost_ret (v := shv (10, 0, [97, 98])) (by simp [results, Tryz.results50, go_sem]) rfl ⟨rfl, al1 _ _⟩
  · go_enter Tryz.func50, Tryz.ntmps50
    go_wp2
    exact bodyPost_ret (v := shv (11, 0, [97, 98])) (by simp [results, Tryz.results50, go_sem]) rfl ⟨rfl, al1 _ _⟩
  · go_enter Tryz.func50, Tryz.ntmps50
    go_wp2
    exact bodyPost_ret (v := shv (9, 0, [98, 98])) (by simp [results, Tryz.results50, go_sem]) rfl ⟨rfl, al1 _ _⟩
  · go_enter Tryz.func50, Tryz.ntmps50
    go_wp2
    exact bodyPost_ret (v := shv (9, 0, [98, 98])) (by simp [results, Tryz.results50, go_sem]) rfl ⟨rfl, al1 _ _⟩
  · go_enter Tryz.func50, Tryz.ntmps50
    go_wp2
    exact bodyPost_ret (v := shv (9, 0, [98, 98])) (by simp [results, Tryz.results50, go_sem]) rfl ⟨rfl, al1 _ _⟩
  · go_enter Tryz.func50, Tryz.ntmps50
    go_wp2
    exact bodyPost_ret (v := shv (9, 0, [98, 98])) (by simp [results, Tryz.results50, go_sem]) rfl ⟨rfl, al1 _ _⟩
  · go_enter Tryz.func50, Tryz.ntmps50
    go_wp2
    exact bodyPost_ret (v := shv (9, 0, [98, 98])) (by simp [results, Tryz.results50, go_sem]) rfl ⟨rfl, al1 _ _⟩
  · go_enter Tryz.func50, Tryz.ntmps50
    go_wp2
    exact bodyPost_ret (v := shv (9, 0, [98, 98])) (by simp [results, Tryz.results50, go_sem]) rfl ⟨rfl, al1 _ _⟩
  · go_enter Tryz.func50, Tryz.ntmps50
    go_wp2
    exact bodyPost_ret (v := shv (9, 0, [98, 98])) (by simp [results, Tryz.results50, go_sem]) rfl ⟨rfl, al1 _ _⟩
  · go_enter Tryz.func50, Tryz.ntmps50
    go_wp2
    exact bodyPost_ret (v := shv (9, 0, [98, 98])) (by simp [results, Tryz.results50, go_sem]) rfl ⟨rfl, al1 _ _⟩
  · go_enter Tryz.func50, Tryz.ntmps50
    go_wp2
    exact bodyPost_ret (v := shv (40, 0, [114, 119, 97, 98, 97, 98])) (by simp [results, Tryz.results50, go_sem]) rfl ⟨rfl, al1 _ _⟩
  · go_enter Tryz.func50, Tryz.ntmps50
    go_wp2
    exact bodyPost_ret (v := shv (42, 0, [114, 119, 97, 98, 97, 98])) (by simp [results, Tryz.results50, go_sem]) rfl ⟨rfl, al1 _ _⟩
  · go_enter Tryz.func50, Tryz.ntmps50
    go_wp2
    exact bodyPost_ret (v := shv (41, 0, [114, 119, 97, 98, 114, 98, 114, 119, 97, 98])) (by simp [results, Tryz.results50, go_sem]) rfl ⟨rfl, al1 _ _⟩
  · go_enter Tryz.func50, Tryz.ntmps50
    go_wp2
    exact bodyPost_ret (v := shv (43, 0, [114, 119, 97, 98, 114, 98, 114, 119, 97, 98])) (by simp [results, Tryz.results50, go_sem]) rfl ⟨rfl, al1 _ _⟩
  · go_enter Tryz.func50, Tryz.ntmps50
    go_wp2
    exact bodyPost_ret (v := shv (7, 0, [98, 119])) (by simp [results, Tryz.results50, go_sem]) rfl ⟨rfl, al1 _ _⟩
  · go_enter Tryz.func50, Tryz.ntmps50
    go_wp2
    exact bodyPost_ret (v := shv (8, 0, [98, 119])) (by simp [results, Tryz.results50, go_sem]) rfl ⟨rfl, al1 _ _⟩
  · go_enter Tryz.func50, Tryz.ntmps50
    go_wp2
    exact bodyPost_ret (v := shv (18, 0, [114, 119, 119, 108])) (by simp [results, Tryz.results50, go_sem]) rfl ⟨rfl, al1 _ _⟩
  · go_enter Tryz.func50, Tryz.ntmps50
    go_wp2
    exact bodyPost_ret (v := shv (18, 0, [114, 119, 119, 98])) (by simp [results, Tryz.results50, go_sem]) rfl ⟨rfl, al1 _ _⟩
  · go_enter Tryz.func50, Tryz.ntmps50
    go_wp2
    exact bodyPost_ret (v := shv (44, 0, [114, 98, 114, 119, 97, 98])) (by simp [results, Tryz.results50, go_sem]) rfl ⟨rfl, al1 _ _⟩
  · go_enter Tryz.func50, Tryz.ntmps50
    go_wp2
    exact bodyPost_ret (v := shv (45, 0, [114, 98, 114, 119, 97, 98])) (by simp [results, Tryz.results50, go_sem]) rfl ⟨rfl, al1 _ _⟩
  · go_enter Tryz.func50, Tryz.ntmps50
    go_wp2
    exact bodyPost_ret (v := shv (19, 0, [114, 119, 119, 108])) (by simp [results, Tryz.results50, go_sem]) rfl ⟨rfl, al1 _ _⟩

def laC : List Nat := [224, 225, 232, 233, 238, 239, 240, 242, 243, 244, 245, 246, 247, 251]
theorem la_in : upto 256 (fun k => (decide (nms.getD k [] = []) || !Nat.ble 224 k) || laC.contains k) = true := by kernel_rfl
set_option maxHeartbeats 3200000 in
set_option maxRecDepth 100000 in
theorem la_at (k : Nat) (hk : k ∈ laC) (w : World) : Calls Tryz.prog 51 #[.int .i64 k] w (ShE w (sh (k : Int))) := by
  simp only [laC, List.mem_cons, List.mem_nil_iff, or_false] at hk
  rcases hk with rfl | rfl | rfl | rfl | rfl | rfl | rfl | rfl | rfl | rfl | rfl | rfl | rfl | rfl
  · go_enter Tryz.func51, Tryz.ntmps51
    go_wp2
    exact bodyPost_ret (v := shv (26, 1, [114, 108, 118, 98, 98, 98])) (by simp [results, Tryz.results51, go_sem]) rfl ⟨rfl, al1 _ _⟩
  · go_enter Tryz.func51, Tryz.ntmps51
    go_wp2
    exact bodyPost_ret (v := shv (26, 0, [114, 108, 118, 98, 98, 98])) (by simp [results, Tryz.results51, go_sem]) rfl ⟨rfl, al1 _ _⟩
  · go_enter Tryz.func51, Tryz.ntmps51
    go_wp2
    exact bodyPost_ret (v := shv (25, 1, [114, 108, 98, 98])) (by simp [results, Tryz.results51, go_sem]) rfl ⟨rfl, al1 _ _⟩
  · go_enter Tryz.func51, Tryz.ntmps51
    go_wp2
    exact bodyPost_ret (v := shv (25, 0, [114, 108, 98, 98])) (by simp [results, Tryz.results51, go_sem]) rfl ⟨rfl, al1 _ _⟩
  · go_enter Tryz.func51, Tryz.ntmps51
    go_wp2
    exact bodyPost_ret (v := shv (29, 1, [114, 108, 114, 98, 118, 98, 119, 108])) (by simp [results, Tryz.results51, go_sem]) rfl ⟨rfl, al1 _ _⟩
  · go_enter Tryz.func51, Tryz.ntmps51
    go_wp2
    exact bodyPost_ret (v := shv (29, 0, [114, 108, 114, 98, 118, 98, 119, 108])) (by simp [results, Tryz.results51, go_sem]) rfl ⟨rfl, al1 _ _⟩
  · go_enter Tryz.func51, Tryz.ntmps51
    go_wp2
    exact bodyPost_ret (v := shv (30, 0, [114, 108, 114, 108, 114, 98, 118, 98])) (by simp [results, Tryz.results51, go_sem]) rfl ⟨rfl, al1 _ _⟩
  · go_enter Tryz.func51, Tryz.ntmps51
    go_wp2
    exact bodyPost_ret (v := shv (27, 0, [114, 108, 109, 108, 98, 98])) (by simp [results, Tryz.results51, go_sem]) rfl ⟨rfl, al1 _ _⟩
  · go_enter Tryz.func51, Tryz.ntmps51
    go_wp2
    exact bodyPost_ret (v := shv (27, 1, [114, 108, 109, 108, 98, 98])) (by simp [results, Tryz.results51, go_sem]) rfl ⟨rfl, al1 _ _⟩
  · go_enter Tryz.func51, Tryz.ntmps51
    go_wp2
    exact bodyPost_ret (v := shv (28, 1, [109, 108, 98, 98])) (by simp [results, Tryz.results51, go_sem]) rfl ⟨rfl, al1 _ _⟩
  · go_enter Tryz.func51, Tryz.ntmps51
    go_wp2
    exact bodyPost_ret (v := shv (28, 0, [109, 108, 98, 98])) (by simp [results, Tryz.results51, go_sem]) rfl ⟨rfl, al1 _ _⟩
  · go_enter Tryz.func51, Tryz.ntmps51
    go_wp2
    exact bodyPost_ret (v := shv (18, 0, [114, 108, 119, 98])) (by simp [results, Tryz.results51, go_sem]) rfl ⟨rfl, al1 _ _⟩
  · go_enter Tryz.func51, Tryz.ntmps51
    go_wp2
    exact bodyPost_ret (v := shv (18, 0, [114, 108, 119, 119])) (by simp [results, Tryz.results51, go_sem]) rfl ⟨rfl, al1 _ _⟩
  · go_enter Tryz.func51, Tryz.ntmps51
    go_wp2
    exact bodyPost_ret (v := shv (31, 0, [114, 108, 97, 98])) (by simp [results, Tryz.results51, go_sem]) rfl ⟨rfl, al1 _ _⟩

def odC : List Nat := [120, 152, 153, 154, 155, 156, 158, 159, 184, 185, 186, 187, 188, 190, 191, 216, 217, 218, 219, 220, 221, 222, 223]
theorem od_in : upto 256 (fun k => (decide (nms.getD k [] = []) || (!Nat.ble 96 k || (Nat.ble 224 k || !Nat.ble 24 ((k - 96) % 32)))) || odC.contains k) = true := by kernel_rfl
set_option maxHeartbeats 3200000 in
set_option maxRecDepth 100000 in
theorem od_at (k : Nat) (hk : k ∈ odC) (w : World) : Calls Tryz.prog 52 #[.int .i64 k] w (ShE w (sh (k : Int))) := by
  simp only [odC, List.mem_cons, List.mem_nil_iff, or_false] at hk
  rcases hk with rfl | rfl | rfl | rfl | rfl | rfl | rfl | rfl | rfl | rfl | rfl | rfl | rfl | rfl | rfl | rfl | rfl | rfl | rfl | rfl | rfl | rfl | rfl
  · go_enter Tryz.func52, Tryz.ntmps52
    go_wp2
    exact bodyPost_ret (v := shv (23, 0, [114, 98, 114, 108, 119, 108])) (by simp [results, Tryz.results52, go_sem]) rfl ⟨rfl, al1 _ _⟩
  · go_enter Tryz.func52, Tryz.ntmps52
    go_wp2
    exact bodyPost_ret (v := shv (18, 0, [114, 98, 119, 108])) (by simp [results, Tryz.results52, go_sem]) rfl ⟨rfl, al1 _ _⟩
  · go_enter Tryz.func52, Tryz.ntmps52
    go_wp2
    exact bodyPost_ret (v := shv (18, 0, [114, 98, 119, 119])) (by simp [results, Tryz.results52, go_sem]) rfl ⟨rfl, al1 _ _⟩
  · go_enter Tryz.func52, Tryz.ntmps52
    go_wp2
    exact bodyPost_ret (v := shv (19, 0, [114, 98, 119, 108])) (by simp [results, Tryz.results52, go_sem]) rfl ⟨rfl, al1 _ _⟩
  · go_enter Tryz.func52, Tryz.ntmps52
    go_wp2
    exact bodyPost_ret (v := shv (19, 0, [114, 98, 119, 119])) (by simp [results, Tryz.results52, go_sem]) rfl ⟨rfl, al1 _ _⟩
  · go_enter Tryz.func52, Tryz.ntmps52
    go_wp2
    exact bodyPost_ret (v := shv (24, 0, [114, 98, 114, 108, 119, 108])) (by simp [results, Tryz.results52, go_sem]) rfl ⟨rfl, al1 _ _⟩
  · go_enter Tryz.func52, Tryz.ntmps52
    go_wp2
    exact bodyPost_ret (v := shv (20, 0, [97, 98, 119, 108])) (by simp [results, Tryz.results52, go_sem]) rfl ⟨rfl, al1 _ _⟩
  · go_enter Tryz.func52, Tryz.ntmps52
    go_wp2
    exact bodyPost_ret (v := shv (21, 0, [97, 98])) (by simp [results, Tryz.results52, go_sem]) rfl ⟨rfl, al1 _ _⟩
  · go_enter Tryz.func52, Tryz.ntmps52
    go_wp2
    exact bodyPost_ret (v := shv (35, 0, [114, 119])) (by simp [results, Tryz.results52, go_sem]) rfl ⟨rfl, al1 _ _⟩
  · go_enter Tryz.func52, Tryz.ntmps52
    go_wp2
    exact bodyPost_ret (v := shv (36, 0, [114, 119])) (by simp [results, Tryz.results52, go_sem]) rfl ⟨rfl, al1 _ _⟩
  · go_enter Tryz.func52, Tryz.ntmps52
    go_wp2
    exact bodyPost_ret (v := shv (33, 0, [114, 119])) (by simp [results, Tryz.results52, go_sem]) rfl ⟨rfl, al1 _ _⟩
  · go_enter Tryz.func52, Tryz.ntmps52
    go_wp2
    exact bodyPost_ret (v := shv (32, 0, [114, 119])) (by simp [results, Tryz.results52, go_sem]) rfl ⟨rfl, al1 _ _⟩
  · go_enter Tryz.func52, Tryz.ntmps52
    go_wp2
    exact bodyPost_ret (v := shv (37, 0, [114, 119])) (by simp [results, Tryz.results52, go_sem]) rfl ⟨rfl, al1 _ _⟩
  · go_enter Tryz.func52, Tryz.ntmps52
    go_wp2
    exact bodyPost_ret (v := shv (20, 0, [97, 119, 119, 108])) (by simp [results, Tryz.results52, go_sem]) rfl ⟨rfl, al1 _ _⟩
  · go_enter Tryz.func52, Tryz.ntmps52
    go_wp2
    exact bodyPost_ret (v := shv (21, 0, [97, 119])) (by simp [results, Tryz.results52, go_sem]) rfl ⟨rfl, al1 _ _⟩
  · go_enter Tryz.func52, Tryz.ntmps52
    go_wp2
    exact bodyPost_ret (v := shv (14, 8, [114, 108, 109, 108])) (by simp [results, Tryz.results52, go_sem]) rfl ⟨rfl, al1 _ _⟩
  · go_enter Tryz.func52, Tryz.ntmps52
    go_wp2
    exact bodyPost_ret (v := shv (14, 9, [114, 108, 109, 108])) (by simp [results, Tryz.results52, go_sem]) rfl ⟨rfl, al1 _ _⟩
  · go_enter Tryz.func52, Tryz.ntmps52
    go_wp2
    exact bodyPost_ret (v := shv (38, 0, [114, 108, 114, 108])) (by simp [results, Tryz.results52, go_sem]) rfl ⟨rfl, al1 _ _⟩
  · go_enter Tryz.func52, Tryz.ntmps52
    go_wp2
    exact bodyPost_ret (v := shv (39, 0, [114, 108, 119, 108])) (by simp [results, Tryz.results52, go_sem]) rfl ⟨rfl, al1 _ _⟩
  · go_enter Tryz.func52, Tryz.ntmps52
    go_wp2
    exact bodyPost_ret (v := shv (34, 0, [119, 108])) (by simp [results, Tryz.results52, go_sem]) rfl ⟨rfl, al1 _ _⟩
  · go_enter Tryz.func52, Tryz.ntmps52
    go_wp2
    exact bodyPost_ret (v := shv (22, 0, [114, 108])) (by simp [results, Tryz.results52, go_sem]) rfl ⟨rfl, al1 _ _⟩
  · go_enter Tryz.func52, Tryz.ntmps52
    go_wp2
    exact bodyPost_ret (v := shv (20, 0, [97, 108, 119, 108])) (by simp [results, Tryz.results52, go_sem]) rfl ⟨rfl, al1 _ _⟩
  · go_enter Tryz.func52, Tryz.ntmps52
    go_wp2
    exact bodyPost_ret (v := shv (21, 0, [97, 108])) (by simp [results, Tryz.results52, go_sem]) rfl ⟨rfl, al1 _ _⟩

end Go.Proofs.YtppkpfkoggnbmaaGreatDoor.Cs.Ia

/- Contracts of package isa: the shapes of a family. -/
namespace Go.Proofs.YtppkpfkoggnbmaaGreatDoor.Cs.Ia
open Go.RowKit

def faC : List Nat := [0, 1, 2, 3, 4, 5, 6, 7, 8, 9, 10, 11, 12, 13, 14, 16, 17, 18, 19, 20, 21, 22, 23]
theorem fa_in : upto 24 (fun k => decide (fam.getD k [] = []) || faC.contains k) = true := by kernel_rfl
theorem fx0 : ∀ w, (Instr.index 120 (.agg #[.int .i64 6, .int .i64 7, .int .i64 10, .int .i64 11, .int .i64 12, .int .i64 13, .int .i64 14]) (.int .i64 0)).run Tryz.prog w = .ok (.int .i64 6) w := fun _ => by kernel_rfl
theorem fx1 : ∀ w, (Instr.index 120 (.agg #[.int .i64 6, .int .i64 7, .int .i64 10, .int .i64 11, .int .i64 12, .int .i64 13, .int .i64 14]) (.int .i64 1)).run Tryz.prog w = .ok (.int .i64 7) w := fun _ => by kernel_rfl
theorem fx2 : ∀ w, (Instr.index 120 (.agg #[.int .i64 6, .int .i64 7, .int .i64 10, .int .i64 11, .int .i64 12, .int .i64 13, .int .i64 14]) (.int .i64 2)).run Tryz.prog w = .ok (.int .i64 10) w := fun _ => by kernel_rfl
theorem fx3 : ∀ w, (Instr.index 120 (.agg #[.int .i64 6, .int .i64 7, .int .i64 10, .int .i64 11, .int .i64 12, .int .i64 13, .int .i64 14]) (.int .i64 3)).run Tryz.prog w = .ok (.int .i64 11) w := fun _ => by kernel_rfl
theorem fx4 : ∀ w, (Instr.index 120 (.agg #[.int .i64 6, .int .i64 7, .int .i64 10, .int .i64 11, .int .i64 12, .int .i64 13, .int .i64 14]) (.int .i64 4)).run Tryz.prog w = .ok (.int .i64 12) w := fun _ => by kernel_rfl
theorem fx5 : ∀ w, (Instr.index 120 (.agg #[.int .i64 6, .int .i64 7, .int .i64 10, .int .i64 11, .int .i64 12, .int .i64 13, .int .i64 14]) (.int .i64 5)).run Tryz.prog w = .ok (.int .i64 13) w := fun _ => by kernel_rfl
theorem fx6 : ∀ w, (Instr.index 120 (.agg #[.int .i64 6, .int .i64 7, .int .i64 10, .int .i64 11, .int .i64 12, .int .i64 13, .int .i64 14]) (.int .i64 6)).run Tryz.prog w = .ok (.int .i64 14) w := fun _ => by kernel_rfl
set_option maxHeartbeats 3200000 in
set_option maxRecDepth 100000 in
theorem fa_at (k : Nat) (hk : k ∈ faC) (w : World) : Calls Tryz.prog 53 #[.int .i64 k] w (ShE w (fms.getD k (0, 0, []))) := by
  simp only [faC, List.mem_cons, List.mem_nil_iff, or_false] at hk
  rcases hk with rfl | rfl | rfl | rfl | rfl | rfl | rfl | rfl | rfl | rfl | rfl | rfl | rfl | rfl | rfl | rfl | rfl | rfl | rfl | rfl | rfl | rfl | rfl
  · have i0 := fx0
    go_enter Tryz.func53, Tryz.ntmps53
    go_wp2
    exact bodyPost_ret (v := shv (14, 6, [114, 120, 109, 120])) (by simp [results, Tryz.results53, go_sem]) rfl ⟨rfl, al1 _ _⟩
  · have i0 := fx0
    go_enter Tryz.func53, Tryz.ntmps53
    go_wp2
    exact bodyPost_ret (v := shv (15, 6, [114, 120, 114, 120, 119, 120])) (by simp [results, Tryz.results53, go_sem]) rfl ⟨rfl, al1 _ _⟩
  · have i0 := fx1
    go_enter Tryz.func53, Tryz.ntmps53
    go_wp2
    exact bodyPost_ret (v := shv (14, 7, [114, 120, 109, 120])) (by simp [results, Tryz.results53, go_sem]) rfl ⟨rfl, al1 _ _⟩
  · have i0 := fx1
    go_enter Tryz.func53, Tryz.ntmps53
    go_wp2
    exact bodyPost_ret (v := shv (15, 7, [114, 120, 114, 120, 119, 120])) (by simp [results, Tryz.results53, go_sem]) rfl ⟨rfl, al1 _ _⟩
  · have i0 := fx2
    go_enter Tryz.func53, Tryz.ntmps53
    go_wp2
    exact bodyPost_ret (v := shv (14, 10, [114, 120, 109, 120])) (by simp [results, Tryz.results53, go_sem]) rfl ⟨rfl, al1 _ _⟩
  · have i0 := fx2
    go_enter Tryz.func53, Tryz.ntmps53
    go_wp2
    exact bodyPost_ret (v := shv (15, 10, [114, 120, 114, 120, 119, 120])) (by simp [results, Tryz.results53, go_sem]) rfl ⟨rfl, al1 _ _⟩
  · have i0 := fx3
    go_enter Tryz.func53, Tryz.ntmps53
    go_wp2
    exact bodyPost_ret (v := shv (14, 11, [114, 120, 109, 120])) (by simp [results, Tryz.results53, go_sem]) rfl ⟨rfl, al1 _ _⟩
  · have i0 := fx3
    go_enter Tryz.func53, Tryz.ntmps53
    go_wp2
    exact bodyPost_ret (v := shv (15, 11, [114, 120, 114, 120, 119, 120])) (by simp [results, Tryz.results53, go_sem]) rfl ⟨rfl, al1 _ _⟩
  · have i0 := fx4
    go_enter Tryz.func53, Tryz.ntmps53
    go_wp2
    exact bodyPost_ret (v := shv (14, 12, [114, 120, 109, 120])) (by simp [results, Tryz.results53, go_sem]) rfl ⟨rfl, al1 _ _⟩
  · have i0 := fx4
    go_enter Tryz.func53, Tryz.ntmps53
    go_wp2
    exact bodyPost_ret (v := shv (15, 12, [114, 120, 114, 120, 119, 120])) (by simp [results, Tryz.results53, go_sem]) rfl ⟨rfl, al1 _ _⟩
  · have i0 := fx5
    go_enter Tryz.func53, Tryz.ntmps53
    go_wp2
    exact bodyPost_ret (v := shv (14, 13, [114, 120, 109, 120])) (by simp [results, Tryz.results53, go_sem]) rfl ⟨rfl, al1 _ _⟩
  · have i0 := fx5
    go_enter Tryz.func53, Tryz.ntmps53
    go_wp2
    exact bodyPost_ret (v := shv (15, 13, [114, 120, 114, 120, 119, 120])) (by simp [results, Tryz.results53, go_sem]) rfl ⟨rfl, al1 _ _⟩
  · have i0 := fx6
    go_enter Tryz.func53, Tryz.ntmps53
    go_wp2
    exact bodyPost_ret (v := shv (14, 14, [114, 120, 109, 120])) (by simp [results, Tryz.results53, go_sem]) rfl ⟨rfl, al1 _ _⟩
  · have i0 := fx6
    go_enter Tryz.func53, Tryz.ntmps53
    go_wp2
    exact bodyPost_ret (v := shv (15, 14, [114, 120, 114, 120, 119, 120])) (by simp [results, Tryz.results53, go_sem]) rfl ⟨rfl, al1 _ _⟩
  · go_enter Tryz.func53, Tryz.ntmps53
    go_wp2
    exact bodyPost_ret (v := shv (12, 3, [114, 120, 119, 120])) (by simp [results, Tryz.results53, go_sem]) rfl ⟨rfl, al1 _ _⟩
  · go_enter Tryz.func53, Tryz.ntmps53
    go_wp2
    exact bodyPost_ret (v := shv (12, 1, [114, 120, 119, 120])) (by simp [results, Tryz.results53, go_sem]) rfl ⟨rfl, al1 _ _⟩
  · go_enter Tryz.func53, Tryz.ntmps53
    go_wp2
    exact bodyPost_ret (v := shv (17, 16, [114, 120, 114, 120])) (by simp [results, Tryz.results53, go_sem]) rfl ⟨rfl, al1 _ _⟩
  · go_enter Tryz.func53, Tryz.ntmps53
    go_wp2
    exact bodyPost_ret (v := shv (12, 2, [114, 120, 119, 120])) (by simp [results, Tryz.results53, go_sem]) rfl ⟨rfl, al1 _ _⟩
  · go_enter Tryz.func53, Tryz.ntmps53
    go_wp2
    exact bodyPost_ret (v := shv (17, 15, [114, 120, 114, 120])) (by simp [results, Tryz.results53, go_sem]) rfl ⟨rfl, al1 _ _⟩
  · go_enter Tryz.func53, Tryz.ntmps53
    go_wp2
    exact bodyPost_ret (v := shv (13, 18, [119, 120])) (by simp [results, Tryz.results53, go_sem]) rfl ⟨rfl, al1 _ _⟩
  · go_enter Tryz.func53, Tryz.ntmps53
    go_wp2
    exact bodyPost_ret (v := shv (16, 17, [114, 120])) (by simp [results, Tryz.results53, go_sem]) rfl ⟨rfl, al1 _ _⟩
  · go_enter Tryz.func53, Tryz.ntmps53
    go_wp2
    exact bodyPost_ret (v := shv (13, 4, [109, 120])) (by simp [results, Tryz.results53, go_sem]) rfl ⟨rfl, al1 _ _⟩
  · go_enter Tryz.func53, Tryz.ntmps53
    go_wp2
    exact bodyPost_ret (v := shv (13, 5, [109, 120])) (by simp [results, Tryz.results53, go_sem]) rfl ⟨rfl, al1 _ _⟩

end Go.Proofs.YtppkpfkoggnbmaaGreatDoor.Cs.Ia

/- Contracts of package isa: operands. -/
namespace Go.Proofs.YtppkpfkoggnbmaaGreatDoor.Cs.Ia
open Go.RowKit

/-- Operands that a slice of the call's own holds: those that are told, and nothing behind. -/
def ol (l : List UInt8) (k : Nat) : List (Int × Int) := (List.range (l.length / 2)).map fun i => if i < k then (((l.getD (2 * i) 0).toNat : Int), szp (l.getD (2 * i + 1) 0)) else (0, 0)
theorem ol_len (l : List UInt8) (k : Nat) : (ol l k).length = l.length / 2 := by simp [ol]
theorem opl_get (l : List UInt8) : opl l = (List.range (l.length / 2)).map fun i => (((l.getD (2 * i) 0).toNat : Int), szp (l.getD (2 * i + 1) 0)) := by
  match l with
  | [] => rfl
  | [a] => simp [opl]
  | a :: b :: l =>
    have h : (a :: b :: l).length / 2 = l.length / 2 + 1 := by simp only [List.length_cons]; omega
    rw [h, List.range_succ_eq_map, List.map_cons, List.map_map, opl, opl_get l]
    congr 1
theorem ol_all (l : List UInt8) (k : Nat) (h : l.length / 2 ≤ k) : ol l k = opl l := by
  rw [opl_get]
  unfold ol
  apply List.map_congr_left
  intro i hi
  rw [List.mem_range] at hi
  rw [if_pos (by omega)]
theorem cop_set (xs : List (Int × Int)) (k : Nat) (o : Int × Int) (h : k < xs.length) : cop (xs.set k o) = ((cop xs).set (k * 2) (.int .u8 o.1)).set (k * 2 + 1) (.int .i64 o.2) := by
  induction xs generalizing k with
  | nil => simp at h
  | cons r xs ih =>
    cases k with
    | zero => simp [cop]
    | succ k =>
      rw [show (k + 1) * 2 = k * 2 + 1 + 1 by omega]
      simp only [List.set_cons_succ, cop]
      rw [ih k (by simpa using h)]
theorem ol_succ (l : List UInt8) (k : Nat) (h : k < l.length / 2) : ol l (k + 1) = (ol l k).set k (((l.getD (2 * k) 0).toNat : Int), szp (l.getD (2 * k + 1) 0)) := by
  apply List.ext_getElem?
  intro i
  rw [List.getElem?_set]
  simp only [ol, List.getElem?_map, List.length_map, List.length_range]
  by_cases e : k = i
  · subst e
    simp [h]
  · simp only [if_neg e]
    by_cases hi : i < l.length / 2
    · rw [List.getElem?_range hi]
      simp only [Option.map_some, Option.some.injEq]
      by_cases h1 : i < k
      · rw [if_pos h1, if_pos (by omega)]
      · rw [if_neg h1, if_neg (by omega)]
    · rw [List.getElem?_eq_none (by simp; omega)]
      rfl
/-- Rounds of operands. -/
structure Or (w : World) (l : List UInt8) (b k : Nat) (W : World) : Prop where
  row : Bk W b 45 (cop (ol l k))
  ab : w.heap.size ≤ b
  bel : Below w.heap.size w W
theorem Or.next {w W : World} {l : List UInt8} {b k : Nat} (h : Or w l b k W) (hk : k < l.length / 2) :
    Or w l b (k + 1) ((W.setCell ⟨b, k * 2, none⟩ (.int .u8 ((l.getD (2 * k) 0).toNat : Int))).setCell ⟨b, k * 2 + 1, none⟩ (.int .i64 (szp (l.getD (2 * k + 1) 0)))) := by
  refine ⟨?_, h.ab, (h.bel.setCell h.ab _).setCell h.ab _⟩
  rw [ol_succ l k hk, cop_set _ _ _ (by rw [ol_len]; exact hk)]
  exact (h.row.set _ _).set _ _
theorem Or.drew {w W : World} {l : List UInt8} {b k : Nat} (h : Or w l b k W) : Or w l b k W.drew := ⟨h.row.drew, h.ab, h.bel.drew⟩
theorem Or.fin {w W : World} {l : List UInt8} {b k : Nat} (h : Or w l b k W) (hk : l.length / 2 ≤ k) (hl : l.length ≤ 1000) : Ro W (.slice (some ⟨b, 0, none⟩) (l.length / 2) (l.length / 2)) (opl l) ∧ Ab w.heap.size (Bl (.slice (some ⟨b, 0, none⟩) (l.length / 2) (l.length / 2))) := by
  have hr := h.row
  rw [ol_all l k hk] at hr
  have hn : (opl l).length = l.length / 2 := by rw [← ol_all l k hk, ol_len]
  refine ⟨⟨by rw [cop_length], .inr ⟨b, l.length / 2, (cop (opl l)).toArray, by rw [hn], Nat.zero_le _, hr, by rw [hn]; exact Nat.le_refl _, by unfold maxLen; omega, by simp [cop_length, hn], ?_⟩⟩, fun k hk => ?_⟩
  · simp only [hn]
    rw [List.take_of_length_le (by simp [cop_length, hn])]
  · simp [Bl, Value.ownBlock] at hk
    have := h.ab
    omega

theorem cop_rep (n : Nat) : madeCells (Value.agg #[.int .u8 0, .int .i64 0]).cells (n * 2) = (cop (List.replicate n (0, 0))).toArray := by
  apply Array.ext
  · rw [size_madeCells]; simp [cop_length]
  · intro i h1 h2
    rw [size_madeCells] at h1
    have hc : (Value.agg #[.int .u8 0, .int .i64 0]).cells = #[.int .u8 0, .int .i64 0] := rfl
    have key : (cop (List.replicate n (0, 0)))[i]? = some ((#[Value.int .u8 0, .int .i64 0] : Array Value)[i % 2]!) := by
      have hd : i = i / 2 * 2 + i % 2 := by omega
      have hl : i / 2 < (List.replicate n ((0 : Int), (0 : Int))).length := by simp; omega
      have ho : opn (List.replicate n ((0 : Int), (0 : Int))) (i / 2) = (0, 0) := by simp [opn, List.getD, List.getElem?_replicate]; split <;> rfl
      rcases Nat.mod_two_eq_zero_or_one i with h | h
      · rw [h] at hd ⊢
        rw [hd, Nat.add_zero, cop_get0 _ _ hl, ho]
        rfl
      · rw [h] at hd ⊢
        rw [hd, cop_get1 _ _ hl, ho]
        rfl
    have h3 : i < (cop (List.replicate n (0, 0))).length := by simpa using h2
    rw [List.getElem?_eq_getElem h3] at key
    injection key with key
    simp only [madeCells, Array.getElem_map, Array.getElem_range, hc, List.getElem_toArray]
    rw [key]
    rfl
theorem run_make_ops (n : Nat) (hn : n ≤ 1000) (w : World) :
    (Instr.makeSlice 39 (.int .i64 (n : Int)) (.int .i64 (n : Int))).run Tryz.prog w = .ok (.slice (some ⟨w.heap.size, 0, none⟩) n n) (w.alloc (.cells (cop (List.replicate n (0, 0))).toArray 45)) := by
  obtain ⟨i, hi, hz, hs, hb⟩ := info_parts opr_info
  have hr := run_make (P := Tryz.prog) w _ _ i _ under_ops hi hz .i64 .i64 n n (by omega) (by omega) (by rw [hb]; omega) (by omega)
  rw [hs] at hr
  simp only [Int.toNat_natCast] at hr
  rw [hr, cop_rep]
theorem ol_zero (l : List UInt8) : ol l 0 = List.replicate (l.length / 2) (0, 0) := by
  apply List.ext_getElem?
  intro i
  simp only [ol, List.getElem?_map, List.getElem?_replicate]
  by_cases h : i < l.length / 2
  · rw [List.getElem?_range h, if_pos h]; simp
  · rw [if_neg h, List.getElem?_eq_none (by simp; omega)]; rfl

set_option maxHeartbeats 3200000 in
set_option maxRecDepth 100000 in
theorem operands_any (l : List UInt8) (hl : l.length ≤ 1000) (w : World) :
    Calls Tryz.prog 25 #[.string (sb l)] w fun e w' => ∃ A n c, e = .returned (.slice A n c) ∧ Ro w' (.slice A n c) (opl l) ∧ Ab w.heap.size (Bl (.slice A n c)) ∧ Below w.heap.size w w' := by
  have hS : (sb l).size = l.length := sb_size l
  have hg : ∀ k (hk : k < (sb l).size), (sb l)[k] = l.getD k 0 := sb_get l
  have HZ := Lib.hid (fun c W => size_any c W)
  generalize sb l = s at *
  have hs1 : s.size ≤ 1000 := by omega
  have HS := Lib.hid hS
  have HG := Lib.hid hg
  clear hS hg
  obtain ⟨n, hn⟩ : ∃ n, l.length / 2 = n := ⟨_, rfl⟩
  have hn1 : n ≤ 500 := by omega
  have hq : ((s.size : Int)) / 2 = (n : Int) := by have := HS.out; omega
  have h2n : 2 * n ≤ s.size := by have := HS.out; omega
  have hmk := fun W => run_make_ops n (by omega) W
  have HO : Hid (Or w l w.heap.size 0 (w.alloc (.cells (cop (List.replicate n (0, 0))).toArray 45))) := by
    refine ⟨?_, Nat.le_refl _, al1 _ _⟩
    rw [ol_zero, hn]
    exact Bk.new _ _ _
  have HN := Lib.hid hn
  clear hn hl
  go_enter Tryz.func25, Tryz.ntmps25
  go_wp2
  clear hmk
  generalize w.heap.size = b at HO ⊢
  go_loopw [11] (fun i wr => ∃ k : Nat, k ≤ n ∧ i = .int .i64 k ∧ Or w l b k wr) (fun i _ => n - (intOf i).toNat)
  case atStart => exact ⟨0, Nat.zero_le _, rfl, HO.out⟩
  case round =>
    clear HO
    obtain ⟨k, hk, rfl, hR⟩ := hrel
    have HR := Lib.hid hR
    by_cases hlt : k < n
    · have hkl : k < l.length / 2 := by rw [HN.out]; exact hlt
      have hb2 := hR.row.lt
      have hol : k < (ol l k).length := by rw [ol_len]; exact hkl
      have f0 := hR.row.free (k * 2)
      have f1 := hR.row.free (k * 2 + 1)
      have c0 := hR.row.cell _ _ (cop_get0 _ _ hol)
      have c1 := hR.row.cell _ _ (cop_get1 _ _ hol)
      have HX := Lib.hid (HR.out.drew.next hkl)
      have i0 : 2 * k < s.size := by omega
      have i1 : 2 * k + 1 < s.size := by omega
      have g0 := HG.out (2 * k) i0
      have g1 := HG.out (2 * k + 1) i1
      clear hR hkl hol
      generalize opn (ol l k) k = o at *
      obtain ⟨oa, os⟩ := o
      simp only at c0 c1
      generalize l.getD (2 * k) 0 = x0 at *
      generalize l.getD (2 * k + 1) 0 = x1 at *
      have HZ1 := Lib.hid (HZ.out x1)
      have z0 : IntKind.i64.wrap (2 * (k : Int)) = ((2 * k : Nat) : Int) := by unfold IntKind.wrap; simp [IntKind.signed, IntKind.bits]; omega
      have z1 : IntKind.i64.wrap (((2 * k : Nat) : Int) + 1) = ((2 * k + 1 : Nat) : Int) := by unfold IntKind.wrap; simp [IntKind.signed, IntKind.bits]; omega
      generalize hj0 : 2 * k = j0 at *
      clear hj0
      go_wp2
      go_region_held3 (fun w' => w'.frozen? ⟨b, k * 2, none⟩ = false ∧ w'.frozen? ⟨b, k * 2 + 1, none⟩ = false)
        (first | go_keep | exact ⟨f0, f1⟩)
        ((go_at_call 55; refine (HZ1.out _).mono ?_; rintro r9 w9 ⟨rfl, rfl⟩))
      all_goals
        go_wp2
        go_roundw
        case rel => exact ⟨k + 1, by omega, by go_num, HX.out⟩
        case measure => first | (simp [intOf]; done) | (simp [intOf]; omega)
    · have HF := Lib.hid (HR.out.fin (by have := HN.out; omega) (by have := HS.out; omega))
      rw [HN.out] at HF
      have HB := Lib.hid hR.bel
      clear hR HR
      go_wp2
      go_ret
      exact ⟨_, _, _, rfl, HF.out.1, HF.out.2, HB.out⟩

end Go.Proofs.YtppkpfkoggnbmaaGreatDoor.Cs.Ia
