/- Contract: a row of two, three or four numbers the other way round. -/
import Derived.Test.YteohkobdmkbcpaaGreatDoorXLaid
import Derived.BigRegion
namespace Go.Proofs.YteohkobdmkbcpaaGreatDoor.Cs
open Go.RowKit
set_option linter.unusedVariables false
set_option linter.unusedSimpArgs false

/-- the first cells of block r are these numbers; since w only that block has turned -/
structure Cr (w : World) (r : Nat) (l : List Int) (W : World) : Prop where
  c : ∀ k, k < l.length → W.cell? ⟨r, k, none⟩ = some (.int .u32 (l.getD k 0))
  f : ∀ k, W.frozen? ⟨r, k, none⟩ = false
  m : Tl.Mods (Hr.One r) w W
theorem Cr.drew {w W : World} {r : Nat} {l : List Int} (h : Cr w r l W) : Cr w r l W.drew := ⟨h.c, h.f, h.m.drew⟩
theorem Cr.set {w W : World} {r : Nat} {l : List Int} (h : Cr w r l W) (i : Nat) (hi : i < l.length) (x : Int) : Cr w r (l.set i x) (W.setCell ⟨r, i, none⟩ (.int .u32 x)) := by
  refine ⟨fun k hk => ?_, fun k => by rw [World.frozen?_setCell]; exact h.f k, h.m.set (p := ⟨r, i, none⟩) _ (.inl rfl)⟩
  have hk' : k < l.length := by simpa using hk
  by_cases e : i = k
  · subst e
    rw [World.cell?_setCell_same (h := h.c i hi)]
    simp [List.getD, hi]
  · rw [World.cell?_setCell_other (h := show (⟨r, i, none⟩ : Addr) ≠ ⟨r, k, none⟩ by intro q; injection q with q1 q2 q3; exact e q2), h.c k hk']
    congr 2
    simp [List.getD, List.getElem?_set, e]
theorem Cr.congr {w W : World} {r : Nat} {l m : List Int} (h : Cr w r l W) (e : l = m) : Cr w r m W := e ▸ h

set_option maxHeartbeats 2000000 in
set_option maxRecDepth 100000 in
theorem rev2 (x y : Int) (r cap : Nat) (w : World) (h : Cr w r [x, y] w) : Calls Tryz.prog 67 #[.slice (some ⟨r, 0, none⟩) 2 cap] w fun e w' => e = .returned (.tuple #[]) ∧ Cr w r [y, x] w' := by
  have H := Lib.hid h
  clear h
  go_enter Tryz.func67, Tryz.ntmps67
  go_wp2
  go_loopw [2, 3] (fun i j W => (i = .int .i64 0 ∧ j = .int .i64 1 ∧ Cr w r [x, y] W) ∨ (i = .int .i64 1 ∧ j = .int .i64 0 ∧ Cr w r [y, x] W)) (fun i _ _ => 2 - (intOf i).toNat)
  case atStart => exact .inl ⟨rfl, rfl, H.out⟩
  case round =>
    rcases hrel with ⟨rfl, rfl, hC⟩ | ⟨rfl, rfl, hC⟩
    · have HD := Lib.hid hC.drew
      have HN : Hid (Cr w r [y, x] ((wr.drew.setCell ⟨r, 0, none⟩ (.int .u32 y)).setCell ⟨r, 1, none⟩ (.int .u32 x))) := ((HD.out.set 0 (by simp) y).set 1 (by simp) x)
      have c1' : wr.cell? ⟨r, 0, none⟩ = some (.int .u32 x) := hC.c 0 (by simp)
      have c2' : wr.cell? ⟨r, 1, none⟩ = some (.int .u32 y) := hC.c 1 (by simp)
      have f1' := hC.f 0
      have f2' := hC.f 1
      have c1 : wr.drew.cell? ⟨r, 0, none⟩ = some (.int .u32 x) := c1'
      have c2 : wr.drew.cell? ⟨r, 1, none⟩ = some (.int .u32 y) := c2'
      have f1 := HD.out.f 0
      have f2 := HD.out.f 1
      clear hC
      go_wp2
      go_region
      go_wp2
      go_roundw
      case rel => exact (.inr ⟨rfl, rfl, HN.out⟩)
      case measure => simp [intOf]
    · have HD := Lib.hid hC
      clear hC
      go_wp2
      first | go_end0 | (refine bodyPost_ret (results_none rfl _ _ _) rfl ?_)
      exact ⟨rfl, HD.out⟩

set_option maxHeartbeats 2000000 in
set_option maxRecDepth 100000 in
theorem rev3 (x y z : Int) (r cap : Nat) (w : World) (h : Cr w r [x, y, z] w) : Calls Tryz.prog 67 #[.slice (some ⟨r, 0, none⟩) 3 cap] w fun e w' => e = .returned (.tuple #[]) ∧ Cr w r [z, y, x] w' := by
  have H := Lib.hid h
  clear h
  go_enter Tryz.func67, Tryz.ntmps67
  go_wp2
  go_loopw [2, 3] (fun i j W => (i = .int .i64 0 ∧ j = .int .i64 2 ∧ Cr w r [x, y, z] W) ∨ (i = .int .i64 1 ∧ j = .int .i64 1 ∧ Cr w r [z, y, x] W)) (fun i _ _ => 3 - (intOf i).toNat)
  case atStart => exact .inl ⟨rfl, rfl, H.out⟩
  case round =>
    rcases hrel with ⟨rfl, rfl, hC⟩ | ⟨rfl, rfl, hC⟩
    · have HD := Lib.hid hC.drew
      have HN : Hid (Cr w r [z, y, x] ((wr.drew.setCell ⟨r, 0, none⟩ (.int .u32 z)).setCell ⟨r, 2, none⟩ (.int .u32 x))) := ((HD.out.set 0 (by simp) z).set 2 (by simp) x)
      have c1' : wr.cell? ⟨r, 0, none⟩ = some (.int .u32 x) := hC.c 0 (by simp)
      have c2' : wr.cell? ⟨r, 2, none⟩ = some (.int .u32 z) := hC.c 2 (by simp)
      have f1' := hC.f 0
      have f2' := hC.f 2
      have c1 : wr.drew.cell? ⟨r, 0, none⟩ = some (.int .u32 x) := c1'
      have c2 : wr.drew.cell? ⟨r, 2, none⟩ = some (.int .u32 z) := c2'
      have f1 := HD.out.f 0
      have f2 := HD.out.f 2
      clear hC
      go_wp2
      go_region
      go_wp2
      go_roundw
      case rel => exact (.inr ⟨rfl, rfl, HN.out⟩)
      case measure => simp [intOf]
    · have HD := Lib.hid hC
      clear hC
      go_wp2
      first | go_end0 | (refine bodyPost_ret (results_none rfl _ _ _) rfl ?_)
      exact ⟨rfl, HD.out⟩

set_option maxHeartbeats 2000000 in
set_option maxRecDepth 100000 in
theorem rev4 (x y z u : Int) (r cap : Nat) (w : World) (h : Cr w r [x, y, z, u] w) : Calls Tryz.prog 67 #[.slice (some ⟨r, 0, none⟩) 4 cap] w fun e w' => e = .returned (.tuple #[]) ∧ Cr w r [u, z, y, x] w' := by
  have H := Lib.hid h
  clear h
  go_enter Tryz.func67, Tryz.ntmps67
  go_wp2
  go_loopw [2, 3] (fun i j W => (i = .int .i64 0 ∧ j = .int .i64 3 ∧ Cr w r [x, y, z, u] W) ∨ (i = .int .i64 1 ∧ j = .int .i64 2 ∧ Cr w r [u, y, z, x] W) ∨ (i = .int .i64 2 ∧ j = .int .i64 1 ∧ Cr w r [u, z, y, x] W)) (fun i _ _ => 4 - (intOf i).toNat)
  case atStart => exact .inl ⟨rfl, rfl, H.out⟩
  case round =>
    rcases hrel with ⟨rfl, rfl, hC⟩ | ⟨rfl, rfl, hC⟩ | ⟨rfl, rfl, hC⟩
    · have HD := Lib.hid hC.drew
      have HN : Hid (Cr w r [u, y, z, x] ((wr.drew.setCell ⟨r, 0, none⟩ (.int .u32 u)).setCell ⟨r, 3, none⟩ (.int .u32 x))) := ((HD.out.set 0 (by simp) u).set 3 (by simp) x)
      have c1' : wr.cell? ⟨r, 0, none⟩ = some (.int .u32 x) := hC.c 0 (by simp)
      have c2' : wr.cell? ⟨r, 3, none⟩ = some (.int .u32 u) := hC.c 3 (by simp)
      have f1' := hC.f 0
      have f2' := hC.f 3
      have c1 : wr.drew.cell? ⟨r, 0, none⟩ = some (.int .u32 x) := c1'
      have c2 : wr.drew.cell? ⟨r, 3, none⟩ = some (.int .u32 u) := c2'
      have f1 := HD.out.f 0
      have f2 := HD.out.f 3
      clear hC
      go_wp2
      go_region
      go_wp2
      go_roundw
      case rel => exact (.inr (.inl ⟨rfl, rfl, HN.out⟩))
      case measure => simp [intOf]
    · have HD := Lib.hid hC.drew
      have HN : Hid (Cr w r [u, z, y, x] ((wr.drew.setCell ⟨r, 1, none⟩ (.int .u32 z)).setCell ⟨r, 2, none⟩ (.int .u32 y))) := ((HD.out.set 1 (by simp) z).set 2 (by simp) y)
      have c1' : wr.cell? ⟨r, 1, none⟩ = some (.int .u32 y) := hC.c 1 (by simp)
      have c2' : wr.cell? ⟨r, 2, none⟩ = some (.int .u32 z) := hC.c 2 (by simp)
      have f1' := hC.f 1
      have f2' := hC.f 2
      have c1 : wr.drew.cell? ⟨r, 1, none⟩ = some (.int .u32 y) := c1'
      have c2 : wr.drew.cell? ⟨r, 2, none⟩ = some (.int .u32 z) := c2'
      have f1 := HD.out.f 1
      have f2 := HD.out.f 2
      clear hC
      go_wp2
      go_region
      go_wp2
      go_roundw
      case rel => exact (.inr (.inr ⟨rfl, rfl, HN.out⟩))
      case measure => simp [intOf]
    · have HD := Lib.hid hC
      clear hC
      go_wp2
      first | go_end0 | (refine bodyPost_ret (results_none rfl _ _ _) rfl ?_)
      exact ⟨rfl, HD.out⟩
end Go.Proofs.YteohkobdmkbcpaaGreatDoor.Cs
