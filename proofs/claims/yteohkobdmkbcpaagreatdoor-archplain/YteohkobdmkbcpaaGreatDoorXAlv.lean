/- What each law of arch asks first. -/
import Derived.Test.YteohkobdmkbcpaaGreatDoorXAl0
namespace Go.Proofs.YteohkobdmkbcpaaGreatDoor.Cs
open Go.RowKit
set_option linter.unusedVariables false
set_option linter.unusedSimpArgs false

theorem al0_made (W : World) (g : Nat) (h : W.heap[g]? = some (.cells #[.int .u8 208, .int .u8 5, .int .u8 81, .int .u8 0] 5 (0, 0))) (hK : 7 ≤ W.heap.size) (gl : Tl.Ia.Gl W) :
    Calls Tryz.prog 11 #[.slice (some ⟨g, 0, none⟩) 4 4, .agg #[.int .u32 0, .int .u32 0, .int .u32 0, .int .u32 0, .int .u32 0, .int .u32 0, .int .u32 0, .int .u32 0, .int .u32 0, .int .u32 0, .int .u32 0, .int .u32 0, .int .u32 0, .int .u32 0, .int .u32 0, .int .u32 0, .int .u32 0, .int .u32 0, .int .u32 0, .int .u32 0, .int .u32 0, .int .u32 0, .int .u32 0, .int .u32 0, .int .u32 0, .int .i64 0]] W fun e w' => ∃ a S, e = .returned (.tuple #[.pointer (some ⟨a.g, 0, none⟩), .pointer (some ⟨a.rg, 0, none⟩)]) ∧ Own W a S al0 w' := by
  have e : al0.val = .agg #[.int .u32 0, .int .u32 0, .int .u32 0, .int .u32 0, .int .u32 0, .int .u32 0, .int .u32 0, .int .u32 0, .int .u32 0, .int .u32 0, .int .u32 0, .int .u32 0, .int .u32 0, .int .u32 0, .int .u32 0, .int .u32 0, .int .u32 0, .int .u32 0, .int .u32 0, .int .u32 0, .int .u32 0, .int .u32 0, .int .u32 0, .int .u32 0, .int .u32 0, .int .i64 0] := by kernel_rfl
  rw [← e]
  exact made_any W _ 4 4 [208, 5, 81, 0] al0 (Rm.Src.of_row h) (by simp [Rm.Byt]) rfl (by omega) hK gl Hr.Re.nul_ok Mm.noTabs_ok (by simp [al0, U, Pt.U])

theorem al1_state {w0 : World} {a : Ad} {S0 : Nat → Prop} (w : World) (h : Ch w0 a S0 al1 w) : Calls Tryz.prog 12 #[.pointer (some ⟨a.g, 0, none⟩)] w fun e w' => e = .returned (.agg #[.int .u32 0, .int .u32 5, .int .u32 0, .int .u32 0, .int .u32 0, .int .u32 0, .int .u32 0, .int .u32 0, .int .u32 0, .int .u32 0, .int .u32 0, .int .u32 0, .int .u32 0, .int .u32 0, .int .u32 0, .int .u32 3, .int .u32 0, .int .u32 0, .int .u32 0, .int .u32 0, .int .u32 0, .int .u32 0, .int .u32 0, .int .u32 0, .int .u32 0, .int .i64 0]) ∧ Below w.heap.size w w' := by
  have e : al1.val = .agg #[.int .u32 0, .int .u32 5, .int .u32 0, .int .u32 0, .int .u32 0, .int .u32 0, .int .u32 0, .int .u32 0, .int .u32 0, .int .u32 0, .int .u32 0, .int .u32 0, .int .u32 0, .int .u32 0, .int .u32 0, .int .u32 3, .int .u32 0, .int .u32 0, .int .u32 0, .int .u32 0, .int .u32 0, .int .u32 0, .int .u32 0, .int .u32 0, .int .u32 0, .int .i64 0] := by kernel_rfl
  rw [← e]
  exact state_any w h
theorem al2_state {w0 : World} {a : Ad} {S0 : Nat → Prop} (w : World) (h : Ch w0 a S0 al2 w) : Calls Tryz.prog 12 #[.pointer (some ⟨a.g, 0, none⟩)] w fun e w' => e = .returned (.agg #[.int .u32 0, .int .u32 5, .int .u32 0, .int .u32 0, .int .u32 0, .int .u32 0, .int .u32 0, .int .u32 0, .int .u32 0, .int .u32 0, .int .u32 0, .int .u32 0, .int .u32 0, .int .u32 0, .int .u32 0, .int .u32 4, .int .u32 0, .int .u32 0, .int .u32 0, .int .u32 0, .int .u32 0, .int .u32 0, .int .u32 0, .int .u32 0, .int .u32 0, .int .i64 1]) ∧ Below w.heap.size w w' := by
  have e : al2.val = .agg #[.int .u32 0, .int .u32 5, .int .u32 0, .int .u32 0, .int .u32 0, .int .u32 0, .int .u32 0, .int .u32 0, .int .u32 0, .int .u32 0, .int .u32 0, .int .u32 0, .int .u32 0, .int .u32 0, .int .u32 0, .int .u32 4, .int .u32 0, .int .u32 0, .int .u32 0, .int .u32 0, .int .u32 0, .int .u32 0, .int .u32 0, .int .u32 0, .int .u32 0, .int .i64 1] := by kernel_rfl
  rw [← e]
  exact state_any w h

set_option maxHeartbeats 2000000 in
set_option maxRecDepth 100000 in
theorem alive (w : World) (hK : 7 ≤ w.heap.size) (gl : Tl.Ia.Gl w) : Calls Tryz.prog 10 #[] w fun e w' => e = .returned (.bool true) ∧ Below w.heap.size w w' := by
  have HG := Lib.hid gl
  clear gl
  have f1 : ∀ w, (Instr.field 28 (.agg #[.int .u32 0, .int .u32 5, .int .u32 0, .int .u32 0, .int .u32 0, .int .u32 0, .int .u32 0, .int .u32 0, .int .u32 0, .int .u32 0, .int .u32 0, .int .u32 0, .int .u32 0, .int .u32 0, .int .u32 0, .int .u32 3, .int .u32 0, .int .u32 0, .int .u32 0, .int .u32 0, .int .u32 0, .int .u32 0, .int .u32 0, .int .u32 0, .int .u32 0, .int .i64 0]) 0).run Tryz.prog w = .ok (.agg #[.int .u32 0, .int .u32 5, .int .u32 0, .int .u32 0, .int .u32 0, .int .u32 0, .int .u32 0, .int .u32 0, .int .u32 0, .int .u32 0, .int .u32 0, .int .u32 0, .int .u32 0, .int .u32 0, .int .u32 0, .int .u32 3]) w := fun _ => by kernel_rfl
  have f2 : ∀ w, (Instr.field 28 (.agg #[.int .u32 0, .int .u32 5, .int .u32 0, .int .u32 0, .int .u32 0, .int .u32 0, .int .u32 0, .int .u32 0, .int .u32 0, .int .u32 0, .int .u32 0, .int .u32 0, .int .u32 0, .int .u32 0, .int .u32 0, .int .u32 4, .int .u32 0, .int .u32 0, .int .u32 0, .int .u32 0, .int .u32 0, .int .u32 0, .int .u32 0, .int .u32 0, .int .u32 0, .int .i64 1]) 6).run Tryz.prog w = .ok (.int .i64 1) w := fun _ => by kernel_rfl
  have f3 : ∀ w, (Instr.index 24 (.agg #[.int .u32 0, .int .u32 5, .int .u32 0, .int .u32 0, .int .u32 0, .int .u32 0, .int .u32 0, .int .u32 0, .int .u32 0, .int .u32 0, .int .u32 0, .int .u32 0, .int .u32 0, .int .u32 0, .int .u32 0, .int .u32 3]) (.int .i64 1)).run Tryz.prog w = .ok (.int .u32 5) w := fun _ => by kernel_rfl
  go_enter Tryz.func10, Tryz.ntmps10
  go_wp2_with fail
  refine (al0_made _ _ (heap_alloc_new _ _) (by simp; omega) (HG.out.below (by go_grown))).mono ?_
  rintro e w1 ⟨a, S, rfl, h1⟩
  have H1 := Lib.hid h1
  clear h1
  go_wp2_with fail
  refine (al0_step w1 H1.out.ch).mono ?_
  rintro e w2 ⟨rfl, h2, _⟩
  have H2 := Lib.hid h2
  clear h2
  go_wp2_with fail
  refine (al1_state w2 H2.out).mono ?_
  rintro e w3 ⟨rfl, b3⟩
  have H3 := Lib.hid (H2.out.below b3)
  clear b3
  go_wp2_with fail
  refine (al1_step w3 H3.out).mono ?_
  rintro e w4 ⟨rfl, h4, _⟩
  have H4 := Lib.hid h4
  clear h4
  go_wp2_with fail
  refine (al2_state w4 H4.out).mono ?_
  rintro e w5 ⟨rfl, b5⟩
  obtain ⟨S', ho⟩ := H1.out.step (H4.out.below b5)
  have HB := Lib.hid ho.bel
  clear b5 ho
  go_wp2
  refine bodyPost_ret (v := .bool true) (by simp [results, Tryz.results10, go_sem]) rfl ⟨rfl, ?_⟩
  exact Tl.bel_trans (b := w.alloc (.cells #[.int .u8 208, .int .u8 5, .int .u8 81, .int .u8 0] 5)) (by go_grown) HB.out (by simp)

end Go.Proofs.YteohkobdmkbcpaaGreatDoor.Cs
