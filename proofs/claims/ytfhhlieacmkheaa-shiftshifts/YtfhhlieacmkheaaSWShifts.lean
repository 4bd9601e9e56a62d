/- The walk of ShiftShifts. -/
import Derived.Test.YtfhhlieacmkheaaSAlive
namespace Go.Proofs.Ytfhhlieacmkheaa.Cs
open Go.RowKit

set_option maxHeartbeats 2000000 in
theorem shifts_walk (c x : Int) (q : Bool) (hc : (Lit.int .u8 c).wf = true) (hx : (Lit.int .u32 x).wf = true) (w : World) :
    Calls Try.prog 3 #[.int .u8 c, .int .u32 x, .bool q] w fun e w' => e = .returned (.bool true) ∧ Below w.heap.size w w' := by
  have hC := B_of hc
  have hX := U_of hx
  have K0 := Lib.hid alive9
  have K1 := Lib.hid (ash_any c x hC)
  have K2 := Lib.hid (rash_any c x hC hX)
  have K3 := Lib.hid (rot_any c x q hC hX)
  have K4 := Lib.hid (rrot_any c x q hC hX)
  clear hc hx hC hX
  generalize (ng (rt x (ro c)) 4) = p1 at *
  generalize (zr (rt x (ro c)) 4) = p2 at *
  generalize rt x (ro c) = y at *
  generalize (ng (av (sg c 1) (sg x 4)) 4) = q1 at *
  generalize (zr (av (sg c 1) (sg x 4)) 4) = q2 at *
  generalize (ao (sg c 1) (sg x 4)) = q3 at *
  generalize (av (sg c 1) (sg x 4) % 4294967296) = z at *
  go_enter Try.func3, Try.ntmps3
  go_wp2_with fail
  refine (K0.out _).mono ?_
  rintro e w1 ⟨rfl, hb1⟩
  go_wp2_with fail
  refine (K1.out _).mono ?_
  rintro e w2 ⟨rfl, hb2⟩
  go_wp2_with fail
  refine (K2.out _).mono ?_
  rintro e w3 ⟨rfl, hb3⟩
  go_wp2_with fail
  refine (K3.out _).mono ?_
  rintro e w4 ⟨rfl, hb4⟩
  go_wp2_with fail
  refine (K4.out _).mono ?_
  rintro e w5 ⟨rfl, hb5⟩
  have z3 : w2.heap.size < w3.heap.size := by have := hb3.size; simp at this; omega
  have z4' : w3.heap.size < w4.heap.size := by have := hb4.size; simp at this; omega
  have z5 : w4.heap.size < w5.heap.size := by have := hb5.size; simp at this; omega
  have z24 : w2.heap.size < w4.heap.size := by omega
  have z25 : w2.heap.size < w5.heap.size := by omega
  have z35 : w3.heap.size < w5.heap.size := by omega
  have c23 := fun o => hb3.cell (p := ⟨w2.heap.size, o, none⟩) (by simp)
  have c24 := fun o => hb4.cell (p := ⟨w2.heap.size, o, none⟩) (by simp; omega)
  have c25 := fun o => hb5.cell (p := ⟨w2.heap.size, o, none⟩) (by simp; omega)
  have c34 := fun o => hb4.cell (p := ⟨w3.heap.size, o, none⟩) (by simp)
  have c35 := fun o => hb5.cell (p := ⟨w3.heap.size, o, none⟩) (by simp; omega)
  have c45 := fun o => hb5.cell (p := ⟨w4.heap.size, o, none⟩) (by simp)
  have HX := Lib.hid (below3 (below3 (below3 (below2 hb1 hb2) hb3) hb4) hb5)
  clear hb1 hb2 hb3 hb4 hb5
  go_wp2
  go_ret
  exact ⟨rfl, HX.out.alloc HX.out.size _⟩

end Go.Proofs.Ytfhhlieacmkheaa.Cs
