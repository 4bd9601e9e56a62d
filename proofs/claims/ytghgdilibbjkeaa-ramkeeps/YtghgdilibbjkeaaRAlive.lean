/- What every law of layer 2 asks first. -/
import Derived.Test.YtghgdilibbjkeaaRam4
namespace Go.Proofs.Ytghgdilibbjkeaa.Cs
open Go.RowKit

theorem bel_trans {w w1 w2 : World} (h : Below w.heap.size w w1) (k : Below w1.heap.size w1 w2) : Below w.heap.size w w2 := h.trans (k.mono h.size)

theorem a_get (g r : Nat) (w : World) (h : Mem w g r [0, 0, 0, 0]) :
    Calls Try.prog 13 #[.pointer (some ⟨g, 0, none⟩), .int .u32 0, .int .i64 2] w fun e w' => e = .returned (.tuple #[.int .u32 0, .int .i64 0]) ∧ w = w' :=
  get_ok g r [0, 0, 0, 0] 0 2 w h (by omega) (by simp)
theorem a_put (g r : Nat) (w : World) (h : Mem w g r [0, 0, 0, 0]) :
    Calls Try.prog 12 #[.pointer (some ⟨g, 0, none⟩), .int .u32 0, .int .u32 258, .int .i64 2] w fun e w' => e = .returned (.int .i64 0) ∧ Mem w' g r [2, 1, 0, 0] ∧ w.grownBy w' (some r) :=
  put_ok g r [0, 0, 0, 0] 0 2 258 w h (by omega) (by simp)
theorem a_bytes (g r : Nat) (w : World) (h : Mem w g r [2, 1, 0, 0]) :
    Calls Try.prog 10 #[.pointer (some ⟨g, 0, none⟩), .int .u32 0, .int .i64 2] w (NewBytes w [2, 1]) :=
  bytes_ok g r [2, 1, 0, 0] 0 2 w h (by simp)

set_option maxHeartbeats 400000 in
theorem ralive (w : World) :
    Calls Try.prog 7 #[] w fun e w' => e = .returned (.bool true) ∧ Below w.heap.size w w' := by
  go_enter Try.func7, Try.ntmps7
  go_wp2_with fail
  refine (new_any 4 w).mono ?_
  rintro e w1 ⟨g, r, rfl, hg, hr, hm, hb⟩
  have HM : Hid (Mem w1 g r [0, 0, 0, 0]) := hm
  clear hm
  go_wp2_with fail
  refine (a_get g r _ HM.out).mono ?_
  rintro e w' ⟨rfl, rfl⟩
  go_wp2_with fail
  refine (a_put g r _ HM.out).mono ?_
  rintro e w2 ⟨rfl, hm2, hb2⟩
  have hbb := below_of_grown hb hb2 hb.size hr
  have HM2 := Lib.hid hm2
  clear hm2
  go_wp2_with fail
  refine (a_bytes g r _ HM2.out).mono ?_
  rintro e w3 ⟨b, rfl, hb', hrow, hb3⟩
  have hc0 : w3.cell? ⟨b, 0, none⟩ = some (.int .u8 2) := by simpa [cel] using cell_of_row w3 b 0 _ _ _ hrow
  have hc1 : w3.cell? ⟨b, 1, none⟩ = some (.int .u8 1) := by simpa [cel] using cell_of_row w3 b 1 _ _ _ hrow
  have HB := Lib.hid (bel_trans hbb hb3)
  clear hb hb2 hbb hb3 hrow
  go_wp2
  go_ret
  exact ⟨rfl, HB.out⟩

end Go.Proofs.Ytghgdilibbjkeaa.Cs
