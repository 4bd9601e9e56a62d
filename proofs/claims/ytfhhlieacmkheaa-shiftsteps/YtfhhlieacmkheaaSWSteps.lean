/- The walk of ShiftSteps. -/
import Derived.Test.YtfhhlieacmkheaaSAlive
namespace Go.Proofs.Ytfhhlieacmkheaa.Cs
open Go.RowKit

theorem sg_av {n v : Int} (hv : -2147483648 ≤ v ∧ v < 2147483648) : sg (av n v % 4294967296) 4 = av n v := by
  rw [show (4294967296 : Int) = W 4 from rfl, sg_of_mod z4]
  exact sg_fit ((ft_iff _).2 (av_bound hv))

set_option maxHeartbeats 2000000 in
theorem steps_one (c x o c' n d : Int) (hc : B c) (ho : B o) (hc' : B c') (h1 : sg c 1 = n) (h2 : sg o 1 = d) (h3 : sg c' 1 = n + d) (hnd : n < 0 ∧ d = -1 ∨ 0 ≤ n ∧ d = 1)
    (hw : c < 127 ∧ o = 1 ∧ c' = c + 1 ∨ 128 < c ∧ o = 255 ∧ c' = c - 1) (w : World) :
    Calls Try.prog 6 #[.int .u8 c, .int .u32 x] w fun e w' => e = .returned (.bool true) ∧ Below w.heap.size w w' := by
  have hv := sg_32 z4 x
  have K0 := Lib.hid alive9
  have k1 := ash_any c x hc
  have k2 := ash_any o (av n (sg x 4) % 4294967296) ho
  have k3 := ash_any c' x hc'
  rw [h1] at k1
  rw [h2, sg_av hv, av_step hnd] at k2
  rw [h3, ao_step hnd] at k3
  have K1 := Lib.hid k1
  have K2 := Lib.hid k2
  have K3 := Lib.hid k3
  have c0 := hc.1
  have c1 := hc.2
  clear k1 k2 k3 hv ho hc' hc h1 h2 h3 hnd
  generalize ng (av (n + d) (sg x 4)) 4 = p1 at *
  generalize zr (av (n + d) (sg x 4)) 4 = p2 at *
  generalize av (n + d) (sg x 4) % 4294967296 = y at *
  generalize ao d (av n (sg x 4)) = v2 at *
  generalize ng (av n (sg x 4)) 4 = q1 at *
  generalize zr (av n (sg x 4)) 4 = q2 at *
  generalize av n (sg x 4) % 4294967296 = z at *
  generalize ao n (sg x 4) = v1 at *
  rcases hw with ⟨g1, rfl, rfl⟩ | ⟨g1, rfl, rfl⟩
  · have e1 : (c == 127) = false := by simp; omega
    have e2 : (c == 128) = false := by simp; omega
    cases v1
    all_goals
      go_enter Try.func6, Try.ntmps6
      go_wp2_with fail
      refine (K0.out _).mono ?_
      rintro e w1 ⟨rfl, hb1⟩
      go_wp2_with fail
      refine (K1.out _).mono ?_
      rintro e w2 ⟨rfl, hb2⟩
      go_wp2_with fail
      refine (K2.out _).mono ?_
      rintro e w3 ⟨rfl, hb3⟩
      go_wp2_with fail
      refine (K3.out _).mono ?_
      rintro e w4 ⟨rfl, hb4⟩
      have y3 : w2.heap.size < w3.heap.size := by have := hb3.size; simp at this; omega
      have y4 : w3.heap.size < w4.heap.size := by have := hb4.size; simp at this; omega
      have y24 : w2.heap.size < w4.heap.size := by omega
      have c23 := fun o => hb3.cell (p := ⟨w2.heap.size, o, none⟩) (by simp)
      have c24 := fun o => hb4.cell (p := ⟨w2.heap.size, o, none⟩) (by simp; omega)
      have c34 := fun o => hb4.cell (p := ⟨w3.heap.size, o, none⟩) (by simp)
      have HX := Lib.hid (below3 (below3 (below2 hb1 hb2) hb3) hb4)
      clear hb1 hb2 hb3 hb4
      go_wp2
      go_ret
      exact ⟨rfl, HX.out.alloc HX.out.size _⟩
  · have e1 : (c == 127) = false := by simp; omega
    have e2 : (c == 128) = false := by simp; omega
    have e3 : (c + 255) % 256 = c - 1 := by omega
    cases v1
    all_goals
      go_enter Try.func6, Try.ntmps6
      go_wp2_with fail
      refine (K0.out _).mono ?_
      rintro e w1 ⟨rfl, hb1⟩
      go_wp2_with fail
      refine (K1.out _).mono ?_
      rintro e w2 ⟨rfl, hb2⟩
      go_wp2_with fail
      refine (K2.out _).mono ?_
      rintro e w3 ⟨rfl, hb3⟩
      go_wp2_with fail
      refine (K3.out _).mono ?_
      rintro e w4 ⟨rfl, hb4⟩
      have y3 : w2.heap.size < w3.heap.size := by have := hb3.size; simp at this; omega
      have y4 : w3.heap.size < w4.heap.size := by have := hb4.size; simp at this; omega
      have y24 : w2.heap.size < w4.heap.size := by omega
      have c23 := fun o => hb3.cell (p := ⟨w2.heap.size, o, none⟩) (by simp)
      have c24 := fun o => hb4.cell (p := ⟨w2.heap.size, o, none⟩) (by simp; omega)
      have c34 := fun o => hb4.cell (p := ⟨w3.heap.size, o, none⟩) (by simp)
      have HX := Lib.hid (below3 (below3 (below2 hb1 hb2) hb3) hb4)
      clear hb1 hb2 hb3 hb4
      go_wp2
      go_ret
      exact ⟨rfl, HX.out.alloc HX.out.size _⟩

set_option maxHeartbeats 2000000 in
theorem steps_not (c x : Int) (h : c = 127 ∨ c = 128) (w : World) :
    Calls Try.prog 6 #[.int .u8 c, .int .u32 x] w fun e w' => e = .returned (.bool true) ∧ Below w.heap.size w w' := by
  have K0 := Lib.hid alive9
  rcases h with rfl | rfl
  all_goals
    go_enter Try.func6, Try.ntmps6
    go_wp2_with fail
    refine (K0.out _).mono ?_
    rintro e w1 ⟨rfl, hb1⟩
    go_wp2
    go_ret
    exact ⟨rfl, hb1⟩

theorem steps_walk (c x : Int) (hc : (Lit.int .u8 c).wf = true) (_ : (Lit.int .u32 x).wf = true) (w : World) :
    Calls Try.prog 6 #[.int .u8 c, .int .u32 x] w fun e w' => e = .returned (.bool true) ∧ Below w.heap.size w w' := by
  have hC := B_of hc
  have c0 := hC.1
  have c1 := hC.2
  have low : ∀ c : Int, 0 ≤ c → c < 128 → sg c 1 = c := fun c h k => by unfold sg; rw [W1, if_neg (by omega)]; omega
  have high : ∀ c : Int, 128 ≤ c → c < 256 → sg c 1 = c - 256 := fun c h k => by unfold sg; rw [W1, if_pos (by omega)]; omega
  by_cases h : c = 127 ∨ c = 128
  · exact steps_not c x h w
  · by_cases h1 : c < 127
    · exact steps_one c x 1 (c + 1) c 1 hC ⟨by omega, by omega⟩ ⟨by omega, by omega⟩ (low c c0 (by omega)) (low 1 (by omega) (by omega)) (low _ (by omega) (by omega)) (.inr ⟨c0, rfl⟩) (.inl ⟨h1, rfl, rfl⟩) w
    · exact steps_one c x 255 (c - 1) (c - 256) (-1) hC ⟨by omega, by omega⟩ ⟨by omega, by omega⟩ (high c (by omega) c1) ((high 255 (by omega) (by omega)).trans rfl) (by rw [high _ (by omega) (by omega)]; omega) (.inl ⟨by omega, rfl⟩) (.inr ⟨by omega, rfl, rfl⟩) w

end Go.Proofs.Ytfhhlieacmkheaa.Cs
