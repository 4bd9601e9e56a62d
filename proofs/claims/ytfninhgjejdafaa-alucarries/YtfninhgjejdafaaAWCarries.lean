/- The walk of AluCarries. -/
import Derived.Test.YtfninhgjejdafaaADo
namespace Go.Proofs.Ytfninhgjejdafaa.Cs
open Go.RowKit

/-- a number of four bytes is its halves -/
theorem sg_half {x : Int} (h : U x) : sg x 4 = sg (x / 65536) 2 * 65536 + x % 65536 ∧ sg x 4 % 4294967296 = x := by
  obtain ⟨h0, h1⟩ := h
  unfold sg
  rw [W4, W2]
  split <;> split <;> omega

/-- two halves, added -/
theorem add_halves {a b : Int} (c : Bool) (ha : U a) (hb : U b) :
    (smA b a c 4).x = (smA (b / 65536) (a / 65536) (smA b a c 2).c 2).x * 65536 + (smA b a c 2).x ∧ (smA (b / 65536) (a / 65536) (smA b a c 2).c 2).c = (smA b a c 4).c ∧
    (smA (b / 65536) (a / 65536) (smA b a c 2).c 2).v = (smA b a c 4).v ∧ (smA (b / 65536) (a / 65536) (smA b a c 2).c 2).n = (smA b a c 4).n := by
  obtain ⟨sa, _⟩ := sg_half ha
  obtain ⟨sb, _⟩ := sg_half hb
  have m2 := sm_mod (.inr (.inl rfl) : Sz 2) b a c
  have hk : bt (smA b a c 2).c = (b % 65536 + a % 65536 + bt c) / 65536 := by
    show bt (decide (W 2 ≤ b % W 2 + a % W 2 + bt c)) = _
    rw [W2]
    have := bt_cases c
    by_cases h : 65536 ≤ b % 65536 + a % 65536 + bt c
    · rw [decide_eq_true h]; show 1 = _; omega
    · rw [decide_eq_false h]; show 0 = _; omega
  generalize (smA b a c 2).c = g at *
  have hc := bt_cases c
  have e4 : sm b a c 4 = (sg (b / 65536) 2 + sg (a / 65536) 2 + bt g) * 65536 + (b % 65536 + a % 65536 + bt c) % 65536 := by
    unfold sm; rw [sa, sb, hk]; omega
  have e2 : sm (b / 65536) (a / 65536) g 2 = sg (b / 65536) 2 + sg (a / 65536) 2 + bt g := rfl
  obtain ⟨h0, h1⟩ := ha
  obtain ⟨k0, k1⟩ := hb
  rw [W2] at m2
  show sm b a c 4 % W 4 = sm (b / 65536) (a / 65536) g 2 % W 2 * 65536 + sm b a c 2 % W 2 ∧ decide (W 2 ≤ b / 65536 % W 2 + a / 65536 % W 2 + bt g) = decide (W 4 ≤ b % W 4 + a % W 4 + bt c) ∧
    (!ft (sm (b / 65536) (a / 65536) g 2) 2) = (!ft (sm b a c 4) 4) ∧ ng (sm (b / 65536) (a / 65536) g 2) 2 = ng (sm b a c 4) 4
  unfold ft ng
  rw [W2, W4, ← m2, e4, e2, hk]
  generalize sg (b / 65536) 2 = p
  generalize sg (a / 65536) 2 = q
  generalize bt c = t at *
  refine ⟨by omega, ?_, ?_, ?_⟩
  · simp only [decide_eq_decide]; omega
  · congr 1; simp only [decide_eq_decide]; omega
  · simp only [decide_eq_decide]; omega

/-- two halves, taken off -/
theorem sub_halves {a b : Int} (c : Bool) (ha : U a) (hb : U b) :
    (dfA b a c 4).x = (dfA (b / 65536) (a / 65536) (dfA b a c 2).c 2).x * 65536 + (dfA b a c 2).x ∧ (dfA (b / 65536) (a / 65536) (dfA b a c 2).c 2).c = (dfA b a c 4).c ∧
    (dfA (b / 65536) (a / 65536) (dfA b a c 2).c 2).v = (dfA b a c 4).v ∧ (dfA (b / 65536) (a / 65536) (dfA b a c 2).c 2).n = (dfA b a c 4).n := by
  obtain ⟨sa, _⟩ := sg_half ha
  obtain ⟨sb, _⟩ := sg_half hb
  have m2 := df_mod (.inr (.inl rfl) : Sz 2) b a c
  have hk : bt (dfA b a c 2).c = -((b % 65536 - a % 65536 - bt c) / 65536) := by
    show bt (decide (b % W 2 < a % W 2 + bt c)) = _
    rw [W2]
    have := bt_cases c
    by_cases h : b % 65536 < a % 65536 + bt c
    · rw [decide_eq_true h]; show 1 = _; omega
    · rw [decide_eq_false h]; show 0 = _; omega
  generalize (dfA b a c 2).c = g at *
  have hc := bt_cases c
  have e4 : df b a c 4 = (sg (b / 65536) 2 - sg (a / 65536) 2 - bt g) * 65536 + (b % 65536 - a % 65536 - bt c) % 65536 := by
    unfold df; rw [sa, sb, hk]; omega
  have e2 : df (b / 65536) (a / 65536) g 2 = sg (b / 65536) 2 - sg (a / 65536) 2 - bt g := rfl
  obtain ⟨h0, h1⟩ := ha
  obtain ⟨k0, k1⟩ := hb
  rw [W2] at m2
  show df b a c 4 % W 4 = df (b / 65536) (a / 65536) g 2 % W 2 * 65536 + df b a c 2 % W 2 ∧ decide (b / 65536 % W 2 < a / 65536 % W 2 + bt g) = decide (b % W 4 < a % W 4 + bt c) ∧
    (!ft (df (b / 65536) (a / 65536) g 2) 2) = (!ft (df b a c 4) 4) ∧ ng (df (b / 65536) (a / 65536) g 2) 2 = ng (df b a c 4) 4
  unfold ft ng
  rw [W2, W4, ← m2, e4, e2, hk]
  generalize sg (b / 65536) 2 = p
  generalize sg (a / 65536) 2 = q
  generalize bt c = t at *
  refine ⟨by omega, ?_, ?_, ?_⟩
  · simp only [decide_eq_decide]; omega
  · congr 1; simp only [decide_eq_decide]; omega
  · simp only [decide_eq_decide]; omega

set_option maxHeartbeats 2000000 in
theorem acarries_any (a b : Int) (c : Bool) (ha : U a) (hb : U b) (w : World) :
    Calls Try.prog 8 #[.int .u32 a, .int .u32 b, .bool c] w fun e w' => e = .returned (.bool true) ∧ Below w.heap.size w w' := by
  have h2 : Sz 2 := .inr (.inl rfl)
  have h4 : Sz 4 := .inr (.inr rfl)
  have haU : U (a / 65536) := by obtain ⟨h0, h1⟩ := ha; exact ⟨by omega, by omega⟩
  have hbU : U (b / 65536) := by obtain ⟨h0, h1⟩ := hb; exact ⟨by omega, by omega⟩
  have k1 : ∀ w, Calls Try.prog 11 #[.int .i64 8, .int .u32 a, .int .u32 b, .bool c, .int .i64 2] w fun e w' => e = .returned (smA b a c 2).val ∧ Below w.heap.size w w' := do_any 8 a b 2 c h2 ha hb
  have k2 : ∀ w, Calls Try.prog 11 #[.int .i64 8, .int .u32 (a / 65536), .int .u32 (b / 65536), .bool (smA b a c 2).c, .int .i64 2] w fun e w' => e = .returned (smA (b / 65536) (a / 65536) (smA b a c 2).c 2).val ∧ Below w.heap.size w w' := do_any 8 (a / 65536) (b / 65536) 2 _ h2 haU hbU
  have k3 : ∀ w, Calls Try.prog 11 #[.int .i64 8, .int .u32 a, .int .u32 b, .bool c, .int .i64 4] w fun e w' => e = .returned (smA b a c 4).val ∧ Below w.heap.size w w' := do_any 8 a b 4 c h4 ha hb
  have k4 : ∀ w, Calls Try.prog 11 #[.int .i64 9, .int .u32 a, .int .u32 b, .bool c, .int .i64 2] w fun e w' => e = .returned (dfA b a c 2).val ∧ Below w.heap.size w w' := do_any 9 a b 2 c h2 ha hb
  have k5 : ∀ w, Calls Try.prog 11 #[.int .i64 9, .int .u32 (a / 65536), .int .u32 (b / 65536), .bool (dfA b a c 2).c, .int .i64 2] w fun e w' => e = .returned (dfA (b / 65536) (a / 65536) (dfA b a c 2).c 2).val ∧ Below w.heap.size w w' := do_any 9 (a / 65536) (b / 65536) 2 _ h2 haU hbU
  have k6 : ∀ w, Calls Try.prog 11 #[.int .i64 9, .int .u32 a, .int .u32 b, .bool c, .int .i64 4] w fun e w' => e = .returned (dfA b a c 4).val ∧ Below w.heap.size w w' := do_any 9 a b 4 c h4 ha hb
  obtain ⟨p1, p2, p3, p4⟩ := add_halves c ha hb
  obtain ⟨q1, q2, q3, q4⟩ := sub_halves c ha hb
  have r : ∀ x : Int, 0 ≤ x % W 2 ∧ x % W 2 < 65536 := fun x => by rw [W2]; omega
  have y1 : 0 ≤ (smA b a c 2).x ∧ (smA b a c 2).x < 65536 := r _
  have y2 : 0 ≤ (smA (b / 65536) (a / 65536) (smA b a c 2).c 2).x ∧ (smA (b / 65536) (a / 65536) (smA b a c 2).c 2).x < 65536 := r _
  have y4 : 0 ≤ (dfA b a c 2).x ∧ (dfA b a c 2).x < 65536 := r _
  have y5 : 0 ≤ (dfA (b / 65536) (a / 65536) (dfA b a c 2).c 2).x ∧ (dfA (b / 65536) (a / 65536) (dfA b a c 2).c 2).x < 65536 := r _
  generalize smA (b / 65536) (a / 65536) (smA b a c 2).c 2 = A2 at *
  generalize smA b a c 2 = A1 at *
  generalize smA b a c 4 = A3 at *
  generalize dfA (b / 65536) (a / 65536) (dfA b a c 2).c 2 = A5 at *
  generalize dfA b a c 2 = A4 at *
  generalize dfA b a c 4 = A6 at *
  clear r h2 h4 haU hbU
  obtain ⟨h0, h1⟩ := ha
  obtain ⟨i0, i1⟩ := hb
  obtain ⟨x1, n1, z1, v1, c1, o1⟩ := A1
  obtain ⟨x2, n2, z2, v2, c2, o2⟩ := A2
  obtain ⟨x3, n3, z3, v3, c3, o3⟩ := A3
  obtain ⟨x4, n4, z4, v4, c4, o4⟩ := A4
  obtain ⟨x5, n5, z5, v5, c5, o5⟩ := A5
  obtain ⟨x6, n6, z6, v6, c6, o6⟩ := A6
  obtain rfl : x3 = x2 * 65536 + x1 := p1
  obtain rfl : c2 = c3 := p2
  obtain rfl : v2 = v3 := p3
  obtain rfl : n2 = n3 := p4
  obtain rfl : x6 = x5 * 65536 + x4 := q1
  obtain rfl : c5 = c6 := q2
  obtain rfl : v5 = v6 := q3
  obtain rfl : n5 = n6 := q4
  unfold An.val at *
  have K1 := Lib.hid k1
  have K2 := Lib.hid k2
  have K3 := Lib.hid k3
  have K4 := Lib.hid k4
  have K5 := Lib.hid k5
  have K6 := Lib.hid k6
  clear k1 k2 k3 k4 k5 k6
  obtain ⟨y10, y11⟩ := y1
  obtain ⟨y20, y21⟩ := y2
  obtain ⟨y40, y41⟩ := y4
  obtain ⟨y50, y51⟩ := y5
  simp only at y10 y11 y20 y21 y40 y41 y50 y51
  go_enter Try.func8, Try.ntmps8
  go_wp2_with fail
  refine (alive8 _).mono ?_
  rintro e w1 ⟨rfl, hb1⟩
  go_wp2_with fail
  refine (K1.out _).mono ?_
  rintro e w2 ⟨rfl, hb2⟩
  go_wp2_with fail
  refine (K2.out _).mono ?_
  rintro e w3 ⟨rfl, hb3⟩
  go_wp2_with fail
  refine (K3.out _).mono ?_
  rintro e w4 ⟨rfl, hb4⟩
  go_wp2_with fail
  refine (K4.out _).mono ?_
  rintro e w5 ⟨rfl, hb5⟩
  go_wp2_with fail
  refine (K5.out _).mono ?_
  rintro e w6 ⟨rfl, hb6⟩
  go_wp2_with fail
  refine (K6.out _).mono ?_
  rintro e w7 ⟨rfl, hb7⟩
  have d3 := fun o => (below3 (below3 (below3 hb4 hb5) hb6) hb7).cell (p := ⟨w3.heap.size, o, none⟩) (by simp)
  have d4 := fun o => (below3 (below3 hb5 hb6) hb7).cell (p := ⟨w4.heap.size, o, none⟩) (by simp)
  have d6 := fun o => hb7.cell (p := ⟨w6.heap.size, o, none⟩) (by simp)
  have s4 : w3.heap.size < w4.heap.size := by have := hb4.size; simp at this; omega
  have s5 : w4.heap.size < w5.heap.size := by have := hb5.size; simp at this; omega
  have s6 : w5.heap.size < w6.heap.size := by have := hb6.size; simp at this; omega
  have s7 : w6.heap.size < w7.heap.size := by have := hb7.size; simp at this; omega
  have s37 : w3.heap.size < w7.heap.size := by omega
  have s47 : w4.heap.size < w7.heap.size := by omega
  go_wp2
  go_ret
  have hx := below3 (below3 (below3 (below3 (below3 (below2 hb1 hb2) hb3) hb4) hb5) hb6) hb7
  exact ⟨rfl, hx.alloc hx.size _⟩

theorem acarries_walk (a b : Int) (c : Bool) (ha : (Lit.int .u32 a).wf = true) (hb : (Lit.int .u32 b).wf = true) (w : World) :
    Calls Try.prog 8 #[.int .u32 a, .int .u32 b, .bool c] w fun e w' => e = .returned (.bool true) ∧ Below w.heap.size w w' :=
  acarries_any a b c (U_of ha) (U_of hb) w

end Go.Proofs.Ytfninhgjejdafaa.Cs
