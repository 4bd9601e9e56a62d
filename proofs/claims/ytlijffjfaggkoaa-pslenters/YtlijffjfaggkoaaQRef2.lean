/- Contracts of the document's own: Good, Back, Number, At, Enter. -/
import Derived.Test.YtlijffjfaggkoaaQOf
namespace Go.Proofs.Ytlijffjfaggkoaa.Cs
open Go.RowKit

set_option maxHeartbeats 1000000 in
theorem rgood_any (x : Int) (hx : U x) (w : World) :
    Calls Try.prog 15 #[.int .u32 x] w fun e w' => e = .returned (.bool (gd x)) ∧ Below w.heap.size w w' := by
  have C := Lib.hid (of_any x hx)
  have HG := Lib.hid (show gd x = (!rk x 32 && (!bi x 24 || (ip x == 0 && bi x 22))) from rfl)
  generalize rk x 32 = r at *
  generalize bi x 24 = u at *
  generalize bi x 22 = s at *
  generalize ip x = p at *
  generalize bi x 0 = b0 at *
  generalize bi x 1 = b1 at *
  generalize bi x 2 = b2 at *
  generalize bi x 3 = b3 at *
  generalize bi x 27 = b27 at *
  clear hx
  by_cases hp : p = 0
  · subst hp
    cases r <;> cases u
    all_goals
      go_enter Try.func15, Try.ntmps15
      go_wp2_with fail
      refine (C.out _).mono ?_
      rintro e w1 ⟨rfl, hb1⟩
      go_wp2
      go_ret
      exact ⟨ret_bool (by rw [HG.out]; rfl), hb1.alloc hb1.size _⟩
  · have hq : (p == 0) = false := by simpa using hp
    have HQ := Lib.hid hq
    cases r <;> cases u
    all_goals
      go_enter Try.func15, Try.ntmps15
      go_wp2_with fail
      refine (C.out _).mono ?_
      rintro e w1 ⟨rfl, hb1⟩
      go_wp2
      go_ret
      exact ⟨ret_bool (by rw [HG.out, HQ.out]; rfl), hb1.alloc hb1.size _⟩

set_option maxHeartbeats 1000000 in
theorem rback_any (f t : Int) (hf : U f) (ht : U t) (w : World) :
    Calls Try.prog 25 #[.int .u32 f, .int .u32 t] w fun e w' => e = .returned (.bool (bk f t)) ∧ Below w.heap.size w w' := by
  have G := Lib.hid (rgood_any t ht)
  have C1 := Lib.hid (of_any f hf)
  have C2 := Lib.hid (of_any t ht)
  have HB := Lib.hid (show bk f t = (gd t && (bi t 24 || (!bi f 24 && decide (ip t ≤ ip f)))) from rfl)
  generalize gd t = g at *
  generalize rk f 32 = fr at *
  generalize bi f 24 = fu at *
  generalize bi f 22 = fs at *
  generalize ip f = q at *
  generalize bi f 0 = f0 at *
  generalize bi f 1 = f1 at *
  generalize bi f 2 = f2 at *
  generalize bi f 3 = f3 at *
  generalize bi f 27 = f27 at *
  generalize rk t 32 = tr at *
  generalize bi t 24 = tu at *
  generalize bi t 22 = ts at *
  generalize ip t = p at *
  generalize bi t 0 = t0 at *
  generalize bi t 1 = t1 at *
  generalize bi t 2 = t2 at *
  generalize bi t 3 = t3 at *
  generalize bi t 27 = t27 at *
  clear hf ht
  cases g <;> cases tu <;> cases fu
  all_goals
    go_enter Try.func25, Try.ntmps25
    go_wp2_with fail
    refine (C1.out _).mono ?_
    rintro e w1 ⟨rfl, hb1⟩
    go_wp2_with fail
    refine (C2.out _).mono ?_
    rintro e w2 ⟨rfl, hb2⟩
    go_wp2_with fail
    refine (G.out _).mono ?_
    rintro e w3 ⟨rfl, hb3⟩
    have c1 := fun o => (below3 hb2 hb3).cell (p := ⟨w1.heap.size, o, none⟩) (by simp)
    have c2 := fun o => hb3.cell (p := ⟨w2.heap.size, o, none⟩) (by simp)
    have z1 : w1.heap.size < w2.heap.size := by have := hb2.size; simp at this; omega
    have HX := Lib.hid (below3 (below3 hb1 hb2) hb3)
    clear hb1 hb2 hb3
    go_wp2
    go_ret
    exact ⟨ret_bool (by rw [HB.out]; rfl), HX.out⟩

theorem fld1 (b3 b2 b1 b0 : Value) (p s u b27 r : Value) : ∀ w, (Instr.field 27 (.agg #[b3, b2, b1, b0, p, s, u, b27, r]) 1).run Try.prog w = .ok p w := fun _ => by kernel_rfl
theorem fld3 (b3 b2 b1 b0 : Value) (p s u b27 r : Value) : ∀ w, (Instr.field 27 (.agg #[b3, b2, b1, b0, p, s, u, b27, r]) 3).run Try.prog w = .ok u w := fun _ => by kernel_rfl

set_option maxHeartbeats 1000000 in
theorem rnumber_was (u : Bool) (w : World) :
    Calls Try.prog 31 #[.agg #[.bool false, .bool false, .bool false, .bool false, .int .i64 0, .bool u, .bool false, .bool false, .bool false]] w fun e w' => e = .returned (.int .u32 (wo u 4194304)) ∧ Below w.heap.size w w' := by
  go_enter Try.func31, Try.ntmps31
  go_wp2
  generalize hW : w.alloc (.cells #[.bool false, .bool false, .bool false, .bool false, .int .i64 0, .bool u, .bool false, .bool false, .bool false] 27) = W
  have b1 : Below w.heap.size w W := by rw [← hW]; exact (Below.refl _ _).alloc (Nat.le_refl _) _
  have f0 : W.cell? ⟨w.heap.size, 0, none⟩ = some (.bool false) := by rw [← hW]; simp [go_sem]
  have f1 : W.cell? ⟨w.heap.size, 1, none⟩ = some (.bool false) := by rw [← hW]; simp [go_sem]
  have f2 : W.cell? ⟨w.heap.size, 2, none⟩ = some (.bool false) := by rw [← hW]; simp [go_sem]
  have f3 : W.cell? ⟨w.heap.size, 3, none⟩ = some (.bool false) := by rw [← hW]; simp [go_sem]
  have f4 : W.cell? ⟨w.heap.size, 4, none⟩ = some (.int .i64 0) := by rw [← hW]; simp [go_sem]
  have f5 : W.cell? ⟨w.heap.size, 5, none⟩ = some (.bool u) := by rw [← hW]; simp [go_sem]
  have f6 : W.cell? ⟨w.heap.size, 6, none⟩ = some (.bool false) := by rw [← hW]; simp [go_sem]
  have f7 : W.cell? ⟨w.heap.size, 7, none⟩ = some (.bool false) := by rw [← hW]; simp [go_sem]
  clear hW
  replace f0 := later_cell f0
  replace f1 := later_cell f1
  replace f2 := later_cell f2
  replace f3 := later_cell f3
  replace f4 := later_cell f4
  replace f5 := later_cell f5
  replace f6 := later_cell f6
  replace f7 := later_cell f7
  refine wp_region_later (by kernel_rfl) (by kernel_rfl) ?_
  repeat (go_big_quiet_step (first | (go_at_call 30; exact later_same (worth_i _ _ (by omega) (by omega) _)) | (go_at_call 17; exact later_of (rcodes_any _ _ _ _ _))))
  refine wpQuiet_nil ?_
  rintro _ ⟨⟨w4, hb4⟩, rfl⟩
  go_wp2
  go_ret
  refine ⟨ret_int ?_, below2 b1 hb4⟩
  cases u <;> rfl

set_option maxHeartbeats 1000000 in
theorem rat_any (x l : Int) (hx : U x) (w : World) :
    Calls Try.prog 21 #[.int .u32 x, .int .i64 l] w fun e w' => e = .returned (.int .u32 (la x l)) ∧ Below w.heap.size w w' := by
  have C := Lib.hid (of_any x hx)
  obtain ⟨h0, h1⟩ := hx
  have ht : -32 < l.tmod 32 ∧ l.tmod 32 < 32 := ⟨by have := Int.lt_tmod_of_pos l (b := 32) (by omega); omega, Int.tmod_lt_of_pos _ (by omega)⟩
  obtain ⟨h2, h3⟩ := ht
  have hq : (l.tmod 32 + 32) % 32 = l % 32 := by
    have := mod32 l
    rw [Int.tmod_eq_emod_of_nonneg (by omega)] at this
    exact this
  have hi := ip_bound x
  have hi2 : ip x * 65536 ≤ x := by unfold ip; omega
  have hi3 : x - ip x * 65536 + 31 * 65536 < 4294967296 := by unfold ip; omega
  have HL := Lib.hid (show la x l = x - ip x * 65536 + l % 32 * 65536 from rfl)
  generalize ip x = p at *
  generalize rk x 32 = r at *
  generalize bi x 24 = u at *
  generalize bi x 22 = s at *
  generalize bi x 0 = b0 at *
  generalize bi x 1 = b1 at *
  generalize bi x 2 = b2 at *
  generalize bi x 3 = b3 at *
  generalize bi x 27 = b27 at *
  have i1 := fld1 (.bool b3) (.bool b2) (.bool b1) (.bool b0) (.int .i64 p) (.bool s) (.bool u) (.bool b27) (.bool r)
  go_enter Try.func21, Try.ntmps21
  go_wp2_with fail
  refine (C.out _).mono ?_
  rintro e w1 ⟨rfl, hb1⟩
  go_wp2
  go_ret
  refine ⟨ret_int ?_, hb1⟩
  rw [HL.out]

set_option maxHeartbeats 1000000 in
theorem renter_any (x l : Int) (hx : U x) (w : World) :
    Calls Try.prog 23 #[.int .u32 x, .int .i64 l] w fun e w' => e = .returned (.int .u32 (en x l)) ∧ Below w.heap.size w w' := by
  have C := Lib.hid (of_any x hx)
  have HE := Lib.hid (la_was (bi x 24) l)
  have HD := Lib.hid (show en x l = wo (bi x 24) 4194304 + l % 32 * 65536 from rfl)
  generalize ip x = p at *
  generalize rk x 32 = r at *
  generalize bi x 24 = u at *
  generalize bi x 22 = s at *
  generalize bi x 0 = b0 at *
  generalize bi x 1 = b1 at *
  generalize bi x 2 = b2 at *
  generalize bi x 3 = b3 at *
  generalize bi x 27 = b27 at *
  have i3 := fld3 (.bool b3) (.bool b2) (.bool b1) (.bool b0) (.int .i64 p) (.bool s) (.bool u) (.bool b27) (.bool r)
  go_enter Try.func23, Try.ntmps23
  go_wp2_with fail
  refine (C.out _).mono ?_
  rintro e w1 ⟨rfl, hb1⟩
  go_wp2_with fail
  refine (rnumber_was _ _).mono ?_
  rintro e w2 ⟨rfl, hb2⟩
  go_wp2_with fail
  refine (rat_any _ _ (wo_U _) _).mono ?_
  rintro e w3 ⟨rfl, hb3⟩
  go_wp2
  go_ret
  exact ⟨ret_int (by rw [HD.out, HE.out]), below2 (below2 hb1 hb2) hb3⟩

theorem a_enter (w : World) : Calls Try.prog 22 #[.int .u32 155189252, .int .i64 20] w fun e w' => e = .returned (.int .u32 5505024) ∧ w = w' :=
  (enter_any 155189252 20 ⟨by omega, by omega⟩ w).mono fun _ _ h => ⟨h.1.trans rfl, h.2⟩
theorem good_as (x : Int) (b : Bool) (hx : U x) (hb : gd x = b) (w : World) :
    Calls Try.prog 14 #[.int .u32 x] w fun e w' => e = .returned (.bool b) ∧ w = w' := hb ▸ good_any x hx w

set_option maxHeartbeats 400000 in
theorem alive_any (w : World) :
    Calls Try.prog 9 #[] w fun e w' => e = .returned (.bool true) ∧ w = w' := by
  go_enter Try.func9, Try.ntmps9
  go_wp2_with fail
  refine (a_enter _).mono ?_
  rintro e w' ⟨rfl, rfl⟩
  go_wp2_with fail
  refine (good_as 20971520 true ⟨by omega, by omega⟩ (by decide) _).mono ?_
  rintro e w' ⟨rfl, rfl⟩
  go_wp2_with fail
  refine (good_as 16777216 false ⟨by omega, by omega⟩ (by decide) _).mono ?_
  rintro e w' ⟨rfl, rfl⟩
  go_wp2
  go_ret
  exact ⟨rfl, rfl⟩
end Go.Proofs.Ytlijffjfaggkoaa.Cs
