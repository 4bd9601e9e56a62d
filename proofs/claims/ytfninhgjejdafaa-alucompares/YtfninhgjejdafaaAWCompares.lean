/- The walk of AluCompares. -/
import Derived.Test.YtfninhgjejdafaaADo
namespace Go.Proofs.Ytfninhgjejdafaa.Cs
open Go.RowKit

theorem zr_df {s : Int} (hs : Sz s) (a b : Int) : zr (df a b false s) s = (a % W s == b % W s) := by
  have h := df_mod hs a b false
  unfold zr
  rw [← h]
  have e : bt false = 0 := rfl
  rw [e, Bool.eq_iff_iff]; simp only [beq_iff_eq]
  rcases W_cases hs with k | k | k <;> rw [k] <;> omega
theorem ng_df {s : Int} (hs : Sz s) (a b : Int) (hf : ft (df a b false s) s = true) : ng (df a b false s) s = decide (sg a s < sg b s) := by
  have h := sg_ft hs (df a b false s)
  rw [hf] at h
  have h : sg (df a b false s) s = df a b false s := by simpa using h
  rw [ng_sg hs, h]
  have e : bt false = 0 := rfl
  unfold df; rw [e]; simp only [decide_eq_decide]; omega

/-- three ways: less, the same, greater -/
theorem three {s : Int} (hs : Sz s) (a b : Int) : (a % W s = b % W s ∧ sg a s = sg b s) ∨ (a % W s ≠ b % W s ∧ sg a s ≠ sg b s) := by
  unfold sg
  rcases W_cases hs with h | h | h <;> rw [h] <;> split <;> split <;> omega

theorem cmp_codes {s : Int} (hs : Sz s) (a b : Int) : ∃ n z c m d : Bool,
    an 16 a b true s = ⟨a % W s, n, z, false, c, true⟩ ∧ an 16 b a false s = ⟨b % W s, m, z, false, d, true⟩ ∧ (z = true → n = false ∧ m = false ∧ c = false ∧ d = false) ∧ (z = false → n = !m ∧ c = !d) ∧
    ∃ y nn v, an 7 b a false s = ⟨y, nn, z, v, c, true⟩ ∧ (v = true ∨ nn = n) := by
  refine ⟨decide (sg a s < sg b s), a % W s == b % W s, decide (a % W s < b % W s), decide (sg b s < sg a s), decide (b % W s < a % W s), rfl, ?_, ?_, ?_, df a b false s % W s, ng (df a b false s) s, !ft (df a b false s) s, ?_, ?_⟩
  · show (⟨b % W s, decide (sg b s < sg a s), b % W s == a % W s, false, decide (b % W s < a % W s), true⟩ : An) = _
    rw [show (b % W s == a % W s) = (a % W s == b % W s) by rw [Bool.eq_iff_iff]; simp only [beq_iff_eq]; exact ⟨Eq.symm, Eq.symm⟩]
  · intro h
    have h : a % W s = b % W s := by simpa using h
    have h2 := sg_congr h
    rw [h, h2]; simp
  · intro h
    have h : a % W s ≠ b % W s := by simpa using h
    rcases three hs a b with ⟨k, _⟩ | ⟨_, k⟩
    · exact absurd k h
    · refine ⟨?_, ?_⟩ <;> rw [Bool.eq_iff_iff] <;> simp <;> omega
  · show (⟨df a b false s % W s, ng (df a b false s) s, zr (df a b false s) s, !ft (df a b false s) s, decide (a % W s < b % W s + bt false), true⟩ : An) = _
    rw [zr_df hs, show bt false = 0 from rfl, Int.add_zero]
  · cases h : ft (df a b false s) s
    · exact .inl rfl
    · exact .inr (ng_df hs a b h)

set_option maxHeartbeats 2000000 in
theorem acompares_yes (a b s : Int) (hs : Sz s) (ha : U a) (hb : U b) (w : World) :
    Calls Try.prog 6 #[.int .u32 a, .int .u32 b, .int .i64 s] w fun e w' => e = .returned (.bool true) ∧ Below w.heap.size w w' := by
  obtain ⟨n, z, c, m, d, e1, e2, h1, h2, y, nn, v, e3, h3⟩ := cmp_codes hs a b
  have K1 := Lib.hid (do_as 16 a b s true _ hs ha hb e1)
  have K2 := Lib.hid (do_as 16 b a s false _ hs hb ha e2)
  have K3 := Lib.hid (do_as 7 b a s false _ hs hb ha e3)
  clear e1 e2 e3
  unfold An.val at *
  have go : ∀ (n z c m d nn v : Bool), (z = true → n = false ∧ m = false ∧ c = false ∧ d = false) → (z = false → n = !m ∧ c = !d) → (v = true ∨ nn = n) →
      (z = true ∧ n = false ∧ m = false ∧ c = false ∧ d = false ∧ v = true) ∨ (z = true ∧ n = false ∧ m = false ∧ c = false ∧ d = false ∧ v = false ∧ nn = false) ∨ (z = false ∧ n = !m ∧ c = !d ∧ v = true) ∨ (z = false ∧ n = !m ∧ c = !d ∧ v = false ∧ nn = !m) := by
    intro n z c m d nn v h1 h2 h3
    cases z
    · obtain ⟨rfl, rfl⟩ := h2 rfl
      cases v
      · exact .inr (.inr (.inr ⟨rfl, rfl, rfl, rfl, h3.resolve_left (by simp)⟩))
      · exact .inr (.inr (.inl ⟨rfl, rfl, rfl, rfl⟩))
    · obtain ⟨rfl, rfl, rfl, rfl⟩ := h1 rfl
      cases v
      · exact .inr (.inl ⟨rfl, rfl, rfl, rfl, rfl, rfl, h3.resolve_left (by simp)⟩)
      · exact .inl ⟨rfl, rfl, rfl, rfl, rfl, rfl⟩
  rcases go n z c m d nn v h1 h2 h3 with ⟨rfl, rfl, rfl, rfl, rfl, rfl⟩ | ⟨rfl, rfl, rfl, rfl, rfl, rfl, rfl⟩ | ⟨rfl, rfl, rfl, rfl⟩ | ⟨rfl, rfl, rfl, rfl, rfl⟩
  all_goals
    clear h1 h2 h3 go
    first | (cases m <;> cases d) | skip
  all_goals
    go_enter Try.func6, Try.ntmps6
    go_wp2_with fail
    refine (alive8 _).mono ?_
    rintro e w1 ⟨rfl, hb1⟩
    go_wp2_with (first | (go_at_call 10; refine (size_any _ hs _).mono ?_; rintro e w' ⟨rfl, rfl⟩) | fail)
    refine (K1.out _).mono ?_
    rintro e w2 ⟨rfl, hb2⟩
    go_wp2_with fail
    refine (K2.out _).mono ?_
    rintro e w3 ⟨rfl, hb3⟩
    go_wp2_with fail
    refine (K3.out _).mono ?_
    rintro e w4 ⟨rfl, hb4⟩
    have c2 := fun o => (below3 hb3 hb4).cell (p := ⟨w2.heap.size, o, none⟩) (by simp)
    have c3 := fun o => hb4.cell (p := ⟨w3.heap.size, o, none⟩) (by simp)
    have z3 : w2.heap.size < w3.heap.size := by have := hb3.size; simp at this; omega
    have z4 : w3.heap.size < w4.heap.size := by have := hb4.size; simp at this; omega
    have z24 : w2.heap.size < w4.heap.size := by omega
    go_wp2
    go_ret
    have hx := below3 (below3 (below2 hb1 hb2) hb3) hb4
    exact ⟨rfl, hx.alloc hx.size _⟩

set_option maxHeartbeats 400000 in
theorem acompares_not (a b s : Int) (hs : ¬ Sz s) (w : World) :
    Calls Try.prog 6 #[.int .u32 a, .int .u32 b, .int .i64 s] w fun e w' => e = .returned (.bool true) ∧ Below w.heap.size w w' := by
  go_enter Try.func6, Try.ntmps6
  go_wp2_with fail
  refine (alive8 _).mono ?_
  rintro e w1 ⟨rfl, hb1⟩
  go_wp2_with (first | (go_at_call 10; refine (size_not _ hs _).mono ?_; rintro e w' ⟨rfl, rfl⟩) | fail)
  go_ret
  exact ⟨rfl, hb1⟩

theorem acompares_walk (a b s : Int) (ha : (Lit.int .u32 a).wf = true) (hb : (Lit.int .u32 b).wf = true) (_ : (Lit.int .i64 s).wf = true) (w : World) :
    Calls Try.prog 6 #[.int .u32 a, .int .u32 b, .int .i64 s] w fun e w' => e = .returned (.bool true) ∧ Below w.heap.size w w' := by
  by_cases hs : Sz s
  · exact acompares_yes a b s hs (U_of ha) (U_of hb) w
  · exact acompares_not a b s hs w
end Go.Proofs.Ytfninhgjejdafaa.Cs
