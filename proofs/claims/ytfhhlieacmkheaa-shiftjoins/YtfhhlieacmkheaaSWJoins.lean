/- The walk of ShiftJoins. -/
import Derived.Test.YtfhhlieacmkheaaSAlive
namespace Go.Proofs.Ytfhhlieacmkheaa.Cs
open Go.RowKit

/-- a field without a sign, as a number -/
theorem ev_plain (r : Int) {a s : Nat} (hs : s ≤ 32) : ev r a s false = r / 2 ^ a % 2 ^ s := by
  have hp := pw s
  refine bi_ext (ev_U r a s false).1 (Int.emod_nonneg _ (by omega)) fun i => ?_
  rw [ev_bi, bi_mod, bi_div]
  unfold xb
  by_cases h : i < s
  · simp [h, show i < 32 by omega]
  · simp [h]
/-- a field is its two parts -/
theorem ev_join (r : Int) {t a b : Nat} (h : a + b ≤ 32) : ev r t a false + ev r (t + a) b false * 2 ^ a = ev r t (a + b) false := by
  rw [ev_plain r (by omega), ev_plain r (by omega), ev_plain r (by omega), Int.pow_add, ← Int.ediv_ediv_of_nonneg (Int.le_of_lt (pw t))]
  generalize r / 2 ^ t = q
  have e : (2 : Int) ^ (a + b) = 2 ^ a * 2 ^ b := Int.pow_add ..
  rw [e]
  have h1 := Int.mul_ediv_add_emod q (2 ^ a)
  have h2 := Int.mul_ediv_add_emod (q / 2 ^ a) (2 ^ b)
  have h3 := Int.mul_ediv_add_emod q (2 ^ a * 2 ^ b)
  rw [← Int.ediv_ediv_of_nonneg (Int.le_of_lt (pw a))] at h3
  generalize q / 2 ^ a / 2 ^ b = z at *
  have e2 : (2 : Int) ^ a * (2 ^ b * z + q / 2 ^ a % 2 ^ b) = 2 ^ a * 2 ^ b * z + q / 2 ^ a % 2 ^ b * 2 ^ a := by
    rw [Int.mul_add, Int.mul_assoc, Int.mul_comm (q / 2 ^ a % 2 ^ b)]
  rw [h2] at e2
  omega

set_option maxRecDepth 100000 in
set_option maxHeartbeats 4000000 in
theorem joins_yes (r : Int) (t a b : Nat) (hab : a + b ≤ 32) (hta : t + a ≤ 31) (w : World) :
    Calls Try.prog 8 #[.int .u64 r, .int .i64 t, .int .i64 a, .int .i64 b] w fun e w' => e = .returned (.bool true) ∧ Below w.heap.size w w' := by
  have K0 := Lib.hid alive9
  have k1 := extract_any r t (a + b) false (by omega) (by omega)
  have k2 := extract_any r t a false (by omega) (by omega)
  have k3 := extract_any r (t + a) b false (by omega) (by omega)
  have k4 := span_any t (a + b) (by omega)
  have e1 : ((t : Int) % 32).toNat = t := by omega
  have e2 : (((t : Int) + a) % 32).toNat = t + a := by omega
  have e3 : ((a : Int) + b).toNat = a + b := by omega
  rw [e1, e3] at k1
  rw [e1, Int.toNat_natCast] at k2
  rw [e2, Int.toNat_natCast] at k3
  have J := ev_join r (t := t) hab
  obtain ⟨x0, x1⟩ := ev_U r t (a + b) false
  obtain ⟨y0, y1⟩ := ev_U r t a false
  obtain ⟨z0, z1⟩ := ev_U r (t + a) b false
  have hp : (2 : Int) ^ a ≤ 4294967296 := pw_le (by omega : a ≤ 32)
  have hp0 := pw a
  have hq : ev r (t + a) b false * 2 ^ a < 4294967296 := by omega
  have hq0 : 0 ≤ ev r (t + a) b false * 2 ^ a := Int.mul_nonneg z0 (by omega)
  have hS : sp t (a + b) = if (a : Int) + b < 1 then 0 else ((t : Int) % 8 + (a + b) + 7) / 8 := rfl
  have HJ := Lib.hid (show IntKind.u64.wrap (ev r t a false + IntKind.u64.wrap (ev r (t + a) b false * 2 ^ a)) = ev r t (a + b) false by
    rw [IntKind.wrap_u64, IntKind.wrap_u64, Int.emod_eq_of_lt hq0 (by omega), J]
    exact Int.emod_eq_of_lt x0 (by omega))
  have K1 := Lib.hid k1
  have K2 := Lib.hid k2
  have K3 := Lib.hid k3
  have K4 := Lib.hid k4
  clear k1 k2 k3 k4 hp hp0 e1 e2 e3 hq hq0 J
  generalize sp t (a + b) = n at *
  generalize ev r t (a + b) false = x at *
  generalize ev r t a false = y at *
  generalize ev r (t + a) b false = z at *
  by_cases h0 : (a : Int) + b = 0
  · rw [if_pos (by omega)] at hS
    subst hS
    rw [h0] at K1 K4
    go_enter Try.func8, Try.ntmps8
    go_wp2_with fail
    refine (K0.out _).mono ?_
    rintro e w1 ⟨rfl, hb1⟩
    go_wp2_with fail
    refine (K1.out _).mono ?_
    rintro e w' ⟨rfl, rfl⟩
    go_wp2_with fail
    refine (K2.out _).mono ?_
    rintro e w' ⟨rfl, rfl⟩
    go_wp2_with fail
    refine (K3.out _).mono ?_
    rintro e w' ⟨rfl, rfl⟩
    go_wp2_with fail
    rw [HJ.out]
    refine (K4.out _).mono ?_
    rintro e w' ⟨rfl, rfl⟩
    go_wp2
    go_ret
    exact ⟨rfl, hb1⟩
  · rw [if_neg (by omega)] at hS
    have g1 : (t : Int) % 8 + a + b ≤ 8 * n := by omega
    have g2 : 8 * (n - 1) < (t : Int) % 8 + a + b := by omega
    have g3 : 0 ≤ n := by omega
    have g4 : n ≤ 10 := by omega
    clear hS
    go_enter Try.func8, Try.ntmps8
    go_wp2_with fail
    refine (K0.out _).mono ?_
    rintro e w1 ⟨rfl, hb1⟩
    go_wp2_with fail
    refine (K1.out _).mono ?_
    rintro e w' ⟨rfl, rfl⟩
    go_wp2_with fail
    refine (K2.out _).mono ?_
    rintro e w' ⟨rfl, rfl⟩
    go_wp2_with fail
    refine (K3.out _).mono ?_
    rintro e w' ⟨rfl, rfl⟩
    go_wp2_with fail
    rw [HJ.out]
    refine (K4.out _).mono ?_
    rintro e w' ⟨rfl, rfl⟩
    go_wp2
    go_ret
    exact ⟨rfl, hb1⟩

set_option maxRecDepth 100000 in
set_option maxHeartbeats 4000000 in
theorem joins_not (r t a b : Int) (t0 : -9223372036854775808 ≤ t) (t1 : t < 9223372036854775808) (h : ¬ (0 ≤ t ∧ 0 ≤ a ∧ 0 ≤ b ∧ t ≤ 31 ∧ a ≤ 32 ∧ b ≤ 32 ∧ a + b ≤ 32 ∧ t + a ≤ 31)) (w : World) :
    Calls Try.prog 8 #[.int .u64 r, .int .i64 t, .int .i64 a, .int .i64 b] w fun e w' => e = .returned (.bool true) ∧ Below w.heap.size w w' := by
  have K0 := Lib.hid alive9
  by_cases h1 : 0 ≤ t
  · by_cases h2 : 0 ≤ a
    · by_cases h3 : 0 ≤ b
      · by_cases h4 : t ≤ 31
        · by_cases h5 : a ≤ 32
          · by_cases h6 : b ≤ 32
            · by_cases h7 : a + b ≤ 32
              · have h8 : ¬ t + a ≤ 31 := fun h8 => h ⟨h1, h2, h3, h4, h5, h6, h7, h8⟩
                clear h
                go_enter Try.func8, Try.ntmps8
                go_wp2_with fail
                refine (K0.out _).mono ?_
                rintro e w1 ⟨rfl, hb1⟩
                go_wp2
                go_ret
                exact ⟨rfl, hb1⟩
              · clear h
                go_enter Try.func8, Try.ntmps8
                go_wp2_with fail
                refine (K0.out _).mono ?_
                rintro e w1 ⟨rfl, hb1⟩
                go_wp2
                go_ret
                exact ⟨rfl, hb1⟩
            · clear h
              go_enter Try.func8, Try.ntmps8
              go_wp2_with fail
              refine (K0.out _).mono ?_
              rintro e w1 ⟨rfl, hb1⟩
              go_wp2
              go_ret
              exact ⟨rfl, hb1⟩
          · clear h
            go_enter Try.func8, Try.ntmps8
            go_wp2_with fail
            refine (K0.out _).mono ?_
            rintro e w1 ⟨rfl, hb1⟩
            go_wp2
            go_ret
            exact ⟨rfl, hb1⟩
        · clear h
          go_enter Try.func8, Try.ntmps8
          go_wp2_with fail
          refine (K0.out _).mono ?_
          rintro e w1 ⟨rfl, hb1⟩
          go_wp2
          go_ret
          exact ⟨rfl, hb1⟩
      · clear h
        go_enter Try.func8, Try.ntmps8
        go_wp2_with fail
        refine (K0.out _).mono ?_
        rintro e w1 ⟨rfl, hb1⟩
        go_wp2
        go_ret
        exact ⟨rfl, hb1⟩
    · clear h
      go_enter Try.func8, Try.ntmps8
      go_wp2_with fail
      refine (K0.out _).mono ?_
      rintro e w1 ⟨rfl, hb1⟩
      go_wp2
      go_ret
      exact ⟨rfl, hb1⟩
  · clear h
    go_enter Try.func8, Try.ntmps8
    go_wp2_with fail
    refine (K0.out _).mono ?_
    rintro e w1 ⟨rfl, hb1⟩
    go_wp2
    go_ret
    exact ⟨rfl, hb1⟩

theorem joins_walk (r t a b : Int) (_ : (Lit.int .u64 r).wf = true) (ht : (Lit.int .i64 t).wf = true) (_ : (Lit.int .i64 a).wf = true) (_ : (Lit.int .i64 b).wf = true) (w : World) :
    Calls Try.prog 8 #[.int .u64 r, .int .i64 t, .int .i64 a, .int .i64 b] w fun e w' => e = .returned (.bool true) ∧ Below w.heap.size w w' := by
  by_cases h : 0 ≤ t ∧ 0 ≤ a ∧ 0 ≤ b ∧ t ≤ 31 ∧ a ≤ 32 ∧ b ≤ 32 ∧ a + b ≤ 32 ∧ t + a ≤ 31
  · obtain ⟨h1, h2, h3, h4, h5, h6, h7, h8⟩ := h
    obtain ⟨t, rfl⟩ := Int.eq_ofNat_of_zero_le h1
    obtain ⟨a, rfl⟩ := Int.eq_ofNat_of_zero_le h2
    obtain ⟨b, rfl⟩ := Int.eq_ofNat_of_zero_le h3
    exact joins_yes r t a b (by omega) (by omega) w
  · have := bounds_i64 ht
    exact joins_not r t a b (by omega) (by omega) h w

end Go.Proofs.Ytfhhlieacmkheaa.Cs
