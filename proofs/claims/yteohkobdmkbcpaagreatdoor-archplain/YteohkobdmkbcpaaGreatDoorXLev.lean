/- The document's Level, and the program's: the same number. -/
import Derived.Test.YteohkobdmkbcpaaGreatDoorXNew
namespace Go.Proofs.YteohkobdmkbcpaaGreatDoor.Cs
open Go.RowKit
set_option linter.unusedVariables false
set_option linter.unusedSimpArgs false

theorem bit_zero {x j : Nat} (h : x < 2 ^ (j + 1)) (hb : Ps.bi x j = false) : x < 2 ^ j := by
  have hp : 0 < 2 ^ j := Nat.two_pow_pos j
  have h2 : x / 2 ^ j < 2 := by
    rw [Nat.div_lt_iff_lt_mul hp]
    rw [Nat.pow_succ] at h
    omega
  have h3 : x / 2 ^ j % 2 ≠ 1 := fun e => by
    have : Ps.bi x j = true := by
      unfold Ps.bi
      have e2 : ((x : Int) / 2 ^ j % 2) = 1 := by exact_mod_cast e
      simp [e2]
    rw [this] at hb
    cases hb
  have h4 : x / 2 ^ j = 0 := by
    generalize x / 2 ^ j = y at h2 h3 ⊢
    omega
  rcases Nat.div_eq_zero_iff.1 h4 with e | e
  · omega
  · exact e
theorem bits_below {x : Nat} (hx : x < 2 ^ 32) : ∀ d k : Nat, k + d = 32 → (∀ j, k ≤ j → j ≤ 31 → Ps.bi x j = false) → x < 2 ^ k
  | 0, k, e, _ => by rw [show k = 32 by omega]; exact hx
  | d + 1, k, e, h => bit_zero (bits_below hx d (k + 1) (by omega) (fun j h1 h2 => h j (by omega) h2)) (h k (Nat.le_refl _) (by omega))
theorem blen_le {l : Int} (hl : U l) {k : Nat} (hk : k ≤ 32) (h : ∀ j, k ≤ j → j ≤ 31 → Ps.bi l j = false) : blen l ≤ k := by
  obtain ⟨l0, l1⟩ := hl
  obtain ⟨x, rfl⟩ : ∃ x : Nat, l = x := ⟨l.toNat, by omega⟩
  have hx : x < 2 ^ k := bits_below (by omega) (32 - k) k (by omega) h
  have := Go.Lib.bitLenAux_le 64 x k hx
  unfold blen Go.Lib.bitLen
  rw [show ((x : Int)).toNat = x from rfl]
  omega
theorem blen_ge {l : Int} (hl : U l) {k : Nat} (h : Ps.bi l k = true) : (k : Int) + 1 ≤ blen l := by
  obtain ⟨l0, l1⟩ := hl
  obtain ⟨x, rfl⟩ : ∃ x : Nat, l = x := ⟨l.toNat, by omega⟩
  have hk : 2 ^ k ≤ x := by
    apply Nat.le_of_not_lt
    intro hlt
    have : x / 2 ^ k = 0 := Nat.div_eq_of_lt hlt
    unfold Ps.bi at h
    have e : ((x : Int) / 2 ^ k % 2) = 0 := by
      have : ((x / 2 ^ k % 2 : Nat) : Int) = 0 := by rw [this]; rfl
      exact_mod_cast this
    rw [e] at h
    simp at h
  have hs := Go.Lib.bitLen_shift k x hk (by omega)
  have h1 : 1 ≤ x / 2 ^ k := (Nat.one_le_div_iff (Nat.two_pow_pos k)).2 hk
  have h2 : 1 ≤ Go.Lib.bitLen (x / 2 ^ k) := by
    unfold Go.Lib.bitLen
    rw [show (64 : Nat) = 63 + 1 from rfl, Go.Lib.bitLenAux, if_neg (by omega)]
    omega
  unfold blen
  rw [show ((x : Int)).toNat = x from rfl, hs]
  omega

theorem fldi (b3 b2 b1 b0 : Value) (p s u b27 r : Value) : ∀ w, (Instr.field 41 (.agg #[b3, b2, b1, b0, p, s, u, b27, r]) 1).run Tryz.prog w = .ok p w := fun _ => by kernel_rfl
set_option maxHeartbeats 1000000 in
set_option maxRecDepth 100000 in
theorem rlevel_any (p l : Int) (hp : U p) (hl : U l) (w : World) : Calls Tryz.prog 22 #[.int .u32 p, .int .u32 l] w fun e w' => e = .returned (.int .i64 (lvl p l)) ∧ Below w.heap.size w w' := by
  have HO := Lib.hid (fun W => Ps.of_any p hp W)
  have HB := Lib.hid (fun (k : Nat) (hk : k ≤ 31) W => Ps.rbit_any l k hl hk W)
  have HL := Lib.hid hl
  obtain ⟨i0, i1⟩ := Ps.ip_bound p
  generalize hi : Ps.ip p = i at *
  have HI := Lib.hid hi
  clear hl hi
  have fi := fldi (.bool (Ps.bi p 3)) (.bool (Ps.bi p 2)) (.bool (Ps.bi p 1)) (.bool (Ps.bi p 0)) (.int .i64 i) (.bool (Ps.bi p 22)) (.bool (Ps.bi p 24)) (.bool (Ps.bi p 27)) (.bool (Ps.rk p 32))
  go_enter Tryz.func22, Tryz.ntmps22
  go_upto_region 2 with fail
  go_loopw [5] (fun v W => ∃ k : Nat, k ≤ 31 ∧ v = .int .i64 k ∧ Below w.heap.size w W ∧ ∀ j, k + 1 ≤ j → j ≤ 31 → Ps.bi l j = false) (fun v _ => (intOf v).toNat)
  case atStart => exact ⟨31, by omega, rfl, Below.refl _ _, fun j h1 h2 => by omega⟩
  case round =>
    obtain ⟨k, hk, rfl, hb, hz⟩ := hrel
    have HBw := Lib.hid hb
    have HZ := Lib.hid hz
    clear hb hz
    by_cases hlt : i < k
    · cases hbit : Ps.bi l k
      · have HBt := Lib.hid (fun W => Ps.rbit_as l k HL.out hk _ hbit W)
        have HBi := Lib.hid hbit
        clear hbit
        go_wp2_with (first
          | (go_at_call 14; refine (HO.out _).mono ?_; rintro e w1 ⟨rfl, hb1⟩; have HB1 := Lib.hid hb1; clear hb1)
          | (go_at_call 35; refine (HBt.out _).mono ?_; rintro e w1 ⟨rfl, rfl⟩)
          | fail)
        go_roundw
        case rel =>
          refine ⟨k - 1, by omega, by go_num, Tl.bel2 HBw.out HB1.out, fun j h1 h2 => ?_⟩
          by_cases e : j = k
          · subst e; exact HBi.out
          · exact HZ.out j (by omega) h2
        case measure => simp [intOf]; omega
      · have HBt := Lib.hid (fun W => Ps.rbit_as l k HL.out hk _ hbit W)
        have hv : lvl p l = k := by
          have h1 := blen_ge HL.out hbit
          have h2 := blen_le HL.out (k := k + 1) (by omega) HZ.out
          unfold lvl
          rw [HI.out, if_pos (by omega)]
          omega
        have HV := Lib.hid hv
        clear hbit hv
        go_wp2_with (first
          | (go_at_call 14; refine (HO.out _).mono ?_; rintro e w1 ⟨rfl, hb1⟩; have HB1 := Lib.hid hb1; clear hb1)
          | (go_at_call 35; refine (HBt.out _).mono ?_; rintro e w1 ⟨rfl, rfl⟩)
          | fail)
        exact bodyPost_ret (v := .int .i64 k) (by simp [results, Tryz.results22, go_sem]) rfl ⟨by rw [HV.out], Tl.bel2 HBw.out HB1.out⟩
    · have hv : lvl p l = 0 := by
        have h2 := blen_le HL.out (k := k + 1) (by omega) HZ.out
        unfold lvl
        rw [HI.out, if_neg (by omega)]
      have HV := Lib.hid hv
      clear hv
      go_wp2_with (first
        | (go_at_call 14; refine (HO.out _).mono ?_; rintro e w1 ⟨rfl, hb1⟩; have HB1 := Lib.hid hb1; clear hb1)
        | fail)
      exact bodyPost_ret (v := .int .i64 0) (by simp [results, Tryz.results22, go_sem]) rfl ⟨by rw [HV.out], Tl.bel2 HBw.out HB1.out⟩

end Go.Proofs.YteohkobdmkbcpaaGreatDoor.Cs
