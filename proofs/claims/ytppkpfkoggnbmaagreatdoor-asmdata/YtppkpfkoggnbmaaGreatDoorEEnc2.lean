/- Contracts of package spec: told, widths, first, begin. -/
import Derived.Test.YtppkpfkoggnbmaaGreatDoorEEnc
namespace Go.Proofs.YtppkpfkoggnbmaaGreatDoor.Cs.Es
open Go.RowKit
set_option linter.unusedVariables false

set_option maxHeartbeats 3200000 in
set_option maxRecDepth 100000 in
theorem told_any (s : Sp) (w : World) :
    Calls Tryz.prog 81 #[s.val] w fun e w' => e = .returned (td s).val ∧ Below w.heap.size w w' := by
  obtain ⟨k, r, i, x, n⟩ := s
  obtain ⟨t, ht⟩ : ∃ t, td ⟨k, r, i, x, n⟩ = t := ⟨_, rfl⟩
  rw [ht]
  unfold td at ht
  simp only at ht
  have hi : i < -1 ∨ i = -1 ∨ (¬ i < -1 ∧ i ≠ -1 ∧ -1 < i) := by omega
  obtain ⟨j, hj⟩ : ∃ j, max i (-1) = j := ⟨_, rfl⟩
  rw [hj] at ht
  have hk : k = 0 ∨ k = 12 ∨ k = 13 ∨ k = 5 ∨ k = 6 ∨ k = 7 ∨ k = 8 ∨ k = 9 ∨ (k ≠ 0 ∧ k ≠ 12 ∧ k ≠ 13 ∧ k ≠ 5 ∧ k ≠ 6 ∧ k ≠ 7 ∧ k ≠ 8 ∧ k ≠ 9) := by omega
  have HT := Lib.hid ht
  have HJ := Lib.hid hj
  clear ht hj
  rcases hk with rfl | rfl | rfl | rfl | rfl | rfl | rfl | rfl | ⟨h1, h2, h3, h4, h5, h6, h7, h8⟩
  case inr.inr.inr.inr.inr.inr.inr.inr =>
    have g1 : (k == 0) = false := by simpa using h1
    have g2 : (k == 12) = false := by simpa using h2
    have g3 : (k == 13) = false := by simpa using h3
    have g4 : (k == 5) = false := by simpa using h4
    have g5 : (k == 6) = false := by simpa using h5
    have g6 : (k == 7) = false := by simpa using h6
    have g7 : (k == 8) = false := by simpa using h7
    have g8 : (k == 9) = false := by simpa using h8
    have ht := HT.out
    rw [if_neg (by omega), if_neg (by omega)] at ht
    clear h1 h2 h3 h4 h5 h6 h7 h8 HT
    subst ht
    rcases hi with hi | rfl | ⟨hi, hi2, hi3⟩
    · obtain rfl : j = -1 := by rw [← HJ.out]; omega
      clear HJ
      go_enter Tryz.func81, Tryz.ntmps81
      go_wp2
      exact bodyPost_ret (v := (Sp.mk k r (-1) x n).val) (by simp [results, Tryz.results81, go_sem]; try omega) rfl ⟨rfl, by go_grown⟩
    · obtain rfl : j = -1 := by rw [← HJ.out]; rfl
      clear HJ
      go_enter Tryz.func81, Tryz.ntmps81
      go_wp2
      exact bodyPost_ret (v := (Sp.mk k r (-1) x n).val) (by simp [results, Tryz.results81, go_sem]; try omega) rfl ⟨rfl, by go_grown⟩
    · obtain rfl : j = i := by rw [← HJ.out]; omega
      clear HJ
      have g0 : (j == -1) = false := by simpa using hi2
      go_enter Tryz.func81, Tryz.ntmps81
      go_wp2
      exact bodyPost_ret (v := (Sp.mk k r j x n).val) (by simp [results, Tryz.results81, go_sem]; try omega) rfl ⟨rfl, by go_grown⟩
  all_goals
    obtain rfl := HT.out
    clear HT
    rcases hi with hi | rfl | ⟨hi, hi2, hi3⟩
    · obtain rfl : j = -1 := by rw [← HJ.out]; omega
      clear HJ
      go_enter Tryz.func81, Tryz.ntmps81
      go_wp2
      exact bodyPost_ret (v := Sp.val _) (by simp [results, Tryz.results81, go_sem]; try omega) rfl ⟨rfl, by go_grown⟩
    · obtain rfl : j = -1 := by rw [← HJ.out]; rfl
      clear HJ
      go_enter Tryz.func81, Tryz.ntmps81
      go_wp2
      exact bodyPost_ret (v := Sp.val _) (by simp [results, Tryz.results81, go_sem]; try omega) rfl ⟨rfl, by go_grown⟩
    · obtain rfl : j = i := by rw [← HJ.out]; omega
      clear HJ
      have g0 : (j == -1) = false := by simpa using hi2
      go_enter Tryz.func81, Tryz.ntmps81
      go_wp2
      exact bodyPost_ret (v := Sp.val _) (by simp [results, Tryz.results81, go_sem]; try omega) rfl ⟨rfl, by go_grown⟩

/-- A row of ints. -/
def c64 (l : List Nat) : List Value := l.map fun (x : Nat) => Value.int .i64 (x : Int)
def Rw (w : World) (v : Value) (l : List Nat) : Prop := w.ownsRow 0 3 1 v l.length (c64 l)
theorem Rw.nil (w : World) : Rw w (.slice none 0 0) [] := ⟨by simp [c64], .inl ⟨rfl, rfl⟩⟩
theorem Rw.lit (w : World) (l : List Nat) (n : Nat) (hn : l.length = n) (hm : n ≤ 1000) : Rw (w.alloc (.cells (c64 l).toArray 3)) (.slice (some ⟨w.heap.size, 0, none⟩) n n) l := by
  subst hn
  have := World.ownsRow_lit (e := 3) (size := 1) (base := 0) w (c64 l).toArray l.length (Nat.zero_le _) (by simp only [maxLen]; omega) (by simp [c64])
  exact this
def NewW (w : World) (l : List Nat) (e : Ending) (w' : World) : Prop := ∃ A c, e = .returned (.slice A l.length c) ∧ Rw w' (.slice A l.length c) l ∧ Below w.heap.size w w'

set_option maxHeartbeats 3200000 in
set_option maxRecDepth 100000 in
theorem widths_any (k : Int) (z : Nat) (w : World) : Calls Tryz.prog 82 #[.int .i64 k, .int .i64 z] w (NewW w (ws k z)) := by
  have hk : k = 0 ∨ k = 5 ∨ k = 6 ∨ k = 7 ∨ k = 8 ∨ k = 9 ∨ k = 10 ∨ k = 11 ∨ k = 12 ∨ k = 13 ∨ (k ≠ 0 ∧ k ≠ 5 ∧ k ≠ 6 ∧ k ≠ 7 ∧ k ≠ 8 ∧ k ≠ 9 ∧ k ≠ 10 ∧ k ≠ 11 ∧ k ≠ 12 ∧ k ≠ 13) := by omega
  rcases hk with rfl | rfl | rfl | rfl | rfl | rfl | rfl | rfl | rfl | rfl | ⟨h1, h2, h3, h4, h5, h6, h7, h8, h9, h10⟩
  case inr.inr.inr.inr.inr.inr.inr.inr.inr.inr =>
    have hw : ws k z = [] := by
      unfold ws
      rw [if_neg (by omega), if_neg (by omega), if_neg (by omega), if_neg (by omega)]
    rw [hw]
    have g1 : (k == 0) = false := by simpa using h1
    have g2 : (k == 5) = false := by simpa using h2
    have g3 : (k == 6) = false := by simpa using h3
    have g4 : (k == 7) = false := by simpa using h4
    have g5 : (k == 8) = false := by simpa using h5
    have g6 : (k == 9) = false := by simpa using h6
    have g7 : (k == 10) = false := by simpa using h7
    have g8 : (k == 11) = false := by simpa using h8
    have g9 : (k == 12) = false := by simpa using h9
    have g10 : (k == 13) = false := by simpa using h10
    clear h1 h2 h3 h4 h5 h6 h7 h8 h9 h10 hw
    go_enter Tryz.func82, Tryz.ntmps82
    go_wp2
    go_ret
    exact ⟨none, 0, rfl, Rw.nil _, Below.refl _ _⟩
  case inr.inr.inr.inr.inr.inr.inr.inr.inl =>
    rw [show ws 12 z = [z] by simp [ws]]
    go_enter Tryz.func82, Tryz.ntmps82
    go_wp2
    go_ret
    exact ⟨_, _, rfl, Rw.lit w [z] 1 rfl (by decide), al1 _ _⟩
  case inr.inr.inr.inr.inr.inr.inl =>
    rw [show ws 10 z = [1, 2, 4] by simp [ws]]
    go_enter Tryz.func82, Tryz.ntmps82
    go_wp2
    go_ret
    exact ⟨_, _, rfl, Rw.lit w [1, 2, 4] 3 rfl (by decide), al1 _ _⟩
  case inr.inr.inr.inr.inr.inr.inr.inl =>
    rw [show ws 11 z = [1, 2, 4] by simp [ws]]
    go_enter Tryz.func82, Tryz.ntmps82
    go_wp2
    go_ret
    exact ⟨_, _, rfl, Rw.lit w [1, 2, 4] 3 rfl (by decide), al1 _ _⟩
  case inr.inr.inr.inr.inr.inr.inr.inr.inr.inl =>
    rw [show ws 13 z = [4] by simp [ws]]
    go_enter Tryz.func82, Tryz.ntmps82
    go_wp2
    go_ret
    exact ⟨_, _, rfl, Rw.lit w [4] 1 rfl (by decide), al1 _ _⟩
  all_goals
    go_enter Tryz.func82, Tryz.ntmps82
    go_wp2
    go_ret
    exact ⟨_, _, rfl, Rw.lit w [0] 1 rfl (by decide), al1 _ _⟩

theorem and15i (n : Int) : bits .and .i64 n 15 = n % 16 := by
  have hr := Int.emod_nonneg n (by omega : (16 : Int) ≠ 0)
  have hr2 := Int.emod_lt_of_pos n (by omega : (0 : Int) < 16)
  have e : (((BitVec.ofInt 64 n &&& BitVec.ofInt 64 15).toNat : Nat) : Int) = n % 16 := by
    rw [BitVec.toNat_and]
    have hm : (BitVec.ofInt 64 15).toNat = 2 ^ 4 - 1 := by decide
    rw [hm, Nat.and_two_pow_sub_one_eq_mod, BitVec.toNat_ofInt, Int.natCast_emod, Int.toNat_of_nonneg (by omega)]
    exact Int.emod_emod_of_dvd n ⟨2 ^ 60, by decide⟩
  show IntKind.i64.wrap (((BitVec.ofInt 64 n &&& BitVec.ofInt 64 15).toNat : Nat) : Int) = _
  rw [e, IntKind.wrap_i64]
  omega
theorem or_fs {m q : Int} (h0 : 0 ≤ m) (h1 : m < 16) (q0 : 0 ≤ q) (q1 : q < 16) : bits .or .i64 (m * 16) q = m * 16 + q := by
  have : ∀ a b : Fin 16, bits .or .i64 ((a.val : Int) * 16) (b.val : Int) = (a.val : Int) * 16 + (b.val : Int) := by decide +kernel
  obtain ⟨a, rfl⟩ := Int.eq_ofNat_of_zero_le h0
  obtain ⟨b, rfl⟩ := Int.eq_ofNat_of_zero_le q0
  exact this ⟨a, by omega⟩ ⟨b, by omega⟩
theorem fs_byte {m r : Int} (h0 : 0 ≤ m) (h1 : m < 16) : 0 ≤ fs m r ∧ fs m r < 256 := by unfold fs; omega

set_option maxHeartbeats 400000 in
set_option maxRecDepth 100000 in
theorem first_any (m r : Int) (h0 : 0 ≤ m) (h1 : m < 16) (w : World) :
    Calls Tryz.prog 105 #[.int .i64 m, .int .i64 r] w fun e w' => e = .returned (.int .u8 (fs m r)) ∧ w = w' := by
  have ha := and15i r
  have hq0 : 0 ≤ r % 16 := by omega
  have hq1 : r % 16 < 16 := by omega
  have ho := or_fs h0 h1 hq0 hq1
  have HE := Lib.hid (show fs m r = m * 16 + r % 16 from rfl)
  generalize r % 16 = q at *
  have hb : m * 16 + q < 256 := by omega
  have hb0 : 0 ≤ m * 16 + q := by omega
  go_enter Tryz.func105, Tryz.ntmps105
  go_wp2
  go_ret
  exact ⟨ret_int (by rw [HE.out]), rfl⟩

theorem and63u {x : Int} (h : U x) : bits .and .u32 x 63 = x % 64 := by
  rw [u32_and _ _ h.1 h.2 (by omega) (by omega)]
  show ((x.toNat &&& 2 ^ 6 - 1 : Nat) : Int) = _
  rw [Nat.and_two_pow_sub_one_eq_mod]
  have := h.1
  omega

set_option maxHeartbeats 1600000 in
set_option maxRecDepth 100000 in
theorem begin_any (s : Sp) (n : Nat) (w : World) (hx : U s.x) (hn : n ≤ 4) (hk : s.k = 0 ∨ (5 ≤ s.k ∧ s.k ≤ 13)) :
    Calls Tryz.prog 106 #[s.val, .int .i64 n] w fun e w' => e = .returned (.int .u8 (bg s n)) ∧ Below w.heap.size w w' := by
  obtain ⟨k, r, i, x, m⟩ := s
  simp only at hx hk
  have K := fun a (h0 : 0 ≤ a) (h1 : a < 16) w => Lib.hid (first_any a r h0 h1 w)
  have K8 := fun w => Lib.hid (first_any 8 15 (by omega) (by omega) w)
  have K9 := fun w => Lib.hid (first_any 9 15 (by omega) (by omega) w)
  have H63 := Lib.hid (and63u hx)
  obtain ⟨q, hq⟩ : ∃ q, bg ⟨k, r, i, x, m⟩ n = q := ⟨_, rfl⟩
  rw [hq]
  unfold bg at hq
  simp only at hq
  have HQ := Lib.hid hq
  clear hq
  have hk' : k = 0 ∨ k = 12 ∨ k = 13 ∨ k = 10 ∨ k = 11 ∨ k = 5 ∨ k = 6 ∨ k = 7 ∨ k = 8 ∨ k = 9 := by omega
  clear hk
  rcases hk' with rfl | rfl | rfl | rfl | rfl | rfl | rfl | rfl | rfl | rfl
  · have hq := HQ.out
    rw [if_pos rfl] at hq
    have h6 := H63.out
    have h0 : 0 ≤ x % 64 := by omega
    have h1 : x % 64 < 64 := by omega
    rw [hq] at h6 h0 h1
    clear HQ hq H63 hx
    go_enter Tryz.func106, Tryz.ntmps106
    go_wp2
    go_ret
    exact ⟨rfl, al1 _ _⟩
  · obtain rfl : 143 = q := HQ.out
    clear HQ hx
    go_enter Tryz.func106, Tryz.ntmps106
    go_wp2_with (go_at_call 105; refine (K8 _).out.mono ?_; rintro e w' ⟨rfl, rfl⟩)
    go_ret
    exact ⟨rfl, al1 _ _⟩
  · obtain rfl : 159 = q := HQ.out
    clear HQ hx
    go_enter Tryz.func106, Tryz.ntmps106
    go_wp2_with (go_at_call 105; refine (K9 _).out.mono ?_; rintro e w' ⟨rfl, rfl⟩)
    go_ret
    exact ⟨rfl, al1 _ _⟩
  case inr.inr.inr.inl =>
    have hn4 : n = 0 ∨ n = 1 ∨ n = 2 ∨ n = 3 ∨ n = 4 := by omega
    rcases hn4 with rfl | rfl | rfl | rfl | rfl
    all_goals
      obtain rfl := HQ.out
      clear HQ hx
      go_enter Tryz.func106, Tryz.ntmps106
      go_wp2_with (go_at_call 105; refine (K _ (by omega) (by omega) _).out.mono ?_; rintro e w' ⟨rfl, rfl⟩)
      go_ret
      exact ⟨rfl, al1 _ _⟩
  case inr.inr.inr.inr.inl =>
    have hn4 : n = 0 ∨ n = 1 ∨ n = 2 ∨ n = 3 ∨ n = 4 := by omega
    rcases hn4 with rfl | rfl | rfl | rfl | rfl
    all_goals
      obtain rfl := HQ.out
      clear HQ hx
      go_enter Tryz.func106, Tryz.ntmps106
      go_wp2_with (go_at_call 105; refine (K _ (by omega) (by omega) _).out.mono ?_; rintro e w' ⟨rfl, rfl⟩)
      go_ret
      exact ⟨rfl, al1 _ _⟩
  all_goals
    obtain rfl := HQ.out
    clear HQ hx
    go_enter Tryz.func106, Tryz.ntmps106
    go_wp2_with (go_at_call 105; refine (K _ (by omega) (by omega) _).out.mono ?_; rintro e w' ⟨rfl, rfl⟩)
    go_ret
    exact ⟨rfl, al1 _ _⟩

end Go.Proofs.YtppkpfkoggnbmaaGreatDoor.Cs.Es
