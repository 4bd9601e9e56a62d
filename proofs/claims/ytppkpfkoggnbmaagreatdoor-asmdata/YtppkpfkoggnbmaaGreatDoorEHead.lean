/- Contracts of package spec: head, can. -/
import Derived.Test.YtppkpfkoggnbmaaGreatDoorELeaf
namespace Go.Proofs.YtppkpfkoggnbmaaGreatDoor.Cs.Es
open Go.RowKit

/-- what head answers -/
def Hd.sp (h : Hd) : Sp := ⟨h.k, h.r, 0, h.v, 0⟩

set_option maxHeartbeats 4000000 in
set_option maxRecDepth 100000 in
theorem head_any (x z : Int) (hx : 0 ≤ x ∧ x < 256) (hz : Sz z) (w : World) :
    Calls Tryz.prog 30 #[.int .u8 x, .int .i64 z] w fun e w' => e = .returned (.tuple #[(hd x z).sp.val, .int .i64 (hd x z).w]) ∧ Below w.heap.size w w' := by
  have K := fun w => Lib.hid (register_any x hx w)
  have h63 := Lib.hid (and63 hx.1 hx.2)
  have hzt : ((z.toNat : Nat) : Int) = z := by rcases hz with rfl | rfl | rfl <;> rfl
  have HZ := Lib.hid hzt
  clear hzt
  obtain ⟨x0, x1⟩ := hx
  obtain ⟨r, hr⟩ : ∃ r, x % 16 = r := ⟨_, rfl⟩
  have hr0 : 0 ≤ r := by omega
  have hr1 : r < 16 := by omega
  rw [hr] at K
  by_cases hlo : x / 16 < 4
  · have HE : Hid (hd x z = ⟨0, 0, x % 64, 0⟩) := by show hd x z = _; unfold hd; rw [if_pos hlo]
    have h6 := h63.out
    have h60 : 0 ≤ x % 64 := by omega
    have h61 : x % 64 < 64 := by omega
    generalize x % 64 = q at *
    clear h63 hr
    go_enter Tryz.func30, Tryz.ntmps30
    go_wp2_with (go_at_call 28; refine (K _).out.mono ?_; rintro e w' ⟨rfl, rfl⟩)
    refine bodyPost_ret (v := .tuple #[(Sp.mk 0 0 0 q 0).val, .int .i64 0]) (by simp [results, Tryz.results30, go_sem]) rfl ⟨by rw [HE.out]; rfl, by go_grown⟩
  · have hm : ∃ m, x / 16 = m := ⟨_, rfl⟩
    obtain ⟨m, hm⟩ := hm
    have hz0 : 0 ≤ z := by rcases hz with rfl | rfl | rfl <;> omega
    have h16 : m = 8 ∨ m = 9 ∨ m = 4 ∨ m = 5 ∨ m = 6 ∨ m = 7 ∨ m = 10 ∨ m = 11 ∨ m = 12 ∨ m = 13 ∨ m = 14 ∨ m = 15 := by omega
    obtain ⟨hh, hE⟩ : ∃ hh, hd x z = hh := ⟨_, rfl⟩
    rw [hE]
    unfold hd at hE
    rw [hr, hm] at hE
    have HE := Lib.hid hE
    clear hE hlo h63 hr
    by_cases h89 : m = 8 ∨ m = 9
    · clear h16
      by_cases h15 : r = 15
      · subst h15
        rcases h89 with rfl | rfl
        all_goals
          obtain rfl := HE.out
          clear HE
          go_enter Tryz.func30, Tryz.ntmps30
          go_wp2_with (first | (go_at_call 28; refine (K _).out.mono ?_; rintro e w' ⟨rfl, rfl⟩) | fail)
          refine bodyPost_ret (v := .tuple #[(Hd.sp _).val, .int .i64 _]) (by simp [results, Tryz.results30, go_sem]; first | rfl | (simp [Hd.sp]; done) | (simp [Hd.sp]; omega)) rfl ⟨rfl, by go_grown⟩
      · have g15 : (r == 15) = false := by simpa using h15
        rcases h89 with rfl | rfl
        all_goals
          rw [if_neg (by omega), if_neg (by omega), if_neg (by omega), if_neg (by omega), if_pos (by omega)] at HE
          obtain rfl := HE.out
          clear HE h15
          go_enter Tryz.func30, Tryz.ntmps30
          go_wp2_with (first | (go_at_call 28; refine (K _).out.mono ?_; rintro e w' ⟨rfl, rfl⟩) | fail)
          refine bodyPost_ret (v := .tuple #[(Hd.sp _).val, .int .i64 _]) (by simp [results, Tryz.results30, go_sem]; first | rfl | (simp [Hd.sp]; done)) rfl ⟨rfl, by go_grown⟩
    · rcases h16 with h | h | rfl | rfl | rfl | rfl | rfl | rfl | rfl | rfl | rfl | rfl
      · exact absurd (.inl h) h89
      · exact absurd (.inr h) h89
      all_goals
        obtain rfl := HE.out
        clear HE h89
        go_enter Tryz.func30, Tryz.ntmps30
        go_wp2_with (first | (go_at_call 28; refine (K _).out.mono ?_; rintro e w' ⟨rfl, rfl⟩) | fail)
        try (go_region; go_wp2)
        refine bodyPost_ret (v := .tuple #[(Hd.sp _).val, .int .i64 _]) (by simp [results, Tryz.results30, go_sem]; first | rfl | (simp [Hd.sp]; done)) rfl ⟨rfl, by go_grown⟩

/-- a specifier in memory whose answer is asked of -/
def Sp.can (s : Sp) (a : Int) : Bool := cn s.k s.r s.i a

set_option maxHeartbeats 4000000 in
set_option maxRecDepth 100000 in
theorem can_any (s : Sp) (a : Int) (w : World) :
    Calls Tryz.prog 31 #[s.val, .int .u8 a] w fun e w' => e = .returned (.bool (s.can a)) ∧ Below w.heap.size w w' := by
  obtain ⟨k, r, i, x, n⟩ := s
  have h16 : k = 14 ∨ k = 0 ∨ k = 12 ∨ k = 5 ∨ k = 6 ∨ k = 7 ∨ (k ≠ 14 ∧ k ≠ 0 ∧ k ≠ 12 ∧ k ≠ 5 ∧ k ≠ 6 ∧ k ≠ 7) := by omega
  obtain ⟨b, hE⟩ : ∃ b, Sp.can ⟨k, r, i, x, n⟩ a = b := ⟨_, rfl⟩
  rw [hE]
  rcases h16 with rfl | rfl | rfl | rfl | rfl | rfl | ⟨h1, h2, h3, h4, h5, h6⟩
  · obtain rfl : false = b := hE
    go_enter Tryz.func31, Tryz.ntmps31
    go_wp2
    go_ret
    exact ⟨rfl, al1 _ _⟩
  · have HE : Hid ((a == 114 && i == -1) = b) := hE
    clear hE
    by_cases ha : a = 114
    · subst ha
      go_enter Tryz.func31, Tryz.ntmps31
      go_wp2
      go_ret
      exact ⟨ret_bool (by rw [← HE.out]; rfl), al1 _ _⟩
    · have ga : (a == 114) = false := by simpa using ha
      clear ha
      go_enter Tryz.func31, Tryz.ntmps31
      go_wp2
      go_ret
      exact ⟨ret_bool (by rw [← HE.out, ga]; rfl), al1 _ _⟩
  · have HE : Hid ((a == 114 && i == -1) = b) := hE
    clear hE
    by_cases ha : a = 114
    · subst ha
      go_enter Tryz.func31, Tryz.ntmps31
      go_wp2
      go_ret
      exact ⟨ret_bool (by rw [← HE.out]; rfl), al1 _ _⟩
    · have ga : (a == 114) = false := by simpa using ha
      clear ha
      go_enter Tryz.func31, Tryz.ntmps31
      go_wp2
      go_ret
      exact ⟨ret_bool (by rw [← HE.out, ga]; rfl), al1 _ _⟩
  · have HE : Hid ((a != 97 && (i == -1 && r != 15)) = b) := hE
    clear hE
    by_cases ha : a = 97
    · subst ha
      go_enter Tryz.func31, Tryz.ntmps31
      go_wp2
      go_ret
      exact ⟨ret_bool (by rw [← HE.out]; rfl), al1 _ _⟩
    · have ga : (a != 97) = true := by simpa using ha
      clear ha
      by_cases hi : i = -1
      · subst hi
        go_enter Tryz.func31, Tryz.ntmps31
        go_wp2
        go_ret
        exact ⟨ret_bool (by rw [← HE.out, ga]; rfl), al1 _ _⟩
      · have gi : (i == -1) = false := by simpa using hi
        clear hi
        go_enter Tryz.func31, Tryz.ntmps31
        go_wp2
        go_ret
        exact ⟨ret_bool (by rw [← HE.out, ga, gi]; rfl), al1 _ _⟩
  · have HE : Hid ((r != 15) = b) := hE
    clear hE
    go_enter Tryz.func31, Tryz.ntmps31
    go_wp2
    go_ret
    exact ⟨ret_bool HE.out, al1 _ _⟩
  · have HE : Hid ((r != 15) = b) := hE
    clear hE
    go_enter Tryz.func31, Tryz.ntmps31
    go_wp2
    go_ret
    exact ⟨ret_bool HE.out, al1 _ _⟩
  · have g1 : (k == 14) = false := by simpa using h1
    have g2 : (k == 0) = false := by simpa using h2
    have g3 : (k == 12) = false := by simpa using h3
    have g4 : (k == 5) = false := by simpa using h4
    have g5 : (k == 6) = false := by simpa using h5
    have g6 : (k == 7) = false := by simpa using h6
    have HE : Hid (b = true) := by
      show b = true
      rw [← hE]
      simp [Sp.can, cn, h1, h2, h3, h4, h5, h6]
    clear hE h1 h2 h3 h4 h5 h6
    go_enter Tryz.func31, Tryz.ntmps31
    go_wp2
    go_ret
    exact ⟨ret_bool HE.out.symm, al1 _ _⟩

end Go.Proofs.YtppkpfkoggnbmaaGreatDoor.Cs.Es
