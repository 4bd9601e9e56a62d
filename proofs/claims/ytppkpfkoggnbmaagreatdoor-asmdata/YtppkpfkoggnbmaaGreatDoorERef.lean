/- The document's own reckoning of layer 11: Good, none, with. -/
import Derived.Test.YtppkpfkoggnbmaaGreatDoorEBeh
namespace Go.Proofs.YtppkpfkoggnbmaaGreatDoor.Cs.Es
open Go.RowKit

/-- a number of so many bytes behind the first one -/
def wth (t : List Int) (k r : Int) (n : Nat) : Sp × Int := if t.length < n then (zs, 3) else (⟨k, r, -1, nb (t.take n), 1 + n⟩, 0)

set_option maxHeartbeats 400000 in
set_option maxRecDepth 100000 in
theorem rgood_any (a z : Int) (w : World) :
    Calls Tryz.prog 36 #[.agg #[.int .u8 a, .int .i64 z]] w fun e w' => e = .returned (.bool (gd a z)) ∧ Below w.heap.size w w' := by
  obtain ⟨b, hE⟩ : ∃ b, gd a z = b := ⟨_, rfl⟩
  rw [hE]
  by_cases hz : Sz z
  · have K := fun w => Lib.hid (size_any z hz w)
    have hz' : (z == 1 || (z == 2 || z == 4)) = true := by rcases hz with rfl | rfl | rfl <;> rfl
    unfold gd at hE
    rw [hz', Bool.true_and] at hE
    clear hz hz'
    have hc : a = 114 ∨ a = 119 ∨ a = 109 ∨ a = 97 ∨ a = 118 ∨ (a ≠ 114 ∧ a ≠ 119 ∧ a ≠ 109 ∧ a ≠ 97 ∧ a ≠ 118) := by omega
    rcases hc with rfl | rfl | rfl | rfl | rfl | ⟨h1, h2, h3, h4, h5⟩
    · obtain rfl : true = b := hE
      go_enter Tryz.func36, Tryz.ntmps36
      go_wp2_with (go_at_call 62; refine (K _).out.mono ?_; rintro e w' ⟨rfl, rfl⟩)
      go_ret
      exact ⟨rfl, al1 _ _⟩
    · obtain rfl : true = b := hE
      go_enter Tryz.func36, Tryz.ntmps36
      go_wp2_with (go_at_call 62; refine (K _).out.mono ?_; rintro e w' ⟨rfl, rfl⟩)
      go_ret
      exact ⟨rfl, al1 _ _⟩
    · obtain rfl : true = b := hE
      go_enter Tryz.func36, Tryz.ntmps36
      go_wp2_with (go_at_call 62; refine (K _).out.mono ?_; rintro e w' ⟨rfl, rfl⟩)
      go_ret
      exact ⟨rfl, al1 _ _⟩
    · obtain rfl : true = b := hE
      go_enter Tryz.func36, Tryz.ntmps36
      go_wp2_with (go_at_call 62; refine (K _).out.mono ?_; rintro e w' ⟨rfl, rfl⟩)
      go_ret
      exact ⟨rfl, al1 _ _⟩
    · obtain rfl : true = b := hE
      go_enter Tryz.func36, Tryz.ntmps36
      go_wp2_with (go_at_call 62; refine (K _).out.mono ?_; rintro e w' ⟨rfl, rfl⟩)
      go_ret
      exact ⟨rfl, al1 _ _⟩
    · have g1 : (a == 114) = false := by simpa using h1
      have g2 : (a == 119) = false := by simpa using h2
      have g3 : (a == 109) = false := by simpa using h3
      have g4 : (a == 97) = false := by simpa using h4
      have g5 : (a == 118) = false := by simpa using h5
      have HE : Hid ((a == 98) = b) := by
        show _ = _
        rw [← hE, g1, g2, g3, g4, g5]
        rfl
      clear hE h1 h2 h3 h4 h5
      go_enter Tryz.func36, Tryz.ntmps36
      go_wp2_with (go_at_call 62; refine (K _).out.mono ?_; rintro e w' ⟨rfl, rfl⟩)
      go_ret
      exact ⟨ret_bool HE.out, al1 _ _⟩
  · have K := fun w => Lib.hid (size_not z hz w)
    have HE : Hid (b = false) := by
      show b = false
      rw [← hE]
      unfold Sz at hz
      have h1 : z ≠ 1 := fun h => hz (.inl h)
      have h2 : z ≠ 2 := fun h => hz (.inr (.inl h))
      have h4 : z ≠ 4 := fun h => hz (.inr (.inr h))
      simp [gd, h1, h2, h4]
    clear hE hz
    go_enter Tryz.func36, Tryz.ntmps36
    go_wp2_with (go_at_call 62; refine (K _).out.mono ?_; rintro e w' ⟨rfl, rfl⟩)
    go_ret
    exact ⟨ret_bool HE.out.symm, al1 _ _⟩

set_option maxHeartbeats 400000 in
set_option maxRecDepth 100000 in
theorem rnone_any (n : Int) (w : World) :
    Calls Tryz.prog 39 #[.int .i64 n] w fun e w' => e = .returned (bd n).val ∧ Below w.heap.size w w' := by
  go_enter Tryz.func39, Tryz.ntmps39
  go_wp2
  exact bodyPost_ret (v := (bd n).val) (by simp [results, Tryz.results39, go_sem, bd]) rfl ⟨rfl, by go_grown⟩

set_option maxHeartbeats 400000 in
set_option maxRecDepth 100000 in
theorem rnumber_any (A : Option Addr) (n c : Nat) (ys : List Int) (w : World) (h4 : n ≤ 4) (h : By w A n c ys) :
    Calls Tryz.prog 65 #[.slice A n c] w fun e w' => e = .returned (.int .u32 (num ys)) ∧ w = w' := by
  have HY := Lib.hid h
  clear h
  go_enter Tryz.func65, Tryz.ntmps65
  go_wp2
  go_loop [3, 4] (fun x i => ∃ k : Nat, k ≤ n ∧ i = .int .i64 ((k : Int) - 1) ∧ x = .int .u32 (num (ys.drop k))) (fun _ i => (intOf i + 1).toNat)
  case atStart => exact ⟨n, Nat.le_refl _, rfl, by rw [List.drop_of_length_le (by rw [HY.out.len]; exact Nat.le_refl _)]; rfl⟩
  case round =>
    obtain ⟨k, hk, rfl, rfl⟩ := hrel
    by_cases h0 : 0 < k
    · obtain ⟨j, rfl⟩ : ∃ j, k = j + 1 := ⟨k - 1, by omega⟩
      have e1 : ((j + 1 : Nat) : Int) - 1 = j := by omega
      rw [e1]
      obtain ⟨ad, rfl, hcl⟩ := HY.out.at_ (j := j) (by omega)
      have hx := HY.out.byt.at_ j
      have HD := Lib.hid (num_drop ys j (by rw [HY.out.len]; omega))
      have hq : 0 ≤ num (ys.drop (j + 1)) ∧ num (ys.drop (j + 1)) < 16777216 := by
        have h1 := num_bound (HY.out.byt.drop (j + 1))
        have hl : (ys.drop (j + 1)).length ≤ 3 := by rw [List.length_drop, HY.out.len]; omega
        generalize (ys.drop (j + 1)).length = m at h1 hl
        have : m = 0 ∨ m = 1 ∨ m = 2 ∨ m = 3 := by omega
        rcases this with rfl | rfl | rfl | rfl <;> omega
      obtain ⟨q0, q1⟩ := hq
      obtain ⟨y0, y1⟩ := hx
      generalize num (ys.drop (j + 1)) = q at q0 q1 HD ⊢
      generalize ys.getD j 0 = y at y0 y1 hcl HD
      clear e1
      go_wp2
      go_round
      case rel => exact ⟨j, by omega, by go_num, by rw [HD.out]; first | rfl | exact congrArg _ (by omega)⟩
      case measure => simp [intOf]
    · obtain rfl : k = 0 := by omega
      go_wp2
      go_ret
      exact ⟨rfl, rfl⟩

set_option maxHeartbeats 800000 in
set_option maxRecDepth 100000 in
theorem rwith_any (A : Option Addr) (n c m : Nat) (k r x : Int) (t : List Int) (w : World) (hy : By w A n c (x :: t)) (hn : n ≤ 1000000) (hm : Sz m) :
    Calls Tryz.prog 37 #[.slice A n c, .int .i64 k, .int .i64 r, .int .i64 m] w fun e w' => e = .returned (.tuple #[(wth t k r m).1.val, .int .i64 (wth t k r m).2]) ∧ Below w.heap.size w w' := by
  have hl : n = t.length + 1 := by have := hy.len; simp at this; omega
  have hm1 : 1 ≤ m ∧ m ≤ 4 := by rcases hm with h | h | h <;> omega
  obtain ⟨m0, m4⟩ := hm1
  by_cases h : t.length < m
  · have HE : Hid (wth t k r m = (zs, 3)) := Lib.hid (by unfold wth; rw [if_pos h])
    have h1 : (n : Int) < 1 + (m : Int) := by omega
    generalize wth t k r m = d at *
    obtain rfl := HE.out
    clear h hl hy hm HE
    go_enter Tryz.func37, Tryz.ntmps37
    go_wp2
    exact bodyPost_ret (v := .tuple #[zs.val, .int .i64 3]) (by simp [results, Tryz.results37, go_sem, zs]) rfl ⟨rfl, by go_grown⟩
  · have h1 : ¬ (n : Int) < 1 + (m : Int) := by omega
    obtain ⟨ad, rfl⟩ := hy.some_ (by omega)
    have hR := run_part ad n c 1 m (by omega) hy.cap
    have hP : ∀ W, Below w.heap.size w W → By W (some (if c = 1 then ad else ad.add 1)) m (c - 1) (t.take m) := fun W hb =>
      ((hy.below hb (Nat.le_refl _)).drop (k := 1) (by omega)).take (by omega)
    have HP := Lib.hid hP
    have hb : Byt (t.take m) := hy.byt.tl.take m
    have hU : U (num (t.take m)) := by
      have h1 := num_bound hb
      rw [List.length_take, Nat.min_eq_left (by omega)] at h1
      have h4 : m = 1 ∨ m = 2 ∨ m = 4 := by rcases hm with h | h | h <;> omega
      rcases h4 with rfl | rfl | rfl <;> exact ⟨by omega, by omega⟩
    have HE : Hid (wth t k r m = (⟨k, r, -1, sg (num (t.take m)) m % 4294967296, 1 + m⟩, 0)) := by
      show wth t k r m = _
      unfold wth
      rw [if_neg h]
      unfold nb ex
      rw [List.length_take, Nat.min_eq_left (by omega)]
    have K1 := fun w => Lib.hid (rsigned_any (num (t.take m)) m hm hU w)
    have hs := sg_32 hm (num (t.take m))
    have K2 := fun w => Lib.hid (rbits_any (sg (num (t.take m)) m) 4 (.inr (.inr rfl)) (by omega) (by omega) w)
    rw [W4] at K2
    generalize t.take m = zz at *
    generalize some (if c = 1 then ad else ad.add 1) = A' at *
    generalize wth t k r m = d at *
    obtain rfl := HE.out
    simp only [Int.natCast_one] at hR
    generalize sg (num zz) m = q at *
    have KN : Hid (∀ W, Below w.heap.size w W → Calls Tryz.prog 65 #[.slice A' m (c - 1)] W fun e w' => e = .returned (.int .u32 (num zz)) ∧ W = w') := Lib.hid (fun W hW => rnumber_any _ _ _ zz W m4 (HP.out W hW))
    generalize num zz = v at *
    clear hP HP hl hy hm h HE hU hb hs
    go_enter Tryz.func37, Tryz.ntmps37
    go_wp2_with (first
      | (go_at_call 65; refine (KN.out _ (by go_grown)).mono ?_; rintro e w' ⟨rfl, rfl⟩)
      | (go_at_call 64; refine (K1 _).out.mono ?_; rintro e w' ⟨rfl, rfl⟩)
      | (go_at_call 63; refine (K2 _).out.mono ?_; rintro e w' ⟨rfl, rfl⟩))
    exact bodyPost_ret (v := .tuple #[(Sp.mk k r (-1) (q % 4294967296) (1 + m)).val, .int .i64 0]) (by simp [results, Tryz.results37, go_sem]) rfl ⟨rfl, by go_grown⟩

end Go.Proofs.YtppkpfkoggnbmaaGreatDoor.Cs.Es
