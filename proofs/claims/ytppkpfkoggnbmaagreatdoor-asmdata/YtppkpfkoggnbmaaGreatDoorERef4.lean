/- The document's own reckoning of layer 11: Decode, the other operands. -/
import Derived.Test.YtppkpfkoggnbmaaGreatDoorERef3
namespace Go.Proofs.YtppkpfkoggnbmaaGreatDoor.Cs.Es
open Go.RowKit
set_option linter.unusedVariables false

theorem hd_k {y z : Int} (h6 : 6 ≤ y / 16) (h143 : ¬ (y / 16 = 8 ∧ y % 16 = 15)) : (hd y z).k ≠ 14 ∧ (hd y z).k ≠ 0 ∧ (hd y z).k ≠ 5 ∧ (hd y z).k ≠ 12 := by
  unfold hd
  rw [if_neg (by omega), if_neg (by omega), if_neg h143]
  by_cases h9 : y / 16 = 9 ∧ y % 16 = 15
  · rw [if_pos h9]; simp
  · rw [if_neg h9]
    by_cases h10 : y / 16 < 10
    · rw [if_pos h10]; simp only; omega
    · rw [if_neg h10]; simp only; omega
theorem fin_ix {y z a i : Int} {u : List Int} (h6 : 6 ≤ y / 16) (h143 : ¬ (y / 16 = 8 ∧ y % 16 = 15)) :
    fin y u a z i 2 = (if (fin y u a z (-1) 1).2 = 0 then (⟨(fin y u a z (-1) 1).1.k, (fin y u a z (-1) 1).1.r, if (fin y u a z (-1) 1).1.k = 14 then (fin y u a z (-1) 1).1.i else i, (fin y u a z (-1) 1).1.x, (fin y u a z (-1) 1).1.n + 1⟩, 0) else fin y u a z (-1) 1) := by
  obtain ⟨k1, k2, k3, k4⟩ := hd_k (z := z) h6 h143
  unfold fin
  generalize hd y z = h at *
  obtain ⟨k, r, v, m⟩ := h
  simp only at k1 k2 k3 k4 ⊢
  have hc : cn k r i a = cn k r (-1) a := by unfold cn; simp [k2, k3, k4]
  rw [hc]
  by_cases h1 : cn k r (-1) a = true
  · simp only [if_pos h1]
    by_cases h2 : u.length < m
    · simp only [if_pos h2]; simp
    · simp only [if_neg h2, if_neg k1, if_true]
      congr 2
      omega
  · simp only [if_neg h1]
    simp [bd]
theorem fin_no {y z a i : Int} {u : List Int} (h : y / 16 ≤ 5 ∨ (y / 16 = 8 ∧ y % 16 = 15)) (hi : 0 ≤ i) : fin y u a z i 2 = (bd 2, 0) := by
  have hi1 : i ≠ -1 := by omega
  have hc : cn (hd y z).k (hd y z).r i a = false := by
    unfold hd
    by_cases h4 : y / 16 < 4
    · rw [if_pos h4]; simp [cn, hi1]
    · rw [if_neg h4]
      by_cases h4 : y / 16 = 4
      · rw [if_pos h4]; simp [cn]
      · rw [if_neg h4]
        rcases h with h | h
        · have h5 : y / 16 = 5 := by omega
          rw [h5]; simp [cn, hi1]
        · rw [if_pos h]; simp [cn, hi1]
  unfold fin
  rw [if_neg (by rw [hc]; simp)]

set_option maxHeartbeats 400000 in
set_option maxRecDepth 100000 in
theorem rdecode_arg (A : Option Addr) (n c : Nat) (a z : Int) (w : World) (hg : gd a z = false) :
    Calls Tryz.prog 18 #[.slice A n c, opv a z] w fun e w' => e = .returned (.tuple #[zs.val, .int .i64 1]) ∧ Below w.heap.size w w' := by
  have KI := fun w => Lib.hid (rgood_any a z w)
  rw [hg] at KI
  have HD := Lib.hid (Dv.new w a z)
  clear hg
  go_enter Tryz.func18, Tryz.ntmps18
  go_wp2_with (go_at_call 36; refine (KI _).out.mono ?_; rintro e w1 ⟨rfl, hb1⟩; have hD1 := HD.out.below hb1; have r0 := hD1.r0; have r1 := hD1.r1; have r2 := hD1.r2; have r3 := hD1.r3; have r4 := hD1.r4; have rf := hD1.rf; have HD1 := Lib.hid hD1; clear hD1 hb1)
  exact bodyPost_ret (v := .tuple #[zs.val, .int .i64 1]) (by simp [results, Tryz.results18, go_sem, zs, r0, r1, r2, r3, r4]) rfl ⟨rfl, HD1.out.fin _ _ _ _ _⟩

set_option maxHeartbeats 400000 in
set_option maxRecDepth 100000 in
theorem rdecode_nil (A : Option Addr) (c : Nat) (a z : Int) (w : World) (hg : gd a z = true) (h98 : a ≠ 98) :
    Calls Tryz.prog 18 #[.slice A 0 c, opv a z] w fun e w' => e = .returned (.tuple #[zs.val, .int .i64 3]) ∧ Below w.heap.size w w' := by
  have KI := fun w => Lib.hid (rgood_any a z w)
  rw [hg] at KI
  have HD := Lib.hid (Dv.new w a z)
  have g98 : (a == 98) = false := by simpa using h98
  clear hg h98
  go_enter Tryz.func18, Tryz.ntmps18
  go_wp2_with (go_at_call 36; refine (KI _).out.mono ?_; rintro e w1 ⟨rfl, hb1⟩; have hD1 := HD.out.below hb1; have o0 := hD1.o0; have r0 := hD1.r0; have r1 := hD1.r1; have r2 := hD1.r2; have r3 := hD1.r3; have r4 := hD1.r4; have rf := hD1.rf; have HD1 := Lib.hid hD1; clear hD1 hb1)
  exact bodyPost_ret (v := .tuple #[zs.val, .int .i64 3]) (by simp [results, Tryz.results18, go_sem, zs, r0, r1, r2, r3, r4]) rfl ⟨rfl, HD1.out.fin _ _ _ _ _⟩

set_option maxHeartbeats 800000 in
set_option maxRecDepth 100000 in
theorem rdecode_0 (A : Option Addr) (n c : Nat) (x : Int) (t : List Int) (a z : Int) (w : World) (hy : By w A n c (x :: t)) (hn : n ≤ 100000) (ha : 0 ≤ a ∧ a < 256) (hg : gd a z = true) (h98 : a ≠ 98) (hx : x / 16 ≠ 4) :
    Calls Tryz.prog 18 #[.slice A n c, opv a z] w fun e w' => e = .returned (.tuple #[(fin x t a z (-1) 1).1.val, .int .i64 (fin x t a z (-1) 1).2]) ∧ Below w.heap.size w w' := by
  have KI := fun w => Lib.hid (rgood_any a z w)
  rw [hg] at KI
  have hz := gd_sz hg
  have HD := Lib.hid (Dv.new w a z)
  have g98 : (a == 98) = false := by simpa using h98
  have gx : (x / 16 != 4) = true := by simpa using hx
  have KO : Hid (∀ W, Below w.heap.size w W → Calls Tryz.prog 38 #[.slice A n c, opv a z] W fun e w' => e = .returned (.tuple #[(fin x t a z (-1) 1).1.val, .int .i64 (fin x t a z (-1) 1).2]) ∧ Below W.heap.size W w') :=
    Lib.hid fun W hW => ronc_any A n c x t a z W (hy.below hW (Nat.le_refl _)) (by omega) ha hz
  have hl : (0 : Int) < (n : Int) := by have := hy.len; simp at this; omega
  have hl0 : ((n : Int) == 0) = false := by have : (n : Int) ≠ 0 := by omega
                                            simpa using this
  obtain ⟨ad, rfl, had, HX⟩ := hy.c0
  obtain ⟨x0, x1⟩ := hy.byt.hd
  generalize fin x t a z (-1) 1 = d at *
  obtain ⟨⟨d1, d2, d3, d4, d5⟩, d6⟩ := d
  clear hg h98 hx hy hz ha
  go_enter Tryz.func18, Tryz.ntmps18
  go_wp2_with (first
    | (go_at_call 36; refine (KI _).out.mono ?_; rintro e w1 ⟨rfl, hb1⟩; have hD1 := HD.out.below hb1; have o0 := hD1.o0; have o1 := hD1.o1; have hcx := HX.out _ hD1.bel; have HD1 := Lib.hid hD1; clear hD1 hb1)
    | (go_at_call 38; refine (KO.out _ HD1.out.bel).mono ?_; rintro e w2 ⟨rfl, hb2⟩; have hD2 := HD1.out.below hb2; have r0 := hD2.r0; have r1 := hD2.r1; have r2 := hD2.r2; have r3 := hD2.r3; have r4 := hD2.r4; have rf := hD2.rf; have HD2 := Lib.hid hD2; clear hD2 hb2))
  exact bodyPost_ret (v := .tuple #[(Sp.mk d1 d2 d3 d4 d5).val, .int .i64 d6]) (by simp [results, Tryz.results18, go_sem, r0, r1, r2, r3, r4]) rfl ⟨rfl, HD2.out.fin _ _ _ _ _⟩

set_option maxHeartbeats 800000 in
set_option maxRecDepth 100000 in
theorem rdecode_4f (A : Option Addr) (n c : Nat) (t : List Int) (a z : Int) (w : World) (hy : By w A n c (79 :: t)) (hn : n ≤ 100000) (hg : gd a z = true) (h98 : a ≠ 98) :
    Calls Tryz.prog 18 #[.slice A n c, opv a z] w fun e w' => e = .returned (.tuple #[(bd 1).val, .int .i64 0]) ∧ Below w.heap.size w w' := by
  have KI := fun w => Lib.hid (rgood_any a z w)
  rw [hg] at KI
  have HD := Lib.hid (Dv.new w a z)
  have g98 : (a == 98) = false := by simpa using h98
  have KN := fun w => Lib.hid (rnone_any 1 w)
  have hl : (0 : Int) < (n : Int) := by have := hy.len; simp at this; omega
  have hl0 : ((n : Int) == 0) = false := by have : (n : Int) ≠ 0 := by omega
                                            simpa using this
  obtain ⟨ad, rfl, had, HX⟩ := hy.c0
  clear hg h98 hy
  go_enter Tryz.func18, Tryz.ntmps18
  go_wp2_with (first
    | (go_at_call 36; refine (KI _).out.mono ?_; rintro e w1 ⟨rfl, hb1⟩; have hD1 := HD.out.below hb1; have o0 := hD1.o0; have o1 := hD1.o1; have hcx := HX.out _ hD1.bel; have HD1 := Lib.hid hD1; clear hD1 hb1)
    | (go_at_call 39; refine (KN _).out.mono ?_; rintro e w2 ⟨rfl, hb2⟩; have hD2 := HD1.out.below hb2; have r0 := hD2.r0; have r1 := hD2.r1; have r2 := hD2.r2; have r3 := hD2.r3; have r4 := hD2.r4; have rf := hD2.rf; have HD2 := Lib.hid hD2; clear hD2 hb2))
  exact bodyPost_ret (v := .tuple #[(bd 1).val, .int .i64 0]) (by simp [results, Tryz.results18, go_sem, bd, r0, r1, r2, r3, r4]) rfl ⟨rfl, HD2.out.fin _ _ _ _ _⟩

set_option maxHeartbeats 800000 in
set_option maxRecDepth 100000 in
theorem rdecode_short (A : Option Addr) (c : Nat) (x : Int) (a z : Int) (w : World) (hy : By w A 1 c [x]) (hg : gd a z = true) (h98 : a ≠ 98) (hx : x / 16 = 4) (h79 : x ≠ 79) :
    Calls Tryz.prog 18 #[.slice A 1 c, opv a z] w fun e w' => e = .returned (.tuple #[zs.val, .int .i64 3]) ∧ Below w.heap.size w w' := by
  have KI := fun w => Lib.hid (rgood_any a z w)
  rw [hg] at KI
  have HD := Lib.hid (Dv.new w a z)
  have g98 : (a == 98) = false := by simpa using h98
  have g79 : (x == 79) = false := by simpa using h79
  obtain ⟨ad, rfl, had, HX⟩ := hy.c0
  obtain ⟨x0, x1⟩ := hy.byt.hd
  clear hg h98 hy h79
  go_enter Tryz.func18, Tryz.ntmps18
  go_wp2_with (go_at_call 36; refine (KI _).out.mono ?_; rintro e w1 ⟨rfl, hb1⟩; have hD1 := HD.out.below hb1; have o0 := hD1.o0; have o1 := hD1.o1; have hcx := HX.out _ hD1.bel; have r0 := hD1.r0; have r1 := hD1.r1; have r2 := hD1.r2; have r3 := hD1.r3; have r4 := hD1.r4; have rf := hD1.rf; have HD1 := Lib.hid hD1; clear hD1 hb1)
  exact bodyPost_ret (v := .tuple #[zs.val, .int .i64 3]) (by simp [results, Tryz.results18, go_sem, zs, r0, r1, r2, r3, r4]) rfl ⟨rfl, HD1.out.fin _ _ _ _ _⟩

set_option maxHeartbeats 1600000 in
set_option maxRecDepth 100000 in
theorem rdecode_no (A : Option Addr) (n c : Nat) (x y : Int) (u : List Int) (a z : Int) (w : World) (hy : By w A n c (x :: y :: u)) (hn : n ≤ 100000) (hg : gd a z = true) (h98 : a ≠ 98) (hx : x / 16 = 4) (h79 : x ≠ 79) (hyy : y / 16 ≤ 5 ∨ (y / 16 = 8 ∧ y % 16 = 15)) :
    Calls Tryz.prog 18 #[.slice A n c, opv a z] w fun e w' => e = .returned (.tuple #[(bd 2).val, .int .i64 0]) ∧ Below w.heap.size w w' := by
  have KI := fun w => Lib.hid (rgood_any a z w)
  rw [hg] at KI
  have HD := Lib.hid (Dv.new w a z)
  have g98 : (a == 98) = false := by simpa using h98
  have g79 : (x == 79) = false := by simpa using h79
  have KN := fun w => Lib.hid (rnone_any 2 w)
  have hl : (1 : Int) < (n : Int) := by have := hy.len; simp at this; omega
  have hl0 : ((n : Int) == 0) = false := by have : (n : Int) ≠ 0 := by omega
                                            simpa using this
  have hl1 : ((n : Int) == 1) = false := by have : (n : Int) ≠ 1 := by omega
                                            simpa using this
  obtain ⟨ad, rfl, had, HX⟩ := hy.c0
  have HY := hy.c1
  obtain ⟨x0, x1⟩ := hy.byt.hd
  obtain ⟨y0, y1⟩ := hy.byt.tl.hd
  clear hg h98 hy h79
  have hyc : y / 16 ≤ 5 ∨ (¬ y / 16 ≤ 5 ∧ y = 143) := by omega
  clear hyy
  rcases hyc with h5 | ⟨h5, rfl⟩
  all_goals
    go_enter Tryz.func18, Tryz.ntmps18
    go_wp2_with (first
      | (go_at_call 36; refine (KI _).out.mono ?_; rintro e w1 ⟨rfl, hb1⟩; have hD1 := HD.out.below hb1; have o0 := hD1.o0; have o1 := hD1.o1; have hcx := HX.out _ hD1.bel; have hcy := HY.out _ hD1.bel; have HD1 := Lib.hid hD1; clear hD1 hb1)
      | (go_at_call 39; refine (KN _).out.mono ?_; rintro e w2 ⟨rfl, hb2⟩; have hD2 := HD1.out.below hb2; have r0 := hD2.r0; have r1 := hD2.r1; have r2 := hD2.r2; have r3 := hD2.r3; have r4 := hD2.r4; have rf := hD2.rf; have HD2 := Lib.hid hD2; clear hD2 hb2))
    exact bodyPost_ret (v := .tuple #[(bd 2).val, .int .i64 0]) (by simp [results, Tryz.results18, go_sem, bd, r0, r1, r2, r3, r4]) rfl ⟨rfl, HD2.out.fin _ _ _ _ _⟩

end Go.Proofs.YtppkpfkoggnbmaaGreatDoor.Cs.Es
