/- The document's own reckoning of layer 11: one. -/
import Derived.Test.YtppkpfkoggnbmaaGreatDoorERef
import Derived.Test.YtppkpfkoggnbmaaGreatDoorEDec
namespace Go.Proofs.YtppkpfkoggnbmaaGreatDoor.Cs.Es
open Go.RowKit
set_option linter.unusedVariables false

theorem fin_w {x a z k r v : Int} {m : Nat} {t : List Int} (h : hd x z = ⟨k, r, v, m⟩) (hc : cn k r (-1) a = true) (hm : 0 < m) : fin x t a z (-1) 1 = wth t k r m := by
  have hm' : ¬ m = 0 := by omega
  unfold fin wth
  rw [h]
  simp only [hc, if_true, if_neg hm']
theorem fin_n {x a z k r v : Int} {m : Nat} {t : List Int} (h : hd x z = ⟨k, r, v, m⟩) (hc : cn k r (-1) a = false) : fin x t a z (-1) 1 = (bd 1, 0) := by
  unfold fin
  rw [h]
  simp [hc]
theorem fin_v {x a z k r v : Int} {t : List Int} (h : hd x z = ⟨k, r, v, 0⟩) (hc : cn k r (-1) a = true) : fin x t a z (-1) 1 = (⟨k, r, -1, v, 1⟩, 0) := by
  unfold fin
  rw [h]
  simp [hc]

set_option maxHeartbeats 800000 in
set_option maxRecDepth 100000 in
theorem ronc_lit (A : Option Addr) (n c : Nat) (x : Int) (t : List Int) (a z : Int) (w : World) (hy : By w A n c (x :: t)) (hn : n ≤ 1000000) (ha : 0 ≤ a ∧ a < 256) (hz : Sz z) (hm : x / 16 < 4) :
    Calls Tryz.prog 38 #[.slice A n c, opv a z] w fun e w' => e = .returned (.tuple #[(fin x t a z (-1) 1).1.val, .int .i64 (fin x t a z (-1) 1).2]) ∧ Below w.heap.size w w' := by
  have h : hd x z = ⟨0, 0, x % 64, 0⟩ := by unfold hd; rw [if_pos hm]
  have hl : (0 : Int) < (n : Int) := by have := hy.len; simp at this; omega
  have HD := Lib.hid (Dv.new w a z)
  obtain ⟨ad, rfl, had, HX⟩ := hy.c0
  have hcx := HX.out _ (Dv.new w a z).bel
  obtain ⟨x0, x1⟩ := hy.byt.hd
  by_cases h114 : a = 114
  · subst h114
    rw [fin_v h (by rfl)]
    clear h hy hz ha
    go_enter Tryz.func38, Tryz.ntmps38
    go_wp2
    exact bodyPost_ret (v := .tuple #[(Sp.mk 0 0 (-1) (x % 64) 1).val, .int .i64 0]) (by simp [results, Tryz.results38, go_sem]) rfl ⟨rfl, by go_grown⟩
  · have g : (a != 114) = true := by simpa using h114
    have hc : cn 0 0 (-1) a = false := by simp [cn, h114]
    rw [fin_n h hc]
    clear h hc hy hz ha h114
    go_enter Tryz.func38, Tryz.ntmps38
    go_wp2_with (go_at_call 39; refine (rnone_any 1 _).mono ?_; rintro e w1 ⟨rfl, hb1⟩; have hD1 := HD.out.below hb1; have r0 := hD1.r0; have r1 := hD1.r1; have r2 := hD1.r2; have r3 := hD1.r3; have r4 := hD1.r4; have rf := hD1.rf; have HD1 := Lib.hid hD1; clear hD1 hb1)
    exact bodyPost_ret (v := .tuple #[(bd 1).val, .int .i64 0]) (by simp [results, Tryz.results38, go_sem, bd, r0, r1, r2, r3, r4]) rfl ⟨rfl, HD1.out.fin _ _ _ _ _⟩

set_option maxHeartbeats 800000 in
set_option maxRecDepth 100000 in
theorem ronc_four (A : Option Addr) (n c : Nat) (x : Int) (t : List Int) (a z : Int) (w : World) (hy : By w A n c (x :: t)) (hn : n ≤ 1000000) (ha : 0 ≤ a ∧ a < 256) (hz : Sz z) (hm : x / 16 = 4) :
    Calls Tryz.prog 38 #[.slice A n c, opv a z] w fun e w' => e = .returned (.tuple #[(fin x t a z (-1) 1).1.val, .int .i64 (fin x t a z (-1) 1).2]) ∧ Below w.heap.size w w' := by
  have h : hd x z = ⟨14, 0, 0, 0⟩ := by unfold hd; rw [hm]; rfl
  have hl : (0 : Int) < (n : Int) := by have := hy.len; simp at this; omega
  have HD := Lib.hid (Dv.new w a z)
  obtain ⟨ad, rfl, had, HX⟩ := hy.c0
  have hcx := HX.out _ (Dv.new w a z).bel
  obtain ⟨x0, x1⟩ := hy.byt.hd
  obtain ⟨r, hr⟩ : ∃ r, x % 16 = r := ⟨_, rfl⟩
  rw [fin_n h (by rfl)]
  clear h hy hz ha
  by_cases h15 : r = 15
  · subst h15
    go_enter Tryz.func38, Tryz.ntmps38
    go_wp2_with (go_at_call 39; refine (rnone_any 1 _).mono ?_; rintro e w1 ⟨rfl, hb1⟩; have hD1 := HD.out.below hb1; have r0 := hD1.r0; have r1 := hD1.r1; have r2 := hD1.r2; have r3 := hD1.r3; have r4 := hD1.r4; have rf := hD1.rf; have HD1 := Lib.hid hD1; clear hD1 hb1)
    exact bodyPost_ret (v := .tuple #[(bd 1).val, .int .i64 0]) (by simp [results, Tryz.results38, go_sem, bd, r0, r1, r2, r3, r4]) rfl ⟨rfl, HD1.out.fin _ _ _ _ _⟩
  · have g15 : (r == 15) = false := by simpa using h15
    clear h15
    go_enter Tryz.func38, Tryz.ntmps38
    go_wp2_with (go_at_call 39; refine (rnone_any 1 _).mono ?_; rintro e w1 ⟨rfl, hb1⟩; have hD1 := HD.out.below hb1; have r0 := hD1.r0; have r1 := hD1.r1; have r2 := hD1.r2; have r3 := hD1.r3; have r4 := hD1.r4; have rf := hD1.rf; have HD1 := Lib.hid hD1; clear hD1 hb1)
    exact bodyPost_ret (v := .tuple #[(bd 1).val, .int .i64 0]) (by simp [results, Tryz.results38, go_sem, bd, r0, r1, r2, r3, r4]) rfl ⟨rfl, HD1.out.fin _ _ _ _ _⟩

set_option maxHeartbeats 800000 in
set_option maxRecDepth 100000 in
theorem ronc_m5 (A : Option Addr) (n c : Nat) (x : Int) (t : List Int) (a z : Int) (w : World) (hy : By w A n c (x :: t)) (hn : n ≤ 1000000) (ha : 0 ≤ a ∧ a < 256) (hz : Sz z) (hm : x / 16 = 5) :
    Calls Tryz.prog 38 #[.slice A n c, opv a z] w fun e w' => e = .returned (.tuple #[(fin x t a z (-1) 1).1.val, .int .i64 (fin x t a z (-1) 1).2]) ∧ Below w.heap.size w w' := by
  obtain ⟨r, hr⟩ : ∃ r, x % 16 = r := ⟨_, rfl⟩
  have h : hd x z = ⟨5, r, 0, 0⟩ := by unfold hd; rw [hm, hr]; rfl
  have hl : (0 : Int) < (n : Int) := by have := hy.len; simp at this; omega
  have HD := Lib.hid (Dv.new w a z)
  obtain ⟨ad, rfl, had, HX⟩ := hy.c0
  have hcx := HX.out _ (Dv.new w a z).bel
  obtain ⟨x0, x1⟩ := hy.byt.hd
  by_cases h15 : r = 15
  · subst h15
    have hc : cn 5 15 (-1) a = false := by simp [cn]
    rw [fin_n h hc]
    clear h hc hy hz ha
    go_enter Tryz.func38, Tryz.ntmps38
    go_wp2_with (go_at_call 39; refine (rnone_any 1 _).mono ?_; rintro e w1 ⟨rfl, hb1⟩; have hD1 := HD.out.below hb1; have r0 := hD1.r0; have r1 := hD1.r1; have r2 := hD1.r2; have r3 := hD1.r3; have r4 := hD1.r4; have rf := hD1.rf; have HD1 := Lib.hid hD1; clear hD1 hb1)
    exact bodyPost_ret (v := .tuple #[(bd 1).val, .int .i64 0]) (by simp [results, Tryz.results38, go_sem, bd, r0, r1, r2, r3, r4]) rfl ⟨rfl, HD1.out.fin _ _ _ _ _⟩
  · have g15 : (r == 15) = false := by simpa using h15
    by_cases h97 : a = 97
    · subst h97
      have hc : cn 5 r (-1) 97 = false := by simp [cn]
      rw [fin_n h hc]
      clear h hc hy hz ha h15
      go_enter Tryz.func38, Tryz.ntmps38
      go_wp2_with (go_at_call 39; refine (rnone_any 1 _).mono ?_; rintro e w1 ⟨rfl, hb1⟩; have hD1 := HD.out.below hb1; have r0 := hD1.r0; have r1 := hD1.r1; have r2 := hD1.r2; have r3 := hD1.r3; have r4 := hD1.r4; have rf := hD1.rf; have HD1 := Lib.hid hD1; clear hD1 hb1)
      exact bodyPost_ret (v := .tuple #[(bd 1).val, .int .i64 0]) (by simp [results, Tryz.results38, go_sem, bd, r0, r1, r2, r3, r4]) rfl ⟨rfl, HD1.out.fin _ _ _ _ _⟩
    · have g97 : (a == 97) = false := by simpa using h97
      have hc : cn 5 r (-1) a = true := by simp [cn, h15, h97]
      rw [fin_v h hc]
      clear h hc hy hz ha h15 h97
      go_enter Tryz.func38, Tryz.ntmps38
      go_wp2
      exact bodyPost_ret (v := .tuple #[(Sp.mk 5 r (-1) 0 1).val, .int .i64 0]) (by simp [results, Tryz.results38, go_sem]) rfl ⟨rfl, by go_grown⟩

set_option maxHeartbeats 800000 in
set_option maxRecDepth 100000 in
theorem ronc_m6 (A : Option Addr) (n c : Nat) (x : Int) (t : List Int) (a z : Int) (w : World) (hy : By w A n c (x :: t)) (hn : n ≤ 1000000) (ha : 0 ≤ a ∧ a < 256) (hz : Sz z) (hm : x / 16 = 6) :
    Calls Tryz.prog 38 #[.slice A n c, opv a z] w fun e w' => e = .returned (.tuple #[(fin x t a z (-1) 1).1.val, .int .i64 (fin x t a z (-1) 1).2]) ∧ Below w.heap.size w w' := by
  obtain ⟨r, hr⟩ : ∃ r, x % 16 = r := ⟨_, rfl⟩
  have h : hd x z = ⟨6, r, 0, 0⟩ := by unfold hd; rw [hm, hr]; rfl
  have hl : (0 : Int) < (n : Int) := by have := hy.len; simp at this; omega
  have HD := Lib.hid (Dv.new w a z)
  obtain ⟨ad, rfl, had, HX⟩ := hy.c0
  have hcx := HX.out _ (Dv.new w a z).bel
  obtain ⟨x0, x1⟩ := hy.byt.hd
  by_cases h15 : r = 15
  · subst h15
    have hc : cn 6 15 (-1) a = false := by simp [cn]
    rw [fin_n h hc]
    clear h hc hy hz ha
    go_enter Tryz.func38, Tryz.ntmps38
    go_wp2_with (go_at_call 39; refine (rnone_any 1 _).mono ?_; rintro e w1 ⟨rfl, hb1⟩; have hD1 := HD.out.below hb1; have r0 := hD1.r0; have r1 := hD1.r1; have r2 := hD1.r2; have r3 := hD1.r3; have r4 := hD1.r4; have rf := hD1.rf; have HD1 := Lib.hid hD1; clear hD1 hb1)
    exact bodyPost_ret (v := .tuple #[(bd 1).val, .int .i64 0]) (by simp [results, Tryz.results38, go_sem, bd, r0, r1, r2, r3, r4]) rfl ⟨rfl, HD1.out.fin _ _ _ _ _⟩
  · have g15 : (r == 15) = false := by simpa using h15
    have hc : cn 6 r (-1) a = true := by simp [cn, h15]
    rw [fin_v h hc]
    clear h hc hy hz ha h15
    go_enter Tryz.func38, Tryz.ntmps38
    go_wp2
    exact bodyPost_ret (v := .tuple #[(Sp.mk 6 r (-1) 0 1).val, .int .i64 0]) (by simp [results, Tryz.results38, go_sem]) rfl ⟨rfl, by go_grown⟩

set_option maxHeartbeats 800000 in
set_option maxRecDepth 100000 in
theorem ronc_m7 (A : Option Addr) (n c : Nat) (x : Int) (t : List Int) (a z : Int) (w : World) (hy : By w A n c (x :: t)) (hn : n ≤ 1000000) (ha : 0 ≤ a ∧ a < 256) (hz : Sz z) (hm : x / 16 = 7) :
    Calls Tryz.prog 38 #[.slice A n c, opv a z] w fun e w' => e = .returned (.tuple #[(fin x t a z (-1) 1).1.val, .int .i64 (fin x t a z (-1) 1).2]) ∧ Below w.heap.size w w' := by
  obtain ⟨r, hr⟩ : ∃ r, x % 16 = r := ⟨_, rfl⟩
  have h : hd x z = ⟨7, r, 0, 0⟩ := by unfold hd; rw [hm, hr]; rfl
  have hl : (0 : Int) < (n : Int) := by have := hy.len; simp at this; omega
  have HD := Lib.hid (Dv.new w a z)
  obtain ⟨ad, rfl, had, HX⟩ := hy.c0
  have hcx := HX.out _ (Dv.new w a z).bel
  obtain ⟨x0, x1⟩ := hy.byt.hd
  by_cases h15 : r = 15
  · subst h15
    have hc : cn 7 15 (-1) a = false := by simp [cn]
    rw [fin_n h hc]
    clear h hc hy hz ha
    go_enter Tryz.func38, Tryz.ntmps38
    go_wp2_with (go_at_call 39; refine (rnone_any 1 _).mono ?_; rintro e w1 ⟨rfl, hb1⟩; have hD1 := HD.out.below hb1; have r0 := hD1.r0; have r1 := hD1.r1; have r2 := hD1.r2; have r3 := hD1.r3; have r4 := hD1.r4; have rf := hD1.rf; have HD1 := Lib.hid hD1; clear hD1 hb1)
    exact bodyPost_ret (v := .tuple #[(bd 1).val, .int .i64 0]) (by simp [results, Tryz.results38, go_sem, bd, r0, r1, r2, r3, r4]) rfl ⟨rfl, HD1.out.fin _ _ _ _ _⟩
  · have g15 : (r == 15) = false := by simpa using h15
    have hc : cn 7 r (-1) a = true := by simp [cn, h15]
    rw [fin_v h hc]
    clear h hc hy hz ha h15
    go_enter Tryz.func38, Tryz.ntmps38
    go_wp2
    exact bodyPost_ret (v := .tuple #[(Sp.mk 7 r (-1) 0 1).val, .int .i64 0]) (by simp [results, Tryz.results38, go_sem]) rfl ⟨rfl, by go_grown⟩

set_option maxHeartbeats 800000 in
set_option maxRecDepth 100000 in
theorem ronc_m8 (A : Option Addr) (n c : Nat) (x : Int) (t : List Int) (a z : Int) (w : World) (hy : By w A n c (x :: t)) (hn : n ≤ 1000000) (ha : 0 ≤ a ∧ a < 256) (hz : Sz z) (hm : x / 16 = 8) :
    Calls Tryz.prog 38 #[.slice A n c, opv a z] w fun e w' => e = .returned (.tuple #[(fin x t a z (-1) 1).1.val, .int .i64 (fin x t a z (-1) 1).2]) ∧ Below w.heap.size w w' := by
  obtain ⟨r, hr⟩ : ∃ r, x % 16 = r := ⟨_, rfl⟩
  have hl : (0 : Int) < (n : Int) := by have := hy.len; simp at this; omega
  have HD := Lib.hid (Dv.new w a z)
  obtain ⟨ad, rfl, had, HX⟩ := hy.c0
  have hcx := HX.out _ (Dv.new w a z).bel
  obtain ⟨x0, x1⟩ := hy.byt.hd
  by_cases h15 : r = 15
  · subst h15
    have h : hd x z = ⟨12, 0, 0, z.toNat⟩ := by unfold hd; rw [hm, hr]; rfl
    by_cases h114 : a = 114
    · subst h114
      have hz0 : 0 < z.toNat ∧ ((z.toNat : Nat) : Int) = z := by rcases hz with rfl | rfl | rfl <;> simp
      rw [fin_w h (by rfl) hz0.1]
      have KW : Hid (∀ W, Below w.heap.size w W → Calls Tryz.prog 37 #[.slice (some ad) n c, .int .i64 12, .int .i64 0, .int .i64 z] W fun e w' => e = .returned (.tuple #[(wth t 12 0 z.toNat).1.val, .int .i64 (wth t 12 0 z.toNat).2]) ∧ Below W.heap.size W w') := by
        show ∀ W, _ → Calls _ _ _ _ _
        intro W hW
        exact by
          have := rwith_any (some ad) n c z.toNat 12 0 x t W (hy.below hW (Nat.le_refl _)) hn (by rw [hz0.2]; exact hz)
          rw [hz0.2] at this
          exact this
      generalize wth t 12 0 z.toNat = d at *
      obtain ⟨⟨d1, d2, d3, d4, d5⟩, d6⟩ := d
      clear h hy hz ha hz0
      go_enter Tryz.func38, Tryz.ntmps38
      go_wp2_with (go_at_call 37; refine (KW.out _ HD.out.bel).mono ?_; rintro e w1 ⟨rfl, hb1⟩; have hD1 := HD.out.below hb1; have r0 := hD1.r0; have r1 := hD1.r1; have r2 := hD1.r2; have r3 := hD1.r3; have r4 := hD1.r4; have rf := hD1.rf; have HD1 := Lib.hid hD1; clear hD1 hb1)
      exact bodyPost_ret (v := .tuple #[(Sp.mk d1 d2 d3 d4 d5).val, .int .i64 d6]) (by simp [results, Tryz.results38, go_sem, r0, r1, r2, r3, r4]) rfl ⟨rfl, HD1.out.fin _ _ _ _ _⟩
    · have g : (a != 114) = true := by simpa using h114
      have hc : cn 12 0 (-1) a = false := by simp [cn, h114]
      rw [fin_n h hc]
      clear h hc hy hz ha h114
      go_enter Tryz.func38, Tryz.ntmps38
      go_wp2_with (go_at_call 39; refine (rnone_any 1 _).mono ?_; rintro e w1 ⟨rfl, hb1⟩; have hD1 := HD.out.below hb1; have r0 := hD1.r0; have r1 := hD1.r1; have r2 := hD1.r2; have r3 := hD1.r3; have r4 := hD1.r4; have rf := hD1.rf; have HD1 := Lib.hid hD1; clear hD1 hb1)
      exact bodyPost_ret (v := .tuple #[(bd 1).val, .int .i64 0]) (by simp [results, Tryz.results38, go_sem, bd, r0, r1, r2, r3, r4]) rfl ⟨rfl, HD1.out.fin _ _ _ _ _⟩
  · have g15 : (r == 15) = false := by simpa using h15
    have h : hd x z = ⟨8, r, 0, 0⟩ := by unfold hd; rw [hm, hr]; simp [h15]
    have hc : cn 8 r (-1) a = true := by simp [cn]
    rw [fin_v h hc]
    clear h hc hy hz ha h15
    go_enter Tryz.func38, Tryz.ntmps38
    go_wp2
    exact bodyPost_ret (v := .tuple #[(Sp.mk 8 r (-1) 0 1).val, .int .i64 0]) (by simp [results, Tryz.results38, go_sem]) rfl ⟨rfl, by go_grown⟩

set_option maxHeartbeats 800000 in
set_option maxRecDepth 100000 in
theorem ronc_m9 (A : Option Addr) (n c : Nat) (x : Int) (t : List Int) (a z : Int) (w : World) (hy : By w A n c (x :: t)) (hn : n ≤ 1000000) (ha : 0 ≤ a ∧ a < 256) (hz : Sz z) (hm : x / 16 = 9) :
    Calls Tryz.prog 38 #[.slice A n c, opv a z] w fun e w' => e = .returned (.tuple #[(fin x t a z (-1) 1).1.val, .int .i64 (fin x t a z (-1) 1).2]) ∧ Below w.heap.size w w' := by
  obtain ⟨r, hr⟩ : ∃ r, x % 16 = r := ⟨_, rfl⟩
  have hl : (0 : Int) < (n : Int) := by have := hy.len; simp at this; omega
  have HD := Lib.hid (Dv.new w a z)
  obtain ⟨ad, rfl, had, HX⟩ := hy.c0
  have hcx := HX.out _ (Dv.new w a z).bel
  obtain ⟨x0, x1⟩ := hy.byt.hd
  by_cases h15 : r = 15
  · subst h15
    have h : hd x z = ⟨13, 0, 0, 4⟩ := by unfold hd; rw [hm, hr]; rfl
    have hc : cn 13 0 (-1) a = true := by simp [cn]
    rw [fin_w h hc (by omega)]
    have KW : Hid (∀ W, Below w.heap.size w W → Calls Tryz.prog 37 #[.slice (some ad) n c, .int .i64 13, .int .i64 0, .int .i64 4] W fun e w' => e = .returned (.tuple #[(wth t 13 0 4).1.val, .int .i64 (wth t 13 0 4).2]) ∧ Below W.heap.size W w') := by
      show ∀ W, _ → Calls _ _ _ _ _
      intro W hW
      exact rwith_any (some ad) n c 4 13 0 x t W (hy.below hW (Nat.le_refl _)) hn (.inr (.inr rfl))
    generalize wth t 13 0 4 = d at *
    obtain ⟨⟨d1, d2, d3, d4, d5⟩, d6⟩ := d
    clear h hc hy hz ha
    go_enter Tryz.func38, Tryz.ntmps38
    go_wp2_with (go_at_call 37; refine (KW.out _ HD.out.bel).mono ?_; rintro e w1 ⟨rfl, hb1⟩; have hD1 := HD.out.below hb1; have r0 := hD1.r0; have r1 := hD1.r1; have r2 := hD1.r2; have r3 := hD1.r3; have r4 := hD1.r4; have rf := hD1.rf; have HD1 := Lib.hid hD1; clear hD1 hb1)
    exact bodyPost_ret (v := .tuple #[(Sp.mk d1 d2 d3 d4 d5).val, .int .i64 d6]) (by simp [results, Tryz.results38, go_sem, r0, r1, r2, r3, r4]) rfl ⟨rfl, HD1.out.fin _ _ _ _ _⟩
  · have g15 : (r == 15) = false := by simpa using h15
    have h : hd x z = ⟨9, r, 0, 0⟩ := by unfold hd; rw [hm, hr]; simp [h15]
    have hc : cn 9 r (-1) a = true := by simp [cn]
    rw [fin_v h hc]
    clear h hc hy hz ha h15
    go_enter Tryz.func38, Tryz.ntmps38
    go_wp2
    exact bodyPost_ret (v := .tuple #[(Sp.mk 9 r (-1) 0 1).val, .int .i64 0]) (by simp [results, Tryz.results38, go_sem]) rfl ⟨rfl, by go_grown⟩

set_option maxHeartbeats 800000 in
set_option maxRecDepth 100000 in
theorem ronc_m10 (A : Option Addr) (n c : Nat) (x : Int) (t : List Int) (a z : Int) (w : World) (hy : By w A n c (x :: t)) (hn : n ≤ 1000000) (ha : 0 ≤ a ∧ a < 256) (hz : Sz z) (hm : x / 16 = 10) :
    Calls Tryz.prog 38 #[.slice A n c, opv a z] w fun e w' => e = .returned (.tuple #[(fin x t a z (-1) 1).1.val, .int .i64 (fin x t a z (-1) 1).2]) ∧ Below w.heap.size w w' := by
  obtain ⟨r, hr⟩ : ∃ r, x % 16 = r := ⟨_, rfl⟩
  have h : hd x z = ⟨10, r, 0, 1⟩ := by unfold hd; rw [hm, hr]; rfl
  have hc : cn 10 r (-1) a = true := by simp [cn]
  have hl : (0 : Int) < (n : Int) := by have := hy.len; simp at this; omega
  have HD := Lib.hid (Dv.new w a z)
  obtain ⟨ad, rfl, had, HX⟩ := hy.c0
  have hcx := HX.out _ (Dv.new w a z).bel
  obtain ⟨x0, x1⟩ := hy.byt.hd
  rw [fin_w h hc (by omega)]
  have KW : Hid (∀ W, Below w.heap.size w W → Calls Tryz.prog 37 #[.slice (some ad) n c, .int .i64 10, .int .i64 r, .int .i64 1] W fun e w' => e = .returned (.tuple #[(wth t 10 r 1).1.val, .int .i64 (wth t 10 r 1).2]) ∧ Below W.heap.size W w') := by
    show ∀ W, _ → Calls _ _ _ _ _
    intro W hW
    exact rwith_any (some ad) n c 1 10 r x t W (hy.below hW (Nat.le_refl _)) hn (by unfold Sz; omega)
  generalize wth t 10 r 1 = d at *
  obtain ⟨⟨d1, d2, d3, d4, d5⟩, d6⟩ := d
  clear h hc hy hz ha
  go_enter Tryz.func38, Tryz.ntmps38
  go_wp2_with (go_at_call 37; refine (KW.out _ HD.out.bel).mono ?_; rintro e w1 ⟨rfl, hb1⟩; have hD1 := HD.out.below hb1; have r0 := hD1.r0; have r1 := hD1.r1; have r2 := hD1.r2; have r3 := hD1.r3; have r4 := hD1.r4; have rf := hD1.rf; have HD1 := Lib.hid hD1; clear hD1 hb1)
  exact bodyPost_ret (v := .tuple #[(Sp.mk d1 d2 d3 d4 d5).val, .int .i64 d6]) (by simp [results, Tryz.results38, go_sem, r0, r1, r2, r3, r4]) rfl ⟨rfl, HD1.out.fin _ _ _ _ _⟩

set_option maxHeartbeats 800000 in
set_option maxRecDepth 100000 in
theorem ronc_m11 (A : Option Addr) (n c : Nat) (x : Int) (t : List Int) (a z : Int) (w : World) (hy : By w A n c (x :: t)) (hn : n ≤ 1000000) (ha : 0 ≤ a ∧ a < 256) (hz : Sz z) (hm : x / 16 = 11) :
    Calls Tryz.prog 38 #[.slice A n c, opv a z] w fun e w' => e = .returned (.tuple #[(fin x t a z (-1) 1).1.val, .int .i64 (fin x t a z (-1) 1).2]) ∧ Below w.heap.size w w' := by
  obtain ⟨r, hr⟩ : ∃ r, x % 16 = r := ⟨_, rfl⟩
  have h : hd x z = ⟨11, r, 0, 1⟩ := by unfold hd; rw [hm, hr]; rfl
  have hc : cn 11 r (-1) a = true := by simp [cn]
  have hl : (0 : Int) < (n : Int) := by have := hy.len; simp at this; omega
  have HD := Lib.hid (Dv.new w a z)
  obtain ⟨ad, rfl, had, HX⟩ := hy.c0
  have hcx := HX.out _ (Dv.new w a z).bel
  obtain ⟨x0, x1⟩ := hy.byt.hd
  rw [fin_w h hc (by omega)]
  have KW : Hid (∀ W, Below w.heap.size w W → Calls Tryz.prog 37 #[.slice (some ad) n c, .int .i64 11, .int .i64 r, .int .i64 1] W fun e w' => e = .returned (.tuple #[(wth t 11 r 1).1.val, .int .i64 (wth t 11 r 1).2]) ∧ Below W.heap.size W w') := by
    show ∀ W, _ → Calls _ _ _ _ _
    intro W hW
    exact rwith_any (some ad) n c 1 11 r x t W (hy.below hW (Nat.le_refl _)) hn (by unfold Sz; omega)
  generalize wth t 11 r 1 = d at *
  obtain ⟨⟨d1, d2, d3, d4, d5⟩, d6⟩ := d
  clear h hc hy hz ha
  go_enter Tryz.func38, Tryz.ntmps38
  go_wp2_with (go_at_call 37; refine (KW.out _ HD.out.bel).mono ?_; rintro e w1 ⟨rfl, hb1⟩; have hD1 := HD.out.below hb1; have r0 := hD1.r0; have r1 := hD1.r1; have r2 := hD1.r2; have r3 := hD1.r3; have r4 := hD1.r4; have rf := hD1.rf; have HD1 := Lib.hid hD1; clear hD1 hb1)
  exact bodyPost_ret (v := .tuple #[(Sp.mk d1 d2 d3 d4 d5).val, .int .i64 d6]) (by simp [results, Tryz.results38, go_sem, r0, r1, r2, r3, r4]) rfl ⟨rfl, HD1.out.fin _ _ _ _ _⟩

set_option maxHeartbeats 800000 in
set_option maxRecDepth 100000 in
theorem ronc_m12 (A : Option Addr) (n c : Nat) (x : Int) (t : List Int) (a z : Int) (w : World) (hy : By w A n c (x :: t)) (hn : n ≤ 1000000) (ha : 0 ≤ a ∧ a < 256) (hz : Sz z) (hm : x / 16 = 12) :
    Calls Tryz.prog 38 #[.slice A n c, opv a z] w fun e w' => e = .returned (.tuple #[(fin x t a z (-1) 1).1.val, .int .i64 (fin x t a z (-1) 1).2]) ∧ Below w.heap.size w w' := by
  obtain ⟨r, hr⟩ : ∃ r, x % 16 = r := ⟨_, rfl⟩
  have h : hd x z = ⟨10, r, 0, 2⟩ := by unfold hd; rw [hm, hr]; rfl
  have hc : cn 10 r (-1) a = true := by simp [cn]
  have hl : (0 : Int) < (n : Int) := by have := hy.len; simp at this; omega
  have HD := Lib.hid (Dv.new w a z)
  obtain ⟨ad, rfl, had, HX⟩ := hy.c0
  have hcx := HX.out _ (Dv.new w a z).bel
  obtain ⟨x0, x1⟩ := hy.byt.hd
  rw [fin_w h hc (by omega)]
  have KW : Hid (∀ W, Below w.heap.size w W → Calls Tryz.prog 37 #[.slice (some ad) n c, .int .i64 10, .int .i64 r, .int .i64 2] W fun e w' => e = .returned (.tuple #[(wth t 10 r 2).1.val, .int .i64 (wth t 10 r 2).2]) ∧ Below W.heap.size W w') := by
    show ∀ W, _ → Calls _ _ _ _ _
    intro W hW
    exact rwith_any (some ad) n c 2 10 r x t W (hy.below hW (Nat.le_refl _)) hn (by unfold Sz; omega)
  generalize wth t 10 r 2 = d at *
  obtain ⟨⟨d1, d2, d3, d4, d5⟩, d6⟩ := d
  clear h hc hy hz ha
  go_enter Tryz.func38, Tryz.ntmps38
  go_wp2_with (go_at_call 37; refine (KW.out _ HD.out.bel).mono ?_; rintro e w1 ⟨rfl, hb1⟩; have hD1 := HD.out.below hb1; have r0 := hD1.r0; have r1 := hD1.r1; have r2 := hD1.r2; have r3 := hD1.r3; have r4 := hD1.r4; have rf := hD1.rf; have HD1 := Lib.hid hD1; clear hD1 hb1)
  exact bodyPost_ret (v := .tuple #[(Sp.mk d1 d2 d3 d4 d5).val, .int .i64 d6]) (by simp [results, Tryz.results38, go_sem, r0, r1, r2, r3, r4]) rfl ⟨rfl, HD1.out.fin _ _ _ _ _⟩

set_option maxHeartbeats 800000 in
set_option maxRecDepth 100000 in
theorem ronc_m13 (A : Option Addr) (n c : Nat) (x : Int) (t : List Int) (a z : Int) (w : World) (hy : By w A n c (x :: t)) (hn : n ≤ 1000000) (ha : 0 ≤ a ∧ a < 256) (hz : Sz z) (hm : x / 16 = 13) :
    Calls Tryz.prog 38 #[.slice A n c, opv a z] w fun e w' => e = .returned (.tuple #[(fin x t a z (-1) 1).1.val, .int .i64 (fin x t a z (-1) 1).2]) ∧ Below w.heap.size w w' := by
  obtain ⟨r, hr⟩ : ∃ r, x % 16 = r := ⟨_, rfl⟩
  have h : hd x z = ⟨11, r, 0, 2⟩ := by unfold hd; rw [hm, hr]; rfl
  have hc : cn 11 r (-1) a = true := by simp [cn]
  have hl : (0 : Int) < (n : Int) := by have := hy.len; simp at this; omega
  have HD := Lib.hid (Dv.new w a z)
  obtain ⟨ad, rfl, had, HX⟩ := hy.c0
  have hcx := HX.out _ (Dv.new w a z).bel
  obtain ⟨x0, x1⟩ := hy.byt.hd
  rw [fin_w h hc (by omega)]
  have KW : Hid (∀ W, Below w.heap.size w W → Calls Tryz.prog 37 #[.slice (some ad) n c, .int .i64 11, .int .i64 r, .int .i64 2] W fun e w' => e = .returned (.tuple #[(wth t 11 r 2).1.val, .int .i64 (wth t 11 r 2).2]) ∧ Below W.heap.size W w') := by
    show ∀ W, _ → Calls _ _ _ _ _
    intro W hW
    exact rwith_any (some ad) n c 2 11 r x t W (hy.below hW (Nat.le_refl _)) hn (by unfold Sz; omega)
  generalize wth t 11 r 2 = d at *
  obtain ⟨⟨d1, d2, d3, d4, d5⟩, d6⟩ := d
  clear h hc hy hz ha
  go_enter Tryz.func38, Tryz.ntmps38
  go_wp2_with (go_at_call 37; refine (KW.out _ HD.out.bel).mono ?_; rintro e w1 ⟨rfl, hb1⟩; have hD1 := HD.out.below hb1; have r0 := hD1.r0; have r1 := hD1.r1; have r2 := hD1.r2; have r3 := hD1.r3; have r4 := hD1.r4; have rf := hD1.rf; have HD1 := Lib.hid hD1; clear hD1 hb1)
  exact bodyPost_ret (v := .tuple #[(Sp.mk d1 d2 d3 d4 d5).val, .int .i64 d6]) (by simp [results, Tryz.results38, go_sem, r0, r1, r2, r3, r4]) rfl ⟨rfl, HD1.out.fin _ _ _ _ _⟩

set_option maxHeartbeats 800000 in
set_option maxRecDepth 100000 in
theorem ronc_m14 (A : Option Addr) (n c : Nat) (x : Int) (t : List Int) (a z : Int) (w : World) (hy : By w A n c (x :: t)) (hn : n ≤ 1000000) (ha : 0 ≤ a ∧ a < 256) (hz : Sz z) (hm : x / 16 = 14) :
    Calls Tryz.prog 38 #[.slice A n c, opv a z] w fun e w' => e = .returned (.tuple #[(fin x t a z (-1) 1).1.val, .int .i64 (fin x t a z (-1) 1).2]) ∧ Below w.heap.size w w' := by
  obtain ⟨r, hr⟩ : ∃ r, x % 16 = r := ⟨_, rfl⟩
  have h : hd x z = ⟨10, r, 0, 4⟩ := by unfold hd; rw [hm, hr]; rfl
  have hc : cn 10 r (-1) a = true := by simp [cn]
  have hl : (0 : Int) < (n : Int) := by have := hy.len; simp at this; omega
  have HD := Lib.hid (Dv.new w a z)
  obtain ⟨ad, rfl, had, HX⟩ := hy.c0
  have hcx := HX.out _ (Dv.new w a z).bel
  obtain ⟨x0, x1⟩ := hy.byt.hd
  rw [fin_w h hc (by omega)]
  have KW : Hid (∀ W, Below w.heap.size w W → Calls Tryz.prog 37 #[.slice (some ad) n c, .int .i64 10, .int .i64 r, .int .i64 4] W fun e w' => e = .returned (.tuple #[(wth t 10 r 4).1.val, .int .i64 (wth t 10 r 4).2]) ∧ Below W.heap.size W w') := by
    show ∀ W, _ → Calls _ _ _ _ _
    intro W hW
    exact rwith_any (some ad) n c 4 10 r x t W (hy.below hW (Nat.le_refl _)) hn (by unfold Sz; omega)
  generalize wth t 10 r 4 = d at *
  obtain ⟨⟨d1, d2, d3, d4, d5⟩, d6⟩ := d
  clear h hc hy hz ha
  go_enter Tryz.func38, Tryz.ntmps38
  go_wp2_with (go_at_call 37; refine (KW.out _ HD.out.bel).mono ?_; rintro e w1 ⟨rfl, hb1⟩; have hD1 := HD.out.below hb1; have r0 := hD1.r0; have r1 := hD1.r1; have r2 := hD1.r2; have r3 := hD1.r3; have r4 := hD1.r4; have rf := hD1.rf; have HD1 := Lib.hid hD1; clear hD1 hb1)
  exact bodyPost_ret (v := .tuple #[(Sp.mk d1 d2 d3 d4 d5).val, .int .i64 d6]) (by simp [results, Tryz.results38, go_sem, r0, r1, r2, r3, r4]) rfl ⟨rfl, HD1.out.fin _ _ _ _ _⟩

set_option maxHeartbeats 800000 in
set_option maxRecDepth 100000 in
theorem ronc_m15 (A : Option Addr) (n c : Nat) (x : Int) (t : List Int) (a z : Int) (w : World) (hy : By w A n c (x :: t)) (hn : n ≤ 1000000) (ha : 0 ≤ a ∧ a < 256) (hz : Sz z) (hm : x / 16 = 15) :
    Calls Tryz.prog 38 #[.slice A n c, opv a z] w fun e w' => e = .returned (.tuple #[(fin x t a z (-1) 1).1.val, .int .i64 (fin x t a z (-1) 1).2]) ∧ Below w.heap.size w w' := by
  obtain ⟨r, hr⟩ : ∃ r, x % 16 = r := ⟨_, rfl⟩
  have h : hd x z = ⟨11, r, 0, 4⟩ := by unfold hd; rw [hm, hr]; rfl
  have hc : cn 11 r (-1) a = true := by simp [cn]
  have hl : (0 : Int) < (n : Int) := by have := hy.len; simp at this; omega
  have HD := Lib.hid (Dv.new w a z)
  obtain ⟨ad, rfl, had, HX⟩ := hy.c0
  have hcx := HX.out _ (Dv.new w a z).bel
  obtain ⟨x0, x1⟩ := hy.byt.hd
  rw [fin_w h hc (by omega)]
  have KW : Hid (∀ W, Below w.heap.size w W → Calls Tryz.prog 37 #[.slice (some ad) n c, .int .i64 11, .int .i64 r, .int .i64 4] W fun e w' => e = .returned (.tuple #[(wth t 11 r 4).1.val, .int .i64 (wth t 11 r 4).2]) ∧ Below W.heap.size W w') := by
    show ∀ W, _ → Calls _ _ _ _ _
    intro W hW
    exact rwith_any (some ad) n c 4 11 r x t W (hy.below hW (Nat.le_refl _)) hn (by unfold Sz; omega)
  generalize wth t 11 r 4 = d at *
  obtain ⟨⟨d1, d2, d3, d4, d5⟩, d6⟩ := d
  clear h hc hy hz ha
  go_enter Tryz.func38, Tryz.ntmps38
  go_wp2_with (go_at_call 37; refine (KW.out _ HD.out.bel).mono ?_; rintro e w1 ⟨rfl, hb1⟩; have hD1 := HD.out.below hb1; have r0 := hD1.r0; have r1 := hD1.r1; have r2 := hD1.r2; have r3 := hD1.r3; have r4 := hD1.r4; have rf := hD1.rf; have HD1 := Lib.hid hD1; clear hD1 hb1)
  exact bodyPost_ret (v := .tuple #[(Sp.mk d1 d2 d3 d4 d5).val, .int .i64 d6]) (by simp [results, Tryz.results38, go_sem, r0, r1, r2, r3, r4]) rfl ⟨rfl, HD1.out.fin _ _ _ _ _⟩

theorem ronc_any (A : Option Addr) (n c : Nat) (x : Int) (t : List Int) (a z : Int) (w : World) (hy : By w A n c (x :: t)) (hn : n ≤ 1000000) (ha : 0 ≤ a ∧ a < 256) (hz : Sz z) :
    Calls Tryz.prog 38 #[.slice A n c, opv a z] w fun e w' => e = .returned (.tuple #[(fin x t a z (-1) 1).1.val, .int .i64 (fin x t a z (-1) 1).2]) ∧ Below w.heap.size w w' := by
  obtain ⟨x0, x1⟩ := hy.byt.hd
  have h16 : x / 16 < 4 ∨ x / 16 = 4 ∨ x / 16 = 5 ∨ x / 16 = 6 ∨ x / 16 = 7 ∨ x / 16 = 8 ∨ x / 16 = 9 ∨ x / 16 = 10 ∨ x / 16 = 11 ∨ x / 16 = 12 ∨ x / 16 = 13 ∨ x / 16 = 14 ∨ x / 16 = 15 := by omega
  rcases h16 with h | h | h | h | h | h | h | h | h | h | h | h | h
  · exact ronc_lit A n c x t a z w hy hn ha hz h
  · exact ronc_four A n c x t a z w hy hn ha hz h
  · exact ronc_m5 A n c x t a z w hy hn ha hz h
  · exact ronc_m6 A n c x t a z w hy hn ha hz h
  · exact ronc_m7 A n c x t a z w hy hn ha hz h
  · exact ronc_m8 A n c x t a z w hy hn ha hz h
  · exact ronc_m9 A n c x t a z w hy hn ha hz h
  · exact ronc_m10 A n c x t a z w hy hn ha hz h
  · exact ronc_m11 A n c x t a z w hy hn ha hz h
  · exact ronc_m12 A n c x t a z w hy hn ha hz h
  · exact ronc_m13 A n c x t a z w hy hn ha hz h
  · exact ronc_m14 A n c x t a z w hy hn ha hz h
  · exact ronc_m15 A n c x t a z w hy hn ha hz h

end Go.Proofs.YtppkpfkoggnbmaaGreatDoor.Cs.Es
