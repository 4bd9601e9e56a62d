/- The walk of SpecSizes. -/
import Derived.Test.YtmhdhffpndiodaaEOpn
namespace Go.Proofs.Ytmhdhffpndiodaa.Cs
open Go.RowKit
set_option linter.unusedVariables false

theorem hd_z {x z z' : Int} (h : ¬ (x / 16 = 8 ∧ x % 16 = 15)) : hd x z = hd x z' := by
  unfold hd
  simp only [if_neg h]
theorem fin_z {x a z z' i c : Int} {t : List Int} (h : ¬ (x / 16 = 8 ∧ x % 16 = 15)) : fin x t a z i c = fin x t a z' i c := by
  unfold fin
  rw [hd_z (z' := z') h]
theorem gd_z {a z z' : Int} (hz : Sz z) (hz' : Sz z') : gd a z = gd a z' := by
  have h : ∀ q, Sz q → (q == 1 || (q == 2 || q == 4)) = true := by intro q h; rcases h with rfl | rfl | rfl <;> rfl
  unfold gd
  rw [h z hz, h z' hz']
theorem dec_z {a z z' x : Int} {t : List Int} (hz : Sz z) (hz' : Sz z') (h98 : a ≠ 98) (hb : Byt (x :: t)) (hx : x ≠ 143) : dec (x :: t) a z = dec (x :: t) a z' := by
  have hg := gd_z (a := a) hz hz'
  have hbx := hb.hd
  by_cases h : gd a z = true
  · have h' := hg ▸ h
    by_cases h4 : x / 16 = 4
    · by_cases h15 : x % 16 = 15
      · rw [dec_15 h h98 h4 h15, dec_15 h' h98 h4 h15]
      · match t, hb with
        | [], _ => rw [dec_short h h98 h4 h15, dec_short h' h98 h4 h15]
        | y :: u, hb =>
          rw [dec_1 h h98 h4 h15, dec_1 h' h98 h4 h15]
          by_cases hy : y / 16 = 8 ∧ y % 16 = 15
          · rw [fin_no (.inr hy) (by omega), fin_no (.inr hy) (by omega)]
          · exact fin_z hy
    · rw [dec_0 h h98 h4, dec_0 h' h98 h4]
      exact fin_z (by omega)
  · have h : gd a z = false := by simpa using h
    have h' := hg ▸ h
    rw [dec_arg h, dec_arg h']

set_option maxHeartbeats 800000 in
theorem sizes_long (A : Option Addr) (n c : Nat) (a : Int) (w : World) (hn : 256 < n) :
    Calls Try.prog 7 #[.slice A n c, .int .u8 a] w fun e w' => e = .returned (.bool true) ∧ Below w.heap.size w w' := by
  have hn' : (256 : Int) < (n : Int) := by omega
  go_enter Try.func7, Try.ntmps7
  go_wp2_with fail
  refine (alive _).mono ?_
  rintro e w1 ⟨rfl, hb1⟩
  have hb := hb1
  go_wp2
  go_ret
  exact ⟨rfl, hb⟩
set_option maxHeartbeats 800000 in
theorem sizes_nil (A : Option Addr) (c : Nat) (a : Int) (w : World) :
    Calls Try.prog 7 #[.slice A 0 c, .int .u8 a] w fun e w' => e = .returned (.bool true) ∧ Below w.heap.size w w' := by
  go_enter Try.func7, Try.ntmps7
  go_wp2_with fail
  refine (alive _).mono ?_
  rintro e w1 ⟨rfl, hb1⟩
  have hb := hb1
  go_wp2
  go_ret
  exact ⟨rfl, hb⟩
set_option maxHeartbeats 800000 in
theorem sizes_143 (A : Option Addr) (n c : Nat) (x : Int) (t : List Int) (a : Int) (w : World) (hy : By w A n c (x :: t)) (hn : n ≤ 256) (h : x = 143 ∨ (x ≠ 143 ∧ a = 98)) :
    Calls Try.prog 7 #[.slice A n c, .int .u8 a] w fun e w' => e = .returned (.bool true) ∧ Below w.heap.size w w' := by
  have hl : (0 : Int) < (n : Int) := by have := hy.len; simp at this; omega
  have hl0 : ((n : Int) == 0) = false := by have : (n : Int) ≠ 0 := by omega
                                            simpa using this
  have hn' : ¬ (256 : Int) < (n : Int) := by omega
  obtain ⟨ad, rfl, had, HX⟩ := hy.c0
  obtain ⟨x0, x1⟩ := hy.byt.hd
  clear hy
  rcases h with rfl | ⟨hx, rfl⟩
  · go_enter Try.func7, Try.ntmps7
    go_wp2_with fail
    refine (alive _).mono ?_
    rintro e w1 ⟨rfl, hb1⟩
    have hcx := HX.out _ hb1
    have HB := Lib.hid hb1
    clear hb1
    go_wp2
    go_ret
    exact ⟨rfl, HB.out⟩
  · have gx : (x == 143) = false := by simpa using hx
    clear hx
    go_enter Try.func7, Try.ntmps7
    go_wp2_with fail
    refine (alive _).mono ?_
    rintro e w1 ⟨rfl, hb1⟩
    have hcx := HX.out _ hb1
    have HB := Lib.hid hb1
    clear hb1
    go_wp2
    go_ret
    exact ⟨rfl, HB.out⟩

set_option maxHeartbeats 1600000 in
theorem sizes_in (A : Option Addr) (n c : Nat) (x : Int) (t : List Int) (a : Int) (w : World) (hy : By w A n c (x :: t)) (ha : 0 ≤ a ∧ a < 256) (hn : n ≤ 256) (hx : x ≠ 143) (h98 : a ≠ 98) :
    Calls Try.prog 7 #[.slice A n c, .int .u8 a] w fun e w' => e = .returned (.bool true) ∧ Below w.heap.size w w' := by
  have hl : (0 : Int) < (n : Int) := by have := hy.len; simp at this; omega
  have hl0 : ((n : Int) == 0) = false := by have : (n : Int) ≠ 0 := by omega
                                            simpa using this
  have hn' : ¬ (256 : Int) < (n : Int) := by omega
  have gx : (x == 143) = false := by simpa using hx
  have g98 : (a == 98) = false := by simpa using h98
  have h1 : Sz 1 := .inl rfl
  have h2 : Sz 2 := .inr (.inl rfl)
  have h4 : Sz 4 := .inr (.inr rfl)
  have K : ∀ z, Sz z → Hid (∀ W, Below w.heap.size w W → Calls Try.prog 9 #[.slice A n c, opv a z] W fun e w' => e = .returned (.tuple #[(dec (x :: t) a 1).1.val, .int .i64 (dec (x :: t) a 1).2]) ∧ Below W.heap.size W w') := by
    intro z hz W hW
    rw [dec_z h1 hz h98 hy.byt hx]
    exact decode_any A n c (x :: t) a z W (hy.below hW (Nat.le_refl _)) (by omega) ha
  have K1 := K 1 h1
  have K2 := K 2 h2
  have K4 := K 4 h4
  obtain ⟨ad, rfl, had, HX⟩ := hy.c0
  obtain ⟨x0, x1⟩ := hy.byt.hd
  generalize dec (x :: t) a 1 = d at *
  obtain ⟨⟨d1, d2, d3, d4, d5⟩, d6⟩ := d
  clear hy hx h98 K h1 h2 h4 ha
  go_enter Try.func7, Try.ntmps7
  go_wp2_with fail
  refine (alive _).mono ?_
  rintro e w1 ⟨rfl, hb1⟩
  have hcx := HX.out _ hb1
  have HB := Lib.hid hb1
  clear hb1
  go_wp2_with fail
  refine (K1.out _ HB.out).mono ?_
  rintro e w2 ⟨rfl, hb2⟩
  have HB2 := Lib.hid (bel2 HB.out hb2)
  have HS := Lib.hid (Bk.new w2 28 [.int .i64 d1, .int .i64 d2, .int .i64 d3, .int .u32 d4, .int .i64 d5])
  clear hcx hb2 HB
  go_wp2_with fail
  refine (K2.out _ (bel2 HB2.out (by go_grown))).mono ?_
  rintro e w3 ⟨rfl, hb3⟩
  have HB3 := Lib.hid (bel2 (bel2 HB2.out (by go_grown)) hb3)
  have HS3 := Lib.hid (HS.out.below hb3 (Nat.le_refl _))
  have HT := Lib.hid (Bk.new w3 28 [.int .i64 d1, .int .i64 d2, .int .i64 d3, .int .u32 d4, .int .i64 d5])
  clear hb3 HB2 HS
  go_wp2_with fail
  refine (K4.out _ (bel2 HB3.out (by go_grown))).mono ?_
  rintro e w4 ⟨rfl, hb4⟩
  have HB4 := Lib.hid (bel2 (bel2 HB3.out (by go_grown)) hb4)
  have hT := HT.out.below hb4 (Nat.le_refl _)
  have hS := (HS3.out.below (al1 w3 (.cells #[.int .i64 d1, .int .i64 d2, .int .i64 d3, .int .u32 d4, .int .i64 d5] 28)) (Nat.le_refl _)).below hb4 (Nat.le_refl _)
  have s0 := hS.cell 0 _ rfl
  have s1 := hS.cell 1 _ rfl
  have s2 := hS.cell 2 _ rfl
  have s3 := hS.cell 3 _ rfl
  have s4 := hS.cell 4 _ rfl
  have t0 := hT.cell 0 _ rfl
  have t1 := hT.cell 1 _ rfl
  have t2 := hT.cell 2 _ rfl
  have t3 := hT.cell 3 _ rfl
  have t4 := hT.cell 4 _ rfl
  have l1 := hS.lt
  have l2 := hT.lt
  clear hb4 HB3 HS3 HT hS hT
  go_wp2
  go_ret
  exact ⟨rfl, bel2 HB4.out (by go_grown)⟩

theorem sizes_walk (A : Option Addr) (n c : Nat) (a : Int) (w : World) (h : ∃ ys, By w A n c ys) (ha : (Lit.int .u8 a).wf = true) :
    Calls Try.prog 7 #[.slice A n c, .int .u8 a] w fun e w' => e = .returned (.bool true) ∧ Below w.heap.size w w' := by
  obtain ⟨ys, hy⟩ := h
  have hb := bounds_u8 ha
  by_cases hn : 256 < n
  · exact sizes_long A n c _ w hn
  · match ys, hy with
    | [], hy =>
      have hl := hy.len
      simp at hl
      subst hl
      exact sizes_nil A c a w
    | x :: t, hy =>
      by_cases hx : x = 143
      · exact sizes_143 A n c x t a w hy (by omega) (.inl hx)
      · by_cases h98 : a = 98
        · exact sizes_143 A n c x t a w hy (by omega) (.inr ⟨hx, h98⟩)
        · exact sizes_in A n c x t a w hy ⟨by omega, by omega⟩ (by omega) hx h98

end Go.Proofs.Ytmhdhffpndiodaa.Cs
