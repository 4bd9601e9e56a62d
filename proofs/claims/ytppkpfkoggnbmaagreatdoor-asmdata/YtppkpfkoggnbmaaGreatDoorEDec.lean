/- Contracts of package spec: Decode. -/
import Derived.Test.YtppkpfkoggnbmaaGreatDoorEBeh
namespace Go.Proofs.YtppkpfkoggnbmaaGreatDoor.Cs.Es
open Go.RowKit

/-- an operand as a value -/
abbrev opv (a z : Int) : Value := .agg #[.int .u8 a, .int .i64 z]

/-- The variables of a call of Decode: the operand, and what is answered. -/
structure Dv (w : World) (a z : Int) (W : World) : Prop where
  opr : Bk W w.heap.size 45 [.int .u8 a, .int .i64 z]
  res : Bk W (w.heap.size + 1) 47 zs.cells
  bel : Below w.heap.size w W
section
variable {w W V : World} {a z : Int}
theorem Dv.new (w : World) (a z : Int) : Dv w a z ((w.alloc (.cells #[.int .u8 a, .int .i64 z] 45)).alloc (.cells #[.int .i64 0, .int .i64 0, .int .i64 0, .int .u32 0, .int .i64 0] 47)) :=
  ⟨(Bk.new _ _ [.int .u8 a, .int .i64 z]).below (al1 _ _) (Nat.le_refl _), by
    have := Bk.new (w.alloc (.cells #[.int .u8 a, .int .i64 z] 45)) 47 [.int .i64 0, .int .i64 0, .int .i64 0, .int .u32 0, .int .i64 0]
    simp at this
    exact this, bel2 (al1 _ _) (al1 _ _)⟩
theorem Dv.below (h : Dv w a z W) (b : Below W.heap.size W V) : Dv w a z V := ⟨h.opr.below b (Nat.le_refl _), h.res.below b (Nat.le_refl _), bel2 h.bel b⟩
theorem Dv.o0 (h : Dv w a z W) : W.cell? ⟨w.heap.size, 0, none⟩ = some (.int .u8 a) := h.opr.cell 0 _ rfl
theorem Dv.o1 (h : Dv w a z W) : W.cell? ⟨w.heap.size, 1, none⟩ = some (.int .i64 z) := h.opr.cell 1 _ rfl
theorem Dv.r0 (h : Dv w a z W) : W.cell? ⟨w.heap.size + 1, 0, none⟩ = some (.int .i64 0) := h.res.cell 0 _ rfl
theorem Dv.r1 (h : Dv w a z W) : W.cell? ⟨w.heap.size + 1, 1, none⟩ = some (.int .i64 0) := h.res.cell 1 _ rfl
theorem Dv.r2 (h : Dv w a z W) : W.cell? ⟨w.heap.size + 1, 2, none⟩ = some (.int .i64 0) := h.res.cell 2 _ rfl
theorem Dv.r3 (h : Dv w a z W) : W.cell? ⟨w.heap.size + 1, 3, none⟩ = some (.int .u32 0) := h.res.cell 3 _ rfl
theorem Dv.r4 (h : Dv w a z W) : W.cell? ⟨w.heap.size + 1, 4, none⟩ = some (.int .i64 0) := h.res.cell 4 _ rfl
theorem Dv.rf (h : Dv w a z W) : ∀ i, W.frozen? ⟨w.heap.size + 1, i, none⟩ = false := h.res.free
theorem Dv.lt (h : Dv w a z W) : w.heap.size + 1 < W.heap.size := h.res.lt
theorem Dv.fin (h : Dv w a z W) (a0 a1 a2 a3 a4 : Value) : Below w.heap.size w (((((W.setCell ⟨w.heap.size + 1, 0, none⟩ a0).setCell ⟨w.heap.size + 1, 1, none⟩ a1).setCell ⟨w.heap.size + 1, 2, none⟩ a2).setCell ⟨w.heap.size + 1, 3, none⟩ a3).setCell ⟨w.heap.size + 1, 4, none⟩ a4) := by
  iterate 5 refine Below.setCell ?_ (by simp) _
  exact h.bel
end

set_option maxHeartbeats 400000 in
set_option maxRecDepth 100000 in
theorem decode_arg (A : Option Addr) (n c : Nat) (a z : Int) (w : World) (ha : 0 ≤ a ∧ a < 256) (hg : gd a z = false) :
    Calls Tryz.prog 15 #[.slice A n c, opv a z] w fun e w' => e = .returned (.tuple #[zs.val, .int .i64 1]) ∧ Below w.heap.size w w' := by
  have KI := fun w => Lib.hid (is_any a z ha w)
  rw [hg] at KI
  have HD := Lib.hid (Dv.new w a z)
  clear hg
  go_enter Tryz.func15, Tryz.ntmps15
  go_wp2_with (go_at_call 26; refine (KI _).out.mono ?_; rintro e w1 ⟨rfl, hb1⟩; have hD1 := HD.out.below hb1; have r0 := hD1.r0; have r1 := hD1.r1; have r2 := hD1.r2; have r3 := hD1.r3; have r4 := hD1.r4; have rf := hD1.rf; have HD1 := Lib.hid hD1; clear hD1 hb1)
  exact bodyPost_ret (v := .tuple #[zs.val, .int .i64 1]) (by simp [results, Tryz.results15, go_sem, zs, r0, r1, r2, r3, r4]) rfl ⟨rfl, HD1.out.fin _ _ _ _ _⟩

set_option maxHeartbeats 400000 in
set_option maxRecDepth 100000 in
theorem decode_b (A : Option Addr) (n c : Nat) (ys : List Int) (z : Int) (w : World) (hy : By w A n c ys) (hn : n ≤ 1000000) (hg : gd 98 z = true) :
    Calls Tryz.prog 15 #[.slice A n c, opv 98 z] w fun e w' => e = .returned (.tuple #[(dec ys 98 z).1.val, .int .i64 (dec ys 98 z).2]) ∧ Below w.heap.size w w' := by
  have KI := fun w => Lib.hid (is_any 98 z (by omega) w)
  rw [hg] at KI
  have hz := gd_sz hg
  obtain ⟨m, rfl⟩ : ∃ m : Nat, z = m := ⟨z.toNat, by rcases hz with rfl | rfl | rfl <;> rfl⟩
  have hm4 : m ≤ 4 := by rcases hz with h | h | h <;> omega
  have hD : dec ys 98 m = (if ys.length < m then (zs, 3) else (⟨12, 0, -1, nb (ys.take m), m⟩, 0)) := by
    unfold dec
    rw [hg]
    simp
  rw [hy.len] at hD
  have KB : Hid (∀ W, Below w.heap.size w W → Calls Tryz.prog 27 #[.slice A n c, .int .i64 0, (Sp.mk 12 0 (-1) 0 0).val, .int .i64 m] W fun e w' => e = .returned (.tuple #[(dec ys 98 m).1.val, .int .i64 (dec ys 98 m).2]) ∧ Below W.heap.size W w') := by
    show ∀ W, _ → Calls _ _ _ _ _
    intro W hW
    rw [hD]
    by_cases h : n < m
    · rw [if_pos h]
      exact behind_long A n c 0 m _ W hn (by omega) hm4 (by omega)
    · rw [if_neg h]
      have := behind_some A n c 0 m ys ⟨12, 0, -1, 0, 0⟩ W (hy.below hW (Nat.le_refl _)) hn (by omega) hz (by omega)
      simpa using this
  generalize dec ys 98 m = d at *
  obtain ⟨⟨d1, d2, d3, d4, d5⟩, d6⟩ := d
  have HD := Lib.hid (Dv.new w 98 m)
  clear hg hz hD hy
  go_enter Tryz.func15, Tryz.ntmps15
  go_wp2_with (first
    | (go_at_call 26; refine (KI _).out.mono ?_; rintro e w1 ⟨rfl, hb1⟩; have hD1 := HD.out.below hb1; have o0 := hD1.o0; have o1 := hD1.o1; have HD1 := Lib.hid hD1; clear hD1 hb1)
    | (go_at_call 27; refine (KB.out _ HD1.out.bel).mono ?_; rintro e w2 ⟨rfl, hb2⟩; have hD2 := HD1.out.below hb2; have r0 := hD2.r0; have r1 := hD2.r1; have r2 := hD2.r2; have r3 := hD2.r3; have r4 := hD2.r4; have rf := hD2.rf; have HD2 := Lib.hid hD2; clear hD2 hb2))
  exact bodyPost_ret (v := .tuple #[(Sp.mk d1 d2 d3 d4 d5).val, .int .i64 d6]) (by simp [results, Tryz.results15, go_sem, r0, r1, r2, r3, r4]) rfl ⟨rfl, HD2.out.fin _ _ _ _ _⟩

theorem By.c0 {w : World} {A : Option Addr} {n c : Nat} {x : Int} {t : List Int} (h : By w A n c (x :: t)) : ∃ ad, A = some ad ∧ ad.block < w.heap.size ∧ Hid (∀ W, Below w.heap.size w W → W.cell? ad = some (.int .u8 x)) := by
  obtain ⟨ad, e, hl, hc⟩ := h.src (by simp)
  refine ⟨ad, e, hl, fun W hW => ?_⟩
  rw [hW.cell hl]
  exact hc 0 _ rfl
theorem By.c1 {w : World} {ad : Addr} {n c : Nat} {x y : Int} {t : List Int} (h : By w (some ad) n c (x :: y :: t)) : Hid (∀ W, Below w.heap.size w W → W.cell? ⟨ad.block, ad.off + 1, none⟩ = some (.int .u8 y)) := by
  obtain ⟨ad', e, hl, hc⟩ := h.src (by simp)
  injection e with e
  subst e
  intro W hW
  rw [hW.cell (p := ⟨ad.block, ad.off + 1, none⟩) hl]
  exact hc 1 _ rfl

set_option maxHeartbeats 400000 in
set_option maxRecDepth 100000 in
theorem decode_nil (A : Option Addr) (c : Nat) (a z : Int) (w : World) (ha : 0 ≤ a ∧ a < 256) (hg : gd a z = true) (h98 : a ≠ 98) :
    Calls Tryz.prog 15 #[.slice A 0 c, opv a z] w fun e w' => e = .returned (.tuple #[zs.val, .int .i64 3]) ∧ Below w.heap.size w w' := by
  have KI := fun w => Lib.hid (is_any a z ha w)
  rw [hg] at KI
  have HD := Lib.hid (Dv.new w a z)
  have g98 : (a == 98) = false := by simpa using h98
  clear hg h98
  go_enter Tryz.func15, Tryz.ntmps15
  go_wp2_with (go_at_call 26; refine (KI _).out.mono ?_; rintro e w1 ⟨rfl, hb1⟩; have hD1 := HD.out.below hb1; have o0 := hD1.o0; have r0 := hD1.r0; have r1 := hD1.r1; have r2 := hD1.r2; have r3 := hD1.r3; have r4 := hD1.r4; have rf := hD1.rf; have HD1 := Lib.hid hD1; clear hD1 hb1)
  exact bodyPost_ret (v := .tuple #[zs.val, .int .i64 3]) (by simp [results, Tryz.results15, go_sem, zs, r0, r1, r2, r3, r4]) rfl ⟨rfl, HD1.out.fin _ _ _ _ _⟩

set_option maxHeartbeats 400000 in
set_option maxRecDepth 100000 in
theorem decode_ix (A : Option Addr) (n c : Nat) (x : Int) (t : List Int) (a z : Int) (w : World) (hy : By w A n c (x :: t)) (hn : n ≤ 1000000) (ha : 0 ≤ a ∧ a < 256) (hg : gd a z = true) (h98 : a ≠ 98) (hx : x / 16 = 4) (hc : x % 16 = 15 ∨ n = 1) :
    Calls Tryz.prog 15 #[.slice A n c, opv a z] w fun e w' => e = .returned (.tuple #[if x % 16 = 15 then (bd 1).val else zs.val, .int .i64 (if x % 16 = 15 then 0 else 3)]) ∧ Below w.heap.size w w' := by
  have KI := fun w => Lib.hid (is_any a z ha w)
  rw [hg] at KI
  have KR := fun w => Lib.hid (register_any x hy.byt.hd w)
  have KD := fun w => Lib.hid (bad_any 1 w)
  have HD := Lib.hid (Dv.new w a z)
  have g98 : (a == 98) = false := by simpa using h98
  have hl : (0 : Int) < (n : Int) := by have := hy.len; simp at this; omega
  obtain ⟨ad, rfl, _, HX⟩ := hy.c0
  obtain ⟨x0, x1⟩ := hy.byt.hd
  clear hg h98 hy
  by_cases h15 : x % 16 = 15
  · simp only [if_pos h15]
    rw [h15] at KR
    clear hc h15
    go_enter Tryz.func15, Tryz.ntmps15
    go_wp2_with (first
      | (go_at_call 26; refine (KI _).out.mono ?_; rintro e w1 ⟨rfl, hb1⟩; have hD1 := HD.out.below hb1; have o0 := hD1.o0; have hcx := HX.out _ hD1.bel; have HD1 := Lib.hid hD1; clear hD1 hb1)
      | (go_at_call 28; refine (KR _).out.mono ?_; rintro e w' ⟨rfl, rfl⟩)
      | (go_at_call 29; refine (KD _).out.mono ?_; rintro e w2 ⟨rfl, hb2⟩; have hD2 := HD1.out.below hb2; have r0 := hD2.r0; have r1 := hD2.r1; have r2 := hD2.r2; have r3 := hD2.r3; have r4 := hD2.r4; have rf := hD2.rf; have HD2 := Lib.hid hD2; clear hD2 hb2))
    exact bodyPost_ret (v := .tuple #[(bd 1).val, .int .i64 0]) (by simp [results, Tryz.results15, go_sem, bd, r0, r1, r2, r3, r4]) rfl ⟨rfl, HD2.out.fin _ _ _ _ _⟩
  · simp only [if_neg h15]
    obtain rfl : n = 1 := by omega
    have g15 : (x % 16 == 15) = false := by simpa using h15
    clear hc h15
    generalize x % 16 = r at *
    go_enter Tryz.func15, Tryz.ntmps15
    go_wp2_with (first
      | (go_at_call 26; refine (KI _).out.mono ?_; rintro e w1 ⟨rfl, hb1⟩; have hD1 := HD.out.below hb1; have o0 := hD1.o0; have hcx := HX.out _ hD1.bel; have r0 := hD1.r0; have r1 := hD1.r1; have r2 := hD1.r2; have r3 := hD1.r3; have r4 := hD1.r4; have rf := hD1.rf; have HD1 := Lib.hid hD1; clear hD1 hb1)
      | (go_at_call 28; refine (KR _).out.mono ?_; rintro e w' ⟨rfl, rfl⟩))
    exact bodyPost_ret (v := .tuple #[zs.val, .int .i64 3]) (by simp [results, Tryz.results15, go_sem, zs, r0, r1, r2, r3, r4]) rfl ⟨rfl, HD1.out.fin _ _ _ _ _⟩

end Go.Proofs.YtppkpfkoggnbmaaGreatDoor.Cs.Es
