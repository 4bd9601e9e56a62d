import Derived.Test.YteohkobdmkbcpaaGreatDoorGSpc
import Derived.Deep.QuietTactic
import Derived.BigQuiet

/- Contracts of package spec: Decode. -/
namespace Go.Proofs.YteohkobdmkbcpaaGreatDoor.Bt.Es
open Go.RowKit Tl

/-- an operand as a value -/
abbrev opv (a z : Int) : Value := .agg #[.int .u8 a, .int .i64 z]

/-- The variables of a call of Decode: the operand, and what is answered. -/
structure Dv (w : World) (a z : Int) (W : World) : Prop where
  opr : Bk W w.heap.size 120 [.int .u8 a, .int .i64 z]
  res : Bk W (w.heap.size + 1) 151 zs.cells
  bel : Below w.heap.size w W
section
variable {w W V : World} {a z : Int}
theorem Dv.new (w : World) (a z : Int) : Dv w a z ((w.alloc (.cells #[.int .u8 a, .int .i64 z] 120)).alloc (.cells #[.int .i64 0, .int .i64 0, .int .i64 0, .int .u32 0, .int .i64 0] 151)) :=
  ⟨(Bk.new _ _ [.int .u8 a, .int .i64 z]).below (al1 _ _) (Nat.le_refl _), by
    have := Bk.new (w.alloc (.cells #[.int .u8 a, .int .i64 z] 120)) 151 [.int .i64 0, .int .i64 0, .int .i64 0, .int .u32 0, .int .i64 0]
    simp at this
    exact this, bel2 (al1 _ _) (al1 _ _)⟩
theorem Dv.below (h : Dv w a z W) (b : Below W.heap.size W V) : Dv w a z V := ⟨h.opr.below b (Nat.le_refl _), h.res.below b (Nat.le_refl _), bel2 h.bel b⟩
theorem Dv.o0 (h : Dv w a z W) : W.cell? ⟨w.heap.size, 0, none⟩ = some (.int .u8 a) := h.opr.cell 0 _ rfl
theorem Dv.o1 (h : Dv w a z W) : W.cell? ⟨w.heap.size, 1, none⟩ = some (.int .i64 z) := h.opr.cell 1 _ rfl
theorem Dv.r0 (h : Dv w a z W) : W.cell? ⟨w.heap.size + 1, 0, none⟩ = some (.int .i64 0) := h.res.cell 0 _ rfl
theorem Dv.r1 (h : Dv w a z W) : W.cell? ⟨w.heap.size + 1, 1, none⟩ = some (.int .i64 0) := h.res.cell 1 _ rfl
theorem Dv.r2 (h : Dv w a z W) : W.cell? ⟨w.heap.size + 1, 2, none⟩ = some (.int .i64 0) := h.res.cell 2 _ rfl
theorem Dv.r3 (h : Dv w a z W) : W.cell? ⟨w.heap.size + 1, 3, none⟩ = some (.int .u32 0) := h.res.cell 3 _ rfl
theorem Dv.r4 (h : Dv w a z W) : W.cell? ⟨w.heap.size + 1, 4, none⟩ = some (.int .i64 0) := h.res.cell 4 _ rfl
theorem Dv.rf (h : Dv w a z W) : ∀ i, W.frozen? ⟨w.heap.size + 1, i, none⟩ = false := h.res.free
theorem Dv.lt (h : Dv w a z W) : w.heap.size + 1 < W.heap.size := h.res.lt
theorem Dv.fin (h : Dv w a z W) (a0 a1 a2 a3 a4 : Value) : Below w.heap.size w (((((W.setCell ⟨w.heap.size + 1, 0, none⟩ a0).setCell ⟨w.heap.size + 1, 1, none⟩ a1).setCell ⟨w.heap.size + 1, 2, none⟩ a2).setCell ⟨w.heap.size + 1, 3, none⟩ a3).setCell ⟨w.heap.size + 1, 4, none⟩ a4) := by
  iterate 5 refine Below.setCell ?_ (by simp) _
  exact h.bel
end

set_option maxHeartbeats 400000 in
set_option maxRecDepth 100000 in
theorem decode_arg (A : Option Addr) (n c : Nat) (a z : Int) (w : World) (ha : 0 ≤ a ∧ a < 256) (hg : gd a z = false) :
    Calls Tryz.prog 159 #[.slice A n c, opv a z] w fun e w' => e = .returned (.tuple #[zs.val, .int .i64 1]) ∧ Below w.heap.size w w' := by
  have KI := fun w => Lib.hid (is_any a z ha w)
  rw [hg] at KI
  have HD := Lib.hid (Dv.new w a z)
  clear hg
  go_enter Tryz.func159, Tryz.ntmps159
  go_wp2_with (go_at_call 207; refine (KI _).out.mono ?_; rintro e w1 ⟨rfl, hb1⟩; have hD1 := HD.out.below hb1; have r0 := hD1.r0; have r1 := hD1.r1; have r2 := hD1.r2; have r3 := hD1.r3; have r4 := hD1.r4; have rf := hD1.rf; have HD1 := Lib.hid hD1; clear hD1 hb1)
  exact bodyPost_ret (v := .tuple #[zs.val, .int .i64 1]) (by simp [results, Tryz.results159, go_sem, zs, r0, r1, r2, r3, r4]) rfl ⟨rfl, HD1.out.fin _ _ _ _ _⟩

set_option maxHeartbeats 400000 in
set_option maxRecDepth 100000 in
theorem decode_b (A : Option Addr) (n c : Nat) (ys : List Int) (z : Int) (w : World) (hy : By w A n c ys) (hn : n ≤ 1000000) (hg : gd 98 z = true) :
    Calls Tryz.prog 159 #[.slice A n c, opv 98 z] w fun e w' => e = .returned (.tuple #[(dec ys 98 z).1.val, .int .i64 (dec ys 98 z).2]) ∧ Below w.heap.size w w' := by
  have KI := fun w => Lib.hid (is_any 98 z (by omega) w)
  rw [hg] at KI
  have hz := gd_sz hg
  obtain ⟨m, rfl⟩ : ∃ m : Nat, z = m := ⟨z.toNat, by rcases hz with rfl | rfl | rfl <;> rfl⟩
  have hm4 : m ≤ 4 := by rcases hz with h | h | h <;> omega
  have hD : dec ys 98 m = (if ys.length < m then (zs, 3) else (⟨12, 0, -1, nb (ys.take m), m⟩, 0)) := by
    unfold dec
    rw [hg]
    simp
  rw [hy.len] at hD
  have KB : Hid (∀ W, Below w.heap.size w W → Calls Tryz.prog 208 #[.slice A n c, .int .i64 0, (Sp.mk 12 0 (-1) 0 0).val, .int .i64 m] W fun e w' => e = .returned (.tuple #[(dec ys 98 m).1.val, .int .i64 (dec ys 98 m).2]) ∧ Below W.heap.size W w') := by
    show ∀ W, _ → Calls _ _ _ _ _
    intro W hW
    rw [hD]
    by_cases h : n < m
    · rw [if_pos h]
      exact behind_long A n c 0 m _ W hn (by omega) hm4 (by omega)
    · rw [if_neg h]
      have := behind_some A n c 0 m ys ⟨12, 0, -1, 0, 0⟩ W (hy.below hW (Nat.le_refl _)) hn (by omega) hz (by omega)
      simpa using this
  generalize dec ys 98 m = d at *
  obtain ⟨⟨d1, d2, d3, d4, d5⟩, d6⟩ := d
  have HD := Lib.hid (Dv.new w 98 m)
  clear hg hz hD hy
  go_enter Tryz.func159, Tryz.ntmps159
  go_wp2_with (first
    | (go_at_call 207; refine (KI _).out.mono ?_; rintro e w1 ⟨rfl, hb1⟩; have hD1 := HD.out.below hb1; have o0 := hD1.o0; have o1 := hD1.o1; have HD1 := Lib.hid hD1; clear hD1 hb1)
    | (go_at_call 208; refine (KB.out _ HD1.out.bel).mono ?_; rintro e w2 ⟨rfl, hb2⟩; have hD2 := HD1.out.below hb2; have r0 := hD2.r0; have r1 := hD2.r1; have r2 := hD2.r2; have r3 := hD2.r3; have r4 := hD2.r4; have rf := hD2.rf; have HD2 := Lib.hid hD2; clear hD2 hb2))
  exact bodyPost_ret (v := .tuple #[(Sp.mk d1 d2 d3 d4 d5).val, .int .i64 d6]) (by simp [results, Tryz.results159, go_sem, r0, r1, r2, r3, r4]) rfl ⟨rfl, HD2.out.fin _ _ _ _ _⟩

theorem By.c0 {w : World} {A : Option Addr} {n c : Nat} {x : Int} {t : List Int} (h : By w A n c (x :: t)) : ∃ ad, A = some ad ∧ ad.block < w.heap.size ∧ Hid (∀ W, Below w.heap.size w W → W.cell? ad = some (.int .u8 x)) := by
  obtain ⟨ad, e, hl, hc⟩ := h.src (by simp)
  refine ⟨ad, e, hl, fun W hW => ?_⟩
  rw [hW.cell hl]
  exact hc 0 _ rfl
theorem By.c1 {w : World} {ad : Addr} {n c : Nat} {x y : Int} {t : List Int} (h : By w (some ad) n c (x :: y :: t)) : Hid (∀ W, Below w.heap.size w W → W.cell? ⟨ad.block, ad.off + 1, none⟩ = some (.int .u8 y)) := by
  obtain ⟨ad', e, hl, hc⟩ := h.src (by simp)
  injection e with e
  subst e
  intro W hW
  rw [hW.cell (p := ⟨ad.block, ad.off + 1, none⟩) hl]
  exact hc 1 _ rfl

set_option maxHeartbeats 400000 in
set_option maxRecDepth 100000 in
theorem decode_nil (A : Option Addr) (c : Nat) (a z : Int) (w : World) (ha : 0 ≤ a ∧ a < 256) (hg : gd a z = true) (h98 : a ≠ 98) :
    Calls Tryz.prog 159 #[.slice A 0 c, opv a z] w fun e w' => e = .returned (.tuple #[zs.val, .int .i64 3]) ∧ Below w.heap.size w w' := by
  have KI := fun w => Lib.hid (is_any a z ha w)
  rw [hg] at KI
  have HD := Lib.hid (Dv.new w a z)
  have g98 : (a == 98) = false := by simpa using h98
  clear hg h98
  go_enter Tryz.func159, Tryz.ntmps159
  go_wp2_with (go_at_call 207; refine (KI _).out.mono ?_; rintro e w1 ⟨rfl, hb1⟩; have hD1 := HD.out.below hb1; have o0 := hD1.o0; have r0 := hD1.r0; have r1 := hD1.r1; have r2 := hD1.r2; have r3 := hD1.r3; have r4 := hD1.r4; have rf := hD1.rf; have HD1 := Lib.hid hD1; clear hD1 hb1)
  exact bodyPost_ret (v := .tuple #[zs.val, .int .i64 3]) (by simp [results, Tryz.results159, go_sem, zs, r0, r1, r2, r3, r4]) rfl ⟨rfl, HD1.out.fin _ _ _ _ _⟩

set_option maxHeartbeats 400000 in
set_option maxRecDepth 100000 in
theorem decode_ix (A : Option Addr) (n c : Nat) (x : Int) (t : List Int) (a z : Int) (w : World) (hy : By w A n c (x :: t)) (hn : n ≤ 1000000) (ha : 0 ≤ a ∧ a < 256) (hg : gd a z = true) (h98 : a ≠ 98) (hx : x / 16 = 4) (hc : x % 16 = 15 ∨ n = 1) :
    Calls Tryz.prog 159 #[.slice A n c, opv a z] w fun e w' => e = .returned (.tuple #[if x % 16 = 15 then (bd 1).val else zs.val, .int .i64 (if x % 16 = 15 then 0 else 3)]) ∧ Below w.heap.size w w' := by
  have KI := fun w => Lib.hid (is_any a z ha w)
  rw [hg] at KI
  have KR := fun w => Lib.hid (register_any x hy.byt.hd w)
  have KD := fun w => Lib.hid (bad_any 1 w)
  have HD := Lib.hid (Dv.new w a z)
  have g98 : (a == 98) = false := by simpa using h98
  have hl : (0 : Int) < (n : Int) := by have := hy.len; simp at this; omega
  obtain ⟨ad, rfl, _, HX⟩ := hy.c0
  obtain ⟨x0, x1⟩ := hy.byt.hd
  clear hg h98 hy
  by_cases h15 : x % 16 = 15
  · simp only [if_pos h15]
    rw [h15] at KR
    clear hc h15
    go_enter Tryz.func159, Tryz.ntmps159
    go_wp2_with (first
      | (go_at_call 207; refine (KI _).out.mono ?_; rintro e w1 ⟨rfl, hb1⟩; have hD1 := HD.out.below hb1; have o0 := hD1.o0; have hcx := HX.out _ hD1.bel; have HD1 := Lib.hid hD1; clear hD1 hb1)
      | (go_at_call 209; refine (KR _).out.mono ?_; rintro e w' ⟨rfl, rfl⟩)
      | (go_at_call 210; refine (KD _).out.mono ?_; rintro e w2 ⟨rfl, hb2⟩; have hD2 := HD1.out.below hb2; have r0 := hD2.r0; have r1 := hD2.r1; have r2 := hD2.r2; have r3 := hD2.r3; have r4 := hD2.r4; have rf := hD2.rf; have HD2 := Lib.hid hD2; clear hD2 hb2))
    exact bodyPost_ret (v := .tuple #[(bd 1).val, .int .i64 0]) (by simp [results, Tryz.results159, go_sem, bd, r0, r1, r2, r3, r4]) rfl ⟨rfl, HD2.out.fin _ _ _ _ _⟩
  · simp only [if_neg h15]
    obtain rfl : n = 1 := by omega
    have g15 : (x % 16 == 15) = false := by simpa using h15
    clear hc h15
    generalize x % 16 = r at *
    go_enter Tryz.func159, Tryz.ntmps159
    go_wp2_with (first
      | (go_at_call 207; refine (KI _).out.mono ?_; rintro e w1 ⟨rfl, hb1⟩; have hD1 := HD.out.below hb1; have o0 := hD1.o0; have hcx := HX.out _ hD1.bel; have r0 := hD1.r0; have r1 := hD1.r1; have r2 := hD1.r2; have r3 := hD1.r3; have r4 := hD1.r4; have rf := hD1.rf; have HD1 := Lib.hid hD1; clear hD1 hb1)
      | (go_at_call 209; refine (KR _).out.mono ?_; rintro e w' ⟨rfl, rfl⟩))
    exact bodyPost_ret (v := .tuple #[zs.val, .int .i64 3]) (by simp [results, Tryz.results159, go_sem, zs, r0, r1, r2, r3, r4]) rfl ⟨rfl, HD1.out.fin _ _ _ _ _⟩

end Go.Proofs.YteohkobdmkbcpaaGreatDoor.Bt.Es

/- Contracts of package spec: Decode, of a byte and what is behind. -/
namespace Go.Proofs.YteohkobdmkbcpaaGreatDoor.Bt.Es
open Go.RowKit Tl

/-- .. and a specifier in a variable. -/
structure Ev (w : World) (a z : Int) (g : Nat) (s : Sp) (W : World) : Prop where
  dv : Dv w a z W
  var : Bk W g 151 s.cells
  far : w.heap.size + 1 < g
section
variable {w W V : World} {a z : Int} {g : Nat} {s : Sp}
theorem Ev.below (h : Ev w a z g s W) (b : Below W.heap.size W V) : Ev w a z g s V := ⟨h.dv.below b, h.var.below b (Nat.le_refl _), h.far⟩
theorem Ev.new (h : Dv w a z W) (b : Below W.heap.size W V) (k r i x n : Int) : Ev w a z V.heap.size ⟨k, r, i, x, n⟩ (V.alloc (.cells #[.int .i64 k, .int .i64 r, .int .i64 i, .int .u32 x, .int .i64 n] 151)) :=
  ⟨h.below (bel2 b (al1 _ _)), Bk.new V _ [.int .i64 k, .int .i64 r, .int .i64 i, .int .u32 x, .int .i64 n], by have := h.lt; have := b.size; omega⟩

theorem Ev.put (h : Dv w a z W) {b0 b1 b2 b3 b4 : Value} (hb : Bk W g 151 [b0, b1, b2, b3, b4]) (hg : w.heap.size + 1 < g) (k r i x n : Int) :
    Ev w a z g ⟨k, r, i, x, n⟩ (((((W.setCell ⟨g, 0, none⟩ (.int .i64 k)).setCell ⟨g, 1, none⟩ (.int .i64 r)).setCell ⟨g, 2, none⟩ (.int .i64 i)).setCell ⟨g, 3, none⟩ (.int .u32 x)).setCell ⟨g, 4, none⟩ (.int .i64 n)) :=
  ⟨⟨((((h.opr.far (by omega) 0 _).far (by omega) 1 _).far (by omega) 2 _).far (by omega) 3 _).far (by omega) 4 _, ((((h.res.far (by omega) 0 _).far (by omega) 1 _).far (by omega) 2 _).far (by omega) 3 _).far (by omega) 4 _, by
    iterate 5 refine Below.setCell ?_ (by simp; omega) _
    exact h.bel⟩, ((((hb.set 0 _).set 1 _).set 2 _).set 3 _).set 4 _, hg⟩
theorem Ev.ix (h : Ev w a z g s W) (i : Int) : Ev w a z g ⟨s.k, s.r, i, s.x, s.n⟩ (W.setCell ⟨g, 2, none⟩ (.int .i64 i)) := by
  have := h.far
  exact ⟨⟨h.dv.opr.far (by omega) 2 _, h.dv.res.far (by omega) 2 _, Below.setCell h.dv.bel (by simp; omega) _⟩, h.var.set 2 _, h.far⟩
theorem Ev.v0 (h : Ev w a z g s W) : W.cell? ⟨g, 0, none⟩ = some (.int .i64 s.k) := h.var.cell 0 _ rfl
theorem Ev.v1 (h : Ev w a z g s W) : W.cell? ⟨g, 1, none⟩ = some (.int .i64 s.r) := h.var.cell 1 _ rfl
theorem Ev.v2 (h : Ev w a z g s W) : W.cell? ⟨g, 2, none⟩ = some (.int .i64 s.i) := h.var.cell 2 _ rfl
theorem Ev.v3 (h : Ev w a z g s W) : W.cell? ⟨g, 3, none⟩ = some (.int .u32 s.x) := h.var.cell 3 _ rfl
theorem Ev.v4 (h : Ev w a z g s W) : W.cell? ⟨g, 4, none⟩ = some (.int .i64 s.n) := h.var.cell 4 _ rfl
theorem Ev.vf (h : Ev w a z g s W) : ∀ i, W.frozen? ⟨g, i, none⟩ = false := h.var.free
end

theorem far5 {W : World} {p : Addr} {q : Nat} {v a0 a1 a2 a3 a4 : Value} (hne : p.block ≠ q) (h : W.cell? p = some v) :
    (((((W.setCell ⟨q, 0, none⟩ a0).setCell ⟨q, 1, none⟩ a1).setCell ⟨q, 2, none⟩ a2).setCell ⟨q, 3, none⟩ a3).setCell ⟨q, 4, none⟩ a4).cell? p = some v := by
  simp only [World.cell?, World.setCell] at h ⊢
  simp only [Array.getElem?_modify]
  simp only [if_neg (show ¬ q = p.block from fun e => hne e.symm)]
  exact h

/-- what behind answers, in all -/
theorem behind_fin (A : Option Addr) (n c p : Nat) (ys : List Int) (x a z i : Int) (w : World) (hy : By w A n c ys) (hn : n ≤ 1000000) (hz : Sz z) (hp : p ≤ 2) (hpn : p ≤ n) (hc : cn (hd x z).k (hd x z).r i a = true) :
    Calls Tryz.prog 208 #[.slice A n c, .int .i64 p, (Sp.mk (hd x z).k (hd x z).r i (hd x z).v 0).val, .int .i64 (hd x z).w] w fun e w' => e = .returned (.tuple #[(fin x (ys.drop p) a z i p).1.val, .int .i64 (fin x (ys.drop p) a z i p).2]) ∧ Below w.heap.size w w' := by
  have hw := hd_w (x := x) hz
  have hw2 : (hd x z).w = 0 ∨ Sz (hd x z).w := by
    unfold hd
    rcases hz with rfl | rfl | rfl <;> (repeat' split) <;> simp [Sz]
  have hl : (ys.drop p).length = n - p := by rw [List.length_drop, hy.len]
  unfold fin
  rw [if_pos hc, hl]
  generalize (hd x z).w = m at *
  by_cases h : n - p < m
  · rw [if_pos h]
    exact behind_long A n c p m _ w hn hp hw (by omega)
  · rw [if_neg h]
    by_cases h0 : m = 0
    · subst h0
      simp only [if_pos]
      have := behind_none A n c p ⟨(hd x z).k, (hd x z).r, i, (hd x z).v, 0⟩ w hp hpn
      simpa using this
    · simp only [if_neg h0]
      exact behind_some A n c p m ys ⟨(hd x z).k, (hd x z).r, i, (hd x z).v, 0⟩ w hy hn hp (hw2.resolve_left h0) (by omega)

set_option maxHeartbeats 1600000 in
set_option maxRecDepth 100000 in
theorem decode_0 (A : Option Addr) (n c : Nat) (x : Int) (t : List Int) (a z : Int) (w : World) (hy : By w A n c (x :: t)) (hn : n ≤ 1000000) (ha : 0 ≤ a ∧ a < 256) (hg : gd a z = true) (h98 : a ≠ 98) (hx : x / 16 ≠ 4) :
    Calls Tryz.prog 159 #[.slice A n c, opv a z] w fun e w' => e = .returned (.tuple #[(fin x t a z (-1) 1).1.val, .int .i64 (fin x t a z (-1) 1).2]) ∧ Below w.heap.size w w' := by
  have KI := fun w => Lib.hid (is_any a z ha w)
  rw [hg] at KI
  have hz := gd_sz hg
  have KH := fun w => Lib.hid (head_any x z hy.byt.hd hz w)
  have KC := fun w => Lib.hid (can_any ⟨(hd x z).k, (hd x z).r, -1, (hd x z).v, 0⟩ a w)
  have KD := fun w => Lib.hid (bad_any 1 w)
  have hl : (0 : Int) < (n : Int) := by have := hy.len; simp at this; omega
  have KB : Hid (∀ W, Below w.heap.size w W → cn (hd x z).k (hd x z).r (-1) a = true → Calls Tryz.prog 208 #[.slice A n c, .int .i64 1, (Sp.mk (hd x z).k (hd x z).r (-1) (hd x z).v 0).val, .int .i64 (hd x z).w] W fun e w' => e = .returned (.tuple #[(fin x t a z (-1) 1).1.val, .int .i64 (fin x t a z (-1) 1).2]) ∧ Below W.heap.size W w') := by
    show ∀ W, _ → _ → Calls _ _ _ _ _
    intro W hW hc
    exact behind_fin A n c 1 (x :: t) x a z (-1) W (hy.below hW (Nat.le_refl _)) hn hz (by omega) (by omega) hc
  have KN : Hid (cn (hd x z).k (hd x z).r (-1) a = false → fin x t a z (-1) 1 = (bd 1, 0)) := Lib.hid (fun h => by unfold fin; rw [if_neg (by rw [h]; simp)])
  have HD := Lib.hid (Dv.new w a z)
  have g98 : (a == 98) = false := by simpa using h98
  have gx : (x / 16 == 4) = false := by simpa using hx
  have g0 : ¬ (n : Int) ≤ 0 := by omega
  obtain ⟨ad, rfl, had, HX⟩ := hy.c0
  obtain ⟨x0, x1⟩ := hy.byt.hd
  clear hg h98 hy hx hz
  simp only [Sp.can, Hd.sp] at KC KH
  obtain ⟨b, hb⟩ : ∃ b, cn (hd x z).k (hd x z).r (-1) a = b := ⟨_, rfl⟩
  rw [hb] at KB KN KC
  generalize hd x z = h at *
  obtain ⟨hk, hr, hv, hw⟩ := h
  generalize fin x t a z (-1) 1 = d at *
  obtain ⟨⟨d1, d2, d3, d4, d5⟩, d6⟩ := d
  clear hb
  go_enter Tryz.func159, Tryz.ntmps159
  go_wp2_with (first
      | (go_at_call 207; refine (KI _).out.mono ?_; rintro e w1 ⟨rfl, hb1⟩; have hD1 := HD.out.below hb1; have o0 := hD1.o0; have hcx := HX.out _ hD1.bel; have HD1 := Lib.hid hD1; clear hD1 hb1))
  have o1 := HD1.out.o1
  have o1d : w1.drew.cell? ⟨w.heap.size, 1, none⟩ = some (.int .i64 z) := o1
  have hcxd : w1.drew.cell? ad = some (.int .u8 x) := hcx
  have HV : Hid (Bk (w1.alloc (.cells #[.int .i64 0, .int .i64 0, .int .i64 0, .int .u32 0, .int .i64 0] 151)).drew w1.heap.size 151 [.int .i64 0, .int .i64 0, .int .i64 0, .int .u32 0, .int .i64 0]) := Bk.new w1 _ [.int .i64 0, .int .i64 0, .int .i64 0, .int .u32 0, .int .i64 0]
  have hn1 : (⟨w.heap.size, 1, none⟩ : Addr).block ≠ w1.heap.size := by have := HD1.out.lt; simp; omega
  have hn2 : ad.block ≠ w1.heap.size := by have := HD1.out.lt; omega
  go_region_held3 (fun w' => w'.cell? ⟨w.heap.size, 1, none⟩ = some (.int .i64 z) ∧ w'.cell? ad = some (.int .u8 x))
    (first | (with_reducible exact ⟨z1, zx⟩) | (with_reducible exact ⟨far5 hn1 z1, far5 hn2 zx⟩) | (with_reducible exact ⟨o1d, hcxd⟩) | (with_reducible exact ⟨o1, hcx⟩) | go_keep)
    ((go_at_call 211; refine (KH _).out.mono ?_; rintro e w3 ⟨rfl, hb3⟩; have hD3 : Dv w a z w3 := Dv.below HD1.out (bel2 (by go_grown) hb3); have z1 := hD3.o1; have zx := HX.out w3 hD3.bel; (first | (have hv3 := Bk.below HV.out hb3 (Nat.le_refl _); have v0 := hv3.cell 0 _ rfl; have v1 := hv3.cell 1 _ rfl; have v2 := hv3.cell 2 _ rfl; have v3 := hv3.cell 3 _ rfl; have v4 := hv3.cell 4 _ rfl; have vf := hv3.free; have hvl := hv3.lt) | skip)))
  all_goals
    have hlt := HD1.out.lt
    have hE1 := Ev.new hD3 (Below.refl _ _) hk hr 0 hv 0
    try have hE2 := Ev.put hD3 hv3 hlt hk hr 0 hv 0
    first
      | (generalize w1.heap.size = g at *
         generalize (((((w3.setCell ⟨g, 0, none⟩ (.int .i64 hk)).setCell ⟨g, 1, none⟩ (.int .i64 hr)).setCell ⟨g, 2, none⟩ (.int .i64 0)).setCell ⟨g, 3, none⟩ (.int .u32 hv)).setCell ⟨g, 4, none⟩ (.int .i64 0)) = V at *
         have hE := hE2
         clear hE2)
      | (generalize w3.heap.size = g at *
         generalize (w3.alloc (.cells #[.int .i64 hk, .int .i64 hr, .int .i64 0, .int .u32 hv, .int .i64 0] 151)) = V at *
         have hE := hE1)
    clear hE1
    clear hD3 z1 zx hb3 hlt
    try clear v0 v1 v2 v3 v4 vf hvl hv3
    have v0 := hE.v0
    have v1 := hE.v1
    have v2 := hE.v2
    have v3 := hE.v3
    have v4 := hE.v4
    have vf := hE.vf
    have ov := hE.dv.o0
    have hfar := hE.far
    have HE := Lib.hid (hE.ix (-1))
    have HE0 := Lib.hid hE
    clear hE
    simp only at v0 v1 v2 v3 v4
    clear o0 hcx HD1 HV HD o1 o1d hcxd hn1 hn2 KI KH
    go_wp2_with fail
    refine (KC _).out.mono ?_
    rintro e w4 ⟨rfl, hb4⟩
    clear v0 v1 v2 v3 v4 vf ov
    have hE4 := HE.out.below hb4
    have v0 := hE4.v0
    have v1 := hE4.v1
    have v2 := hE4.v2
    have v3 := hE4.v3
    have v4 := hE4.v4
    simp only at v0 v1 v2 v3 v4
    have HE4 := Lib.hid hE4
    clear hE4 hb4 KC HE HE0
    cases b
    · obtain ⟨⟨rfl, rfl, rfl, rfl, rfl⟩, rfl⟩ : (d1 = 14 ∧ d2 = 0 ∧ d3 = -1 ∧ d4 = 0 ∧ d5 = 1) ∧ d6 = 0 := by
        have := KN.out rfl
        simpa [bd] using this
      go_wp2_with (go_at_call 210; refine (KD _).out.mono ?_; rintro e w5 ⟨rfl, hb5⟩; have hD5 := HE4.out.dv.below hb5; have r0 := hD5.r0; have r1 := hD5.r1; have r2 := hD5.r2; have r3 := hD5.r3; have r4 := hD5.r4; have rf := hD5.rf; have HD5 := Lib.hid hD5; clear hD5 hb5)
      exact bodyPost_ret (v := .tuple #[(bd 1).val, .int .i64 0]) (by simp [results, Tryz.results159, go_sem, bd, r0, r1, r2, r3, r4]) rfl ⟨rfl, HD5.out.fin _ _ _ _ _⟩
    · go_wp2_with (go_at_call 208; refine (KB.out _ HE4.out.dv.bel trivial).mono ?_; rintro e w5 ⟨rfl, hb5⟩; have hD5 := HE4.out.dv.below hb5; have r0 := hD5.r0; have r1 := hD5.r1; have r2 := hD5.r2; have r3 := hD5.r3; have r4 := hD5.r4; have rf := hD5.rf; have HD5 := Lib.hid hD5; clear hD5 hb5)
      exact bodyPost_ret (v := .tuple #[(Sp.mk d1 d2 d3 d4 d5).val, .int .i64 d6]) (by simp [results, Tryz.results159, go_sem, r0, r1, r2, r3, r4]) rfl ⟨rfl, HD5.out.fin _ _ _ _ _⟩

set_option maxHeartbeats 1600000 in
set_option maxRecDepth 100000 in
theorem decode_1 (A : Option Addr) (n c : Nat) (x y : Int) (t : List Int) (a z : Int) (w : World) (hy : By w A n c (x :: y :: t)) (hn : n ≤ 1000000) (ha : 0 ≤ a ∧ a < 256) (hg : gd a z = true) (h98 : a ≠ 98) (hx : x / 16 = 4) (h15 : x % 16 ≠ 15) :
    Calls Tryz.prog 159 #[.slice A n c, opv a z] w fun e w' => e = .returned (.tuple #[(fin y t a z (x % 16) 2).1.val, .int .i64 (fin y t a z (x % 16) 2).2]) ∧ Below w.heap.size w w' := by
  have KI := fun w => Lib.hid (is_any a z ha w)
  rw [hg] at KI
  have hz := gd_sz hg
  have KH := fun w => Lib.hid (head_any y z hy.byt.tl.hd hz w)
  have KC := fun w => Lib.hid (can_any ⟨(hd y z).k, (hd y z).r, x % 16, (hd y z).v, 0⟩ a w)
  have KD := fun w => Lib.hid (bad_any 2 w)
  have hl : (1 : Int) < (n : Int) := by have := hy.len; simp at this; omega
  have KB : Hid (∀ W, Below w.heap.size w W → cn (hd y z).k (hd y z).r (x % 16) a = true → Calls Tryz.prog 208 #[.slice A n c, .int .i64 2, (Sp.mk (hd y z).k (hd y z).r (x % 16) (hd y z).v 0).val, .int .i64 (hd y z).w] W fun e w' => e = .returned (.tuple #[(fin y t a z (x % 16) 2).1.val, .int .i64 (fin y t a z (x % 16) 2).2]) ∧ Below W.heap.size W w') := by
    show ∀ W, _ → _ → Calls _ _ _ _ _
    intro W hW hc
    exact behind_fin A n c 2 (x :: y :: t) y a z (x % 16) W (hy.below hW (Nat.le_refl _)) hn hz (by omega) (by omega) hc
  have KN : Hid (cn (hd y z).k (hd y z).r (x % 16) a = false → fin y t a z (x % 16) 2 = (bd 2, 0)) := Lib.hid (fun h => by unfold fin; rw [if_neg (by rw [h]; simp)])
  have HD := Lib.hid (Dv.new w a z)
  have g98 : (a == 98) = false := by simpa using h98
  have g15 : (x % 16 == 15) = false := by simpa using h15
  have KR := fun w => Lib.hid (register_any x hy.byt.hd w)
  have g0 : ¬ (n : Int) ≤ 1 := by omega
  obtain ⟨ad, rfl, had, HX⟩ := hy.c0
  have HY := hy.c1
  obtain ⟨x0, x1⟩ := hy.byt.hd
  obtain ⟨y0, y1⟩ := hy.byt.tl.hd
  clear hg h98 hy hz h15
  generalize x % 16 = r at *
  simp only [Sp.can, Hd.sp] at KC KH
  obtain ⟨b, hb⟩ : ∃ b, cn (hd y z).k (hd y z).r r a = b := ⟨_, rfl⟩
  rw [hb] at KB KN KC
  generalize hd y z = h at *
  obtain ⟨hk, hr, hv, hw⟩ := h
  generalize fin y t a z r 2 = d at *
  obtain ⟨⟨d1, d2, d3, d4, d5⟩, d6⟩ := d
  clear hb
  go_enter Tryz.func159, Tryz.ntmps159
  go_wp2_with (first
      | (go_at_call 207; refine (KI _).out.mono ?_; rintro e w1 ⟨rfl, hb1⟩; have hD1 := HD.out.below hb1; have o0 := hD1.o0; have hcx := HX.out _ hD1.bel; have HD1 := Lib.hid hD1; clear hD1 hb1)
      | (go_at_call 209; refine (KR _).out.mono ?_; rintro e w' ⟨rfl, rfl⟩))
  have o1 := HD1.out.o1
  have hcy := HY.out _ HD1.out.bel
  have o1d : w1.drew.cell? ⟨w.heap.size, 1, none⟩ = some (.int .i64 z) := o1
  have hcxd : w1.drew.cell? ⟨ad.block, ad.off + 1, none⟩ = some (.int .u8 y) := hcy
  have HV : Hid (Bk (w1.alloc (.cells #[.int .i64 0, .int .i64 0, .int .i64 0, .int .u32 0, .int .i64 0] 151)).drew w1.heap.size 151 [.int .i64 0, .int .i64 0, .int .i64 0, .int .u32 0, .int .i64 0]) := Bk.new w1 _ [.int .i64 0, .int .i64 0, .int .i64 0, .int .u32 0, .int .i64 0]
  have hn1 : (⟨w.heap.size, 1, none⟩ : Addr).block ≠ w1.heap.size := by have := HD1.out.lt; simp; omega
  have hn2 : (⟨ad.block, ad.off + 1, none⟩ : Addr).block ≠ w1.heap.size := by have := HD1.out.lt; simp; omega
  go_region_held3 (fun w' => w'.cell? ⟨w.heap.size, 1, none⟩ = some (.int .i64 z) ∧ w'.cell? ⟨ad.block, ad.off + 1, none⟩ = some (.int .u8 y))
    (first | (with_reducible exact ⟨z1, zx⟩) | (with_reducible exact ⟨far5 hn1 z1, far5 hn2 zx⟩) | (with_reducible exact ⟨o1d, hcxd⟩) | (with_reducible exact ⟨o1, hcy⟩) | go_keep)
    ((go_at_call 211; refine (KH _).out.mono ?_; rintro e w3 ⟨rfl, hb3⟩; have hD3 : Dv w a z w3 := Dv.below HD1.out (bel2 (by go_grown) hb3); have z1 := hD3.o1; have zx := HY.out w3 hD3.bel; (first | (have hv3 := Bk.below HV.out hb3 (Nat.le_refl _); have v0 := hv3.cell 0 _ rfl; have v1 := hv3.cell 1 _ rfl; have v2 := hv3.cell 2 _ rfl; have v3 := hv3.cell 3 _ rfl; have v4 := hv3.cell 4 _ rfl; have vf := hv3.free; have hvl := hv3.lt) | skip)))
  all_goals
    have hlt := HD1.out.lt
    have hE1 := Ev.new hD3 (Below.refl _ _) hk hr 0 hv 0
    try have hE2 := Ev.put hD3 hv3 hlt hk hr 0 hv 0
    first
      | (generalize w1.heap.size = g at *
         generalize (((((w3.setCell ⟨g, 0, none⟩ (.int .i64 hk)).setCell ⟨g, 1, none⟩ (.int .i64 hr)).setCell ⟨g, 2, none⟩ (.int .i64 0)).setCell ⟨g, 3, none⟩ (.int .u32 hv)).setCell ⟨g, 4, none⟩ (.int .i64 0)) = V at *
         have hE := hE2
         clear hE2)
      | (generalize w3.heap.size = g at *
         generalize (w3.alloc (.cells #[.int .i64 hk, .int .i64 hr, .int .i64 0, .int .u32 hv, .int .i64 0] 151)) = V at *
         have hE := hE1)
    clear hE1
    clear hD3 z1 zx hb3 hlt
    try clear v0 v1 v2 v3 v4 vf hvl hv3
    have v0 := hE.v0
    have v1 := hE.v1
    have v2 := hE.v2
    have v3 := hE.v3
    have v4 := hE.v4
    have vf := hE.vf
    have ov := hE.dv.o0
    have hfar := hE.far
    have HE := Lib.hid (hE.ix r)
    have HE0 := Lib.hid hE
    clear hE
    simp only at v0 v1 v2 v3 v4
    clear o0 hcx hcy HD1 HV HD o1 o1d hcxd hn1 hn2 KI KH
    go_wp2_with fail
    refine (KC _).out.mono ?_
    rintro e w4 ⟨rfl, hb4⟩
    clear v0 v1 v2 v3 v4 vf ov
    have hE4 := HE.out.below hb4
    have v0 := hE4.v0
    have v1 := hE4.v1
    have v2 := hE4.v2
    have v3 := hE4.v3
    have v4 := hE4.v4
    simp only at v0 v1 v2 v3 v4
    have HE4 := Lib.hid hE4
    clear hE4 hb4 KC HE HE0
    cases b
    · obtain ⟨⟨rfl, rfl, rfl, rfl, rfl⟩, rfl⟩ : (d1 = 14 ∧ d2 = 0 ∧ d3 = -1 ∧ d4 = 0 ∧ d5 = 2) ∧ d6 = 0 := by
        have := KN.out rfl
        simpa [bd] using this
      go_wp2_with (go_at_call 210; refine (KD _).out.mono ?_; rintro e w5 ⟨rfl, hb5⟩; have hD5 := HE4.out.dv.below hb5; have r0 := hD5.r0; have r1 := hD5.r1; have r2 := hD5.r2; have r3 := hD5.r3; have r4 := hD5.r4; have rf := hD5.rf; have HD5 := Lib.hid hD5; clear hD5 hb5)
      exact bodyPost_ret (v := .tuple #[(bd 2).val, .int .i64 0]) (by simp [results, Tryz.results159, go_sem, bd, r0, r1, r2, r3, r4]) rfl ⟨rfl, HD5.out.fin _ _ _ _ _⟩
    · go_wp2_with (go_at_call 208; refine (KB.out _ HE4.out.dv.bel trivial).mono ?_; rintro e w5 ⟨rfl, hb5⟩; have hD5 := HE4.out.dv.below hb5; have r0 := hD5.r0; have r1 := hD5.r1; have r2 := hD5.r2; have r3 := hD5.r3; have r4 := hD5.r4; have rf := hD5.rf; have HD5 := Lib.hid hD5; clear hD5 hb5)
      exact bodyPost_ret (v := .tuple #[(Sp.mk d1 d2 d3 d4 d5).val, .int .i64 d6]) (by simp [results, Tryz.results159, go_sem, r0, r1, r2, r3, r4]) rfl ⟨rfl, HD5.out.fin _ _ _ _ _⟩

end Go.Proofs.YteohkobdmkbcpaaGreatDoor.Bt.Es

/- Decode of both, all in one; what each statement of layer 11 asks first; the walks of SpecDecodes and SpecSizes. -/
namespace Go.Proofs.YteohkobdmkbcpaaGreatDoor.Bt.Es
open Go.RowKit Tl
set_option linter.unusedVariables false

theorem dec_arg {l : List Int} {a z : Int} (h : gd a z = false) : dec l a z = (zs, 1) := by unfold dec; rw [if_pos h]
theorem dec_nil {a z : Int} (h : gd a z = true) (h98 : a ≠ 98) : dec [] a z = (zs, 3) := by
  unfold dec; rw [if_neg (by simp [h]), if_neg h98]
theorem dec_0 {a z x : Int} {t : List Int} (h : gd a z = true) (h98 : a ≠ 98) (hx : x / 16 ≠ 4) : dec (x :: t) a z = fin x t a z (-1) 1 := by
  unfold dec; rw [if_neg (by simp [h]), if_neg h98]; simp only [if_neg hx]
theorem dec_15 {a z x : Int} {t : List Int} (h : gd a z = true) (h98 : a ≠ 98) (hx : x / 16 = 4) (h15 : x % 16 = 15) : dec (x :: t) a z = (bd 1, 0) := by
  unfold dec; rw [if_neg (by simp [h]), if_neg h98]; simp only [if_pos hx, if_pos h15]
theorem dec_short {a z x : Int} (h : gd a z = true) (h98 : a ≠ 98) (hx : x / 16 = 4) (h15 : x % 16 ≠ 15) : dec [x] a z = (zs, 3) := by
  unfold dec; rw [if_neg (by simp [h]), if_neg h98]; simp only [if_pos hx, if_neg h15]
theorem dec_1 {a z x y : Int} {u : List Int} (h : gd a z = true) (h98 : a ≠ 98) (hx : x / 16 = 4) (h15 : x % 16 ≠ 15) : dec (x :: y :: u) a z = fin y u a z (x % 16) 2 := by
  unfold dec; rw [if_neg (by simp [h]), if_neg h98]; simp only [if_pos hx, if_neg h15]

theorem decode_any (A : Option Addr) (n c : Nat) (ys : List Int) (a z : Int) (w : World) (hy : By w A n c ys) (hn : n ≤ 100000) (ha : 0 ≤ a ∧ a < 256) :
    Calls Tryz.prog 159 #[.slice A n c, opv a z] w fun e w' => e = .returned (.tuple #[(dec ys a z).1.val, .int .i64 (dec ys a z).2]) ∧ Below w.heap.size w w' := by
  by_cases hg : gd a z = true
  · by_cases h98 : a = 98
    · subst h98; exact decode_b A n c ys z w hy (by omega) hg
    · match ys, hy with
      | [], hy =>
        have hl := hy.len
        simp at hl
        subst hl
        rw [dec_nil hg h98]
        exact decode_nil A c a z w ha hg h98
      | x :: t, hy =>
        by_cases hx : x / 16 = 4
        · by_cases h15 : x % 16 = 15
          · have := decode_ix A n c x t a z w hy (by omega) ha hg h98 hx (.inl h15)
            simp only [if_pos h15] at this
            rw [dec_15 hg h98 hx h15]
            exact this
          · match t, hy with
            | [], hy =>
              have hl := hy.len
              simp at hl
              have := decode_ix A n c x [] a z w hy (by omega) ha hg h98 hx (.inr hl.symm)
              simp only [if_neg h15] at this
              rw [dec_short hg h98 hx h15]
              exact this
            | y :: u, hy =>
              rw [dec_1 hg h98 hx h15]
              exact decode_1 A n c x y u a z w hy (by omega) ha hg h98 hx h15
        · rw [dec_0 hg h98 hx]
          exact decode_0 A n c x t a z w hy (by omega) ha hg h98 hx
  · have hg : gd a z = false := by simpa using hg
    rw [dec_arg hg]
    exact decode_arg A n c a z w ha hg





end Go.Proofs.YteohkobdmkbcpaaGreatDoor.Bt.Es
