/- The document's Same, of what is encoded; the walk of SpecBack. -/
import Derived.Test.YtmhdhffpndiodaaEEnc4
import Derived.Test.YtmhdhffpndiodaaEWAlo
namespace Go.Proofs.Ytmhdhffpndiodaa.Cs
open Go.RowKit
set_option linter.unusedVariables false

/-- what is read of a specifier that was encoded -/
def tdn (s : Sp) (n : Int) : Sp := ⟨(td s).k, (td s).r, (td s).i, (td s).x, n⟩

set_option maxHeartbeats 6400000 in
theorem same_td (s : Sp) (n : Int) (w : World) :
    Calls Try.prog 12 #[s.val, (tdn s n).val] w fun e w' => e = .returned (.bool true) ∧ Below w.heap.size w w' := by
  obtain ⟨k, r, i, x, m⟩ := s
  obtain ⟨t, ht⟩ : ∃ t, tdn ⟨k, r, i, x, m⟩ n = t := ⟨_, rfl⟩
  rw [ht]
  unfold tdn td at ht
  simp only at ht
  obtain ⟨j, hj⟩ : ∃ j, max i (-1) = j := ⟨_, rfl⟩
  rw [hj] at ht
  have hi : (i < 0 ∧ j = -1) ∨ (¬ i < 0 ∧ j = i) := by omega
  clear hj
  have HT := Lib.hid ht
  clear ht
  have hk : k = 0 ∨ k = 12 ∨ k = 13 ∨ (5 ≤ k ∧ k ≤ 9) ∨ (k ≠ 0 ∧ k ≠ 12 ∧ k ≠ 13 ∧ ¬ (5 ≤ k ∧ k ≤ 9)) := by omega
  rcases hk with rfl | rfl | rfl | ⟨k5, k9⟩ | ⟨h1, h2, h3, h4⟩
  case inr.inr.inr.inl =>
    have ht := HT.out
    rw [if_neg (by omega), if_pos ⟨k5, k9⟩] at ht
    clear HT
    by_cases hx : x = 0
    · subst hx
      subst ht
      rcases hi with ⟨hi, rfl⟩ | ⟨hi, rfl⟩
      all_goals
        go_enter Try.func12, Try.ntmps12
        go_wp2
        go_ret
        exact ⟨rfl, by go_grown⟩
    · have gx : (x == 0) = false := by simpa using hx
      subst ht
      clear hx
      rcases hi with ⟨hi, rfl⟩ | ⟨hi, rfl⟩
      all_goals
        go_enter Try.func12, Try.ntmps12
        go_wp2
        go_ret
        exact ⟨rfl, by go_grown⟩
  case inr.inr.inr.inr =>
    have ht := HT.out
    rw [if_neg (by omega), if_neg (by omega)] at ht
    clear HT h1 h2 h3 h4
    subst ht
    rcases hi with ⟨hi, rfl⟩ | ⟨hi, rfl⟩
    all_goals
      go_enter Try.func12, Try.ntmps12
      go_wp2
      go_ret
      exact ⟨rfl, by go_grown⟩
  all_goals
    have ht := HT.out
    rw [if_pos (by omega), if_neg (by omega)] at ht
    clear HT
    by_cases hr : r = 0
    · subst hr
      subst ht
      rcases hi with ⟨hi, rfl⟩ | ⟨hi, rfl⟩
      all_goals
        go_enter Try.func12, Try.ntmps12
        go_wp2
        go_ret
        exact ⟨rfl, by go_grown⟩
    · have gr : (r == 0) = false := by simpa using hr
      subst ht
      clear hr
      rcases hi with ⟨hi, rfl⟩ | ⟨hi, rfl⟩
      all_goals
        go_enter Try.func12, Try.ntmps12
        go_wp2
        go_ret
        exact ⟨rfl, by go_grown⟩

/-- The variables of SpecBack: its specifier, its operand. -/
structure B2 (w : World) (s : Sp) (a z : Int) (W : World) : Prop where
  sb : Bk W w.heap.size 28 s.cells
  ob : Bk W (w.heap.size + 1) 24 [.int .u8 a, .int .i64 z]
  bel : Below w.heap.size w W
section
variable {w W V : World} {s t : Sp} {a z : Int} {h : Nat}
theorem B2.below (l : B2 w s a z W) (b : Below W.heap.size W V) : B2 w s a z V := ⟨l.sb.below b (Nat.le_refl _), l.ob.below b (Nat.le_refl _), bel2 l.bel b⟩
theorem B2.new (w : World) (k r i x n a z : Int) : B2 w ⟨k, r, i, x, n⟩ a z ((w.alloc (.cells #[.int .i64 k, .int .i64 r, .int .i64 i, .int .u32 x, .int .i64 n] 28)).alloc (.cells #[.int .u8 a, .int .i64 z] 24)) :=
  ⟨(Bk.new w _ [.int .i64 k, .int .i64 r, .int .i64 i, .int .u32 x, .int .i64 n]).below (al1 _ _) (Nat.le_refl _), by
    have := Bk.new (w.alloc (.cells #[.int .i64 k, .int .i64 r, .int .i64 i, .int .u32 x, .int .i64 n] 28)) 24 [.int .u8 a, .int .i64 z]
    simp at this
    exact this, bel2 (al1 _ _) (al1 _ _)⟩
theorem B2.o0 (l : B2 w s a z W) : W.cell? ⟨w.heap.size + 1, 0, none⟩ = some (.int .u8 a) := l.ob.cell 0 _ rfl
theorem B2.o1 (l : B2 w s a z W) : W.cell? ⟨w.heap.size + 1, 1, none⟩ = some (.int .i64 z) := l.ob.cell 1 _ rfl
theorem B2.s0 (l : B2 w s a z W) : W.cell? ⟨w.heap.size, 0, none⟩ = some (.int .i64 s.k) := l.sb.cell 0 _ rfl
theorem B2.s1 (l : B2 w s a z W) : W.cell? ⟨w.heap.size, 1, none⟩ = some (.int .i64 s.r) := l.sb.cell 1 _ rfl
theorem B2.s2 (l : B2 w s a z W) : W.cell? ⟨w.heap.size, 2, none⟩ = some (.int .i64 s.i) := l.sb.cell 2 _ rfl
theorem B2.s3 (l : B2 w s a z W) : W.cell? ⟨w.heap.size, 3, none⟩ = some (.int .u32 s.x) := l.sb.cell 3 _ rfl
theorem B2.s4 (l : B2 w s a z W) : W.cell? ⟨w.heap.size, 4, none⟩ = some (.int .i64 s.n) := l.sb.cell 4 _ rfl
theorem B2.glt (l : B2 w s a z W) : w.heap.size + 1 < W.heap.size := l.ob.lt
theorem B2.lt (_ : B2 w s a z W) : w.heap.size < w.heap.size + 1 := by omega
theorem B2.put (l : B2 w s a z W) {b0 b1 b2 b3 b4 : Value} (hb : Bk W h 28 [b0, b1, b2, b3, b4]) (hg : w.heap.size + 1 < h) {k r i x n : Value} :
    B2 w s a z (((((W.setCell ⟨h, 0, none⟩ k).setCell ⟨h, 1, none⟩ r).setCell ⟨h, 2, none⟩ i).setCell ⟨h, 3, none⟩ x).setCell ⟨h, 4, none⟩ n) ∧
      Bk (((((W.setCell ⟨h, 0, none⟩ k).setCell ⟨h, 1, none⟩ r).setCell ⟨h, 2, none⟩ i).setCell ⟨h, 3, none⟩ x).setCell ⟨h, 4, none⟩ n) h 28 [k, r, i, x, n] := by
  exact ⟨⟨((((l.sb.far (by omega) 0 _).far (by omega) 1 _).far (by omega) 2 _).far (by omega) 3 _).far (by omega) 4 _, ((((l.ob.far (by omega) 0 _).far (by omega) 1 _).far (by omega) 2 _).far (by omega) 3 _).far (by omega) 4 _, by
    iterate 5 refine Below.setCell ?_ (by simp; omega) _
    exact l.bel⟩, ((((hb.set 0 _).set 1 _).set 2 _).set 3 _).set 4 _⟩
end
/-- what behind the region stands -/
def Bd (w : World) (s : Sp) (a z : Int) (t : Sp) (v e : Value) (W : World) : Prop := ∃ h, v = .pointer (some ⟨h, 0, none⟩) ∧ e = .int .i64 0 ∧ B2 w s a z W ∧ Bk W h 28 t.cells

set_option maxHeartbeats 800000 in
theorem back_long (s : Sp) (A : Option Addr) (n c : Nat) (a z : Int) (w : World) (hn : 256 < n) :
    Calls Try.prog 4 #[s.val, opv a z, .slice A n c] w fun e w' => e = .returned (.bool true) ∧ Below w.heap.size w w' := by
  obtain ⟨k, r, i, x, m⟩ := s
  have hn' : (256 : Int) < (n : Int) := by omega
  go_enter Try.func4, Try.ntmps4
  go_wp2_with fail
  refine (alive _).mono ?_
  rintro e w1 ⟨rfl, hb1⟩
  have HB := Lib.hid (bel2 (a := w) (by go_grown) hb1)
  clear hb1
  go_wp2
  go_ret
  exact ⟨rfl, HB.out⟩

theorem hd_U {x z : Int} (hb : 0 ≤ x ∧ x < 256) : U (hd x z).v := by
  unfold hd
  (repeat' split) <;> exact ⟨by simp; try omega, by simp; try omega⟩
theorem fin_U {x a z i c : Int} {u : List Int} (hb : 0 ≤ x ∧ x < 256) : U (fin x u a z i c).1.x := by
  have h0 : U (0 : Int) := ⟨by omega, by omega⟩
  unfold fin
  by_cases h1 : cn (hd x z).k (hd x z).r i a = true
  · rw [if_pos h1]
    by_cases h2 : u.length < (hd x z).w
    · rw [if_pos h2]; exact h0
    · rw [if_neg h2]
      simp only
      split
      · exact hd_U hb
      · exact ex_U _ _
  · rw [if_neg h1]; exact h0
theorem dec_U {l : List Int} {a z : Int} (hb : Byt l) : U (dec l a z).1.x := by
  have h0 : U (0 : Int) := ⟨by omega, by omega⟩
  by_cases hg : gd a z = true
  · by_cases h98 : a = 98
    · subst h98
      unfold dec
      rw [if_neg (by simp [hg]), if_pos rfl]
      split
      · exact h0
      · exact ex_U _ _
    · match l, hb with
      | [], _ => rw [dec_nil hg h98]; exact h0
      | x :: t, hb =>
        by_cases hx : x / 16 = 4
        · by_cases h15 : x % 16 = 15
          · rw [dec_15 hg h98 hx h15]; exact h0
          · match t, hb with
            | [], _ => rw [dec_short hg h98 hx h15]; exact h0
            | y :: u, hb => rw [dec_1 hg h98 hx h15]; exact fin_U hb.tl.hd
        · rw [dec_0 hg h98 hx]; exact fin_U hb.hd
  · rw [dec_arg (by simpa using hg)]; exact h0

/-- what is decoded, and encoded again -/
def Again (a z : Int) (d : Sp) (d6 : Int) : Prop :=
  d6 ≠ 0 ∨ (d6 = 0 ∧ d.k = 14) ∨ (d6 = 0 ∧ d.k ≠ 14 ∧ ∃ dl : Nat, (dl : Int) ≤ d.n ∧ ∀ W, Calls Try.prog 11 #[d.val, opv a z] W fun e w' => ∃ A c, e = .returned (.tuple #[.slice A dl c, .int .i64 0]) ∧ Below W.heap.size W w')
theorem again {l : List Int} {a z : Int} (hb : Byt l) (ha : 0 ≤ a ∧ a < 256) : Again a z (dec l a z).1 (dec l a z).2 := by
  by_cases h0 : (dec l a z).2 = 0
  · by_cases hk : (dec l a z).1.k = 14
    · exact .inr (.inl ⟨h0, hk⟩)
    · obtain ⟨b, hb1, hb2⟩ := enc_back (t := (dec l a z).1) hb (Prod.ext rfl h0) hk
      refine .inr (.inr ⟨h0, hk, b.length, hb2, fun W => ?_⟩)
      have := encode_any (dec l a z).1 a z W ha (dec_U hb)
      rw [hb1] at this
      refine this.mono ?_
      rintro e w' h
      unfold EncP at h
      obtain ⟨A, c, he, hm⟩ := h
      exact ⟨A, c, he, hm.bel⟩
  · exact .inl h0

theorem enc_byt {s : Sp} {a z : Int} {b : List Int} (h : enc s a z = some b) : Byt b := by
  unfold enc at h
  split at h
  · next hg =>
    obtain ⟨w, hw, _, rfl⟩ := enw_some h
    have hz := gd_sz hg.1
    have hw4 := ws_le (k := s.k) (z := z.toNat) (by rcases hz with rfl | rfl | rfl <;> simp) w hw
    have hk : (td s).k = 0 ∨ (5 ≤ (td s).k ∧ (td s).k ≤ 13) := by
      obtain ⟨j, hj, _⟩ := List.mem_iff_getElem.1 hw
      exact ws_kinds hj
    unfold wr
    refine Byt.app ?_ (Byt.app ?_ (low_byt _ _))
    · split
      · exact Byt.nil
      · exact Byt.cons (fs_byte (by omega) (by omega)) Byt.nil
    · split
      · exact Byt.nil
      · exact Byt.cons (bg_byte hw4 hk) Byt.nil
  · simp at h

set_option maxRecDepth 100000 in
set_option maxHeartbeats 9600000 in
theorem back_in (s : Sp) (A : Option Addr) (n c : Nat) (ys : List Int) (a z : Int) (w : World) (hy : By w A n c ys) (ha : 0 ≤ a ∧ a < 256) (hx : U s.x) (hn : n ≤ 256) :
    Calls Try.prog 4 #[s.val, opv a z, .slice A n c] w fun e w' => e = .returned (.bool true) ∧ Below w.heap.size w w' := by
  have hn' : ¬ (256 : Int) < (n : Int) := by omega
  have K1 : Hid (∀ W, Below w.heap.size w W → Calls Try.prog 9 #[.slice A n c, opv a z] W fun e w' => e = .returned (.tuple #[(dec ys a z).1.val, .int .i64 (dec ys a z).2]) ∧ Below W.heap.size W w') :=
    Lib.hid fun W hW => decode_any A n c ys a z W (hy.below hW (Nat.le_refl _)) (by omega) ha
  have HAg := Lib.hid (again (z := z) hy.byt ha)
  have HYW : Hid (∀ W, Below w.heap.size w W → By W A n c ys) := Lib.hid fun W hW => hy.below hW (Nat.le_refl _)
  have KE : Hid (∀ W, Calls Try.prog 11 #[s.val, opv a z] W (EncP W (enc s a z))) := Lib.hid fun W => encode_any s a z W ha hx
  have KS := fun q w => Lib.hid (same_td s q w)
  have hes := fun b (h : enc s a z = some b) => enc_some h
  have hel := fun b (h : enc s a z = some b) => (dec_take (enc_some h))
  have HA := Lib.hid ha
  have hyb := hy.byt
  have hyl := hy.len
  have HYb := Lib.hid hyb
  have HYl := Lib.hid hyl
  generalize dec ys a z = d at *
  obtain ⟨⟨d1, d2, d3, d4, d5⟩, d6⟩ := d
  obtain ⟨k, r, i, x, m⟩ := s
  have HN := Lib.hid (B2.new w k r i x m a z)
  clear hy hyb hyl
  cases hen : enc ⟨k, r, i, x, m⟩ a z with
  | none =>
    rw [hen] at KE
    clear hes hel KS HYW hx ha hen
    go_enter Try.func4, Try.ntmps4
    go_wp2_with fail
    refine (alive _).mono ?_
    rintro e w1 ⟨rfl, hb1⟩
    have hL1 := HN.out.below hb1
    have s0 : w1.cell? ⟨w.heap.size, 0, none⟩ = some (.int .i64 k) := hL1.s0
    have s1 : w1.cell? ⟨w.heap.size, 1, none⟩ = some (.int .i64 r) := hL1.s1
    have s2 : w1.cell? ⟨w.heap.size, 2, none⟩ = some (.int .i64 i) := hL1.s2
    have s3 : w1.cell? ⟨w.heap.size, 3, none⟩ = some (.int .u32 x) := hL1.s3
    have s4 : w1.cell? ⟨w.heap.size, 4, none⟩ = some (.int .i64 m) := hL1.s4
    have o0 : w1.cell? ⟨w.heap.size + 1, 0, none⟩ = some (.int .u8 a) := hL1.o0
    have o1 : w1.cell? ⟨w.heap.size + 1, 1, none⟩ = some (.int .i64 z) := hL1.o1
    have HL1 := Lib.hid hL1
    clear hL1 hb1 HN
    go_wp2_with fail
    refine (KE.out _).mono ?_
    rintro e WW hE
    unfold EncP at hE
    obtain ⟨rfl, hb2⟩ := hE
    have HW := Lib.hid (HL1.out.below hb2)
    clear s0 s1 s2 s3 s4 o0 o1 hb2 HL1
    have o0 : WW.cell? ⟨w.heap.size + 1, 0, none⟩ = some (.int .u8 a) := HW.out.o0
    have o1 : WW.cell? ⟨w.heap.size + 1, 1, none⟩ = some (.int .i64 z) := HW.out.o1
    have hgl := HW.out.glt
    go_wp2_with fail
    refine (K1.out _ HW.out.bel).mono ?_
    rintro e W3 ⟨rfl, hb3⟩
    clear o0 o1 hgl
    have hL3 := HW.out.below (bel2 hb3 (al1 W3 (.cells #[.int .i64 d1, .int .i64 d2, .int .i64 d3, .int .u32 d4, .int .i64 d5] 28)))
    have HF := Lib.hid hL3.bel
    have o0 : (W3.alloc (.cells #[.int .i64 d1, .int .i64 d2, .int .i64 d3, .int .u32 d4, .int .i64 d5] 28)).cell? ⟨w.heap.size + 1, 0, none⟩ = some (.int .u8 a) := hL3.o0
    have o1 : (W3.alloc (.cells #[.int .i64 d1, .int .i64 d2, .int .i64 d3, .int .u32 d4, .int .i64 d5] 28)).cell? ⟨w.heap.size + 1, 1, none⟩ = some (.int .i64 z) := hL3.o1
    have hTv := Bk.new W3 28 [.int .i64 d1, .int .i64 d2, .int .i64 d3, .int .u32 d4, .int .i64 d5]
    have HTv := Lib.hid hTv
    have hgl := hL3.glt
    clear hL3 hb3 hTv HW K1
    rcases HAg.out with h6 | ⟨h6, h14⟩ | ⟨h6, h14, dl, hdl, hK⟩
    · have g6 : (d6 != 0) = true := by simpa using h6
      clear HAg h6
      go_wp2
      go_ret
      exact ⟨rfl, HF.out⟩
    · subst h6
      obtain rfl : d1 = 14 := h14
      clear HAg
      go_wp2
      go_ret
      exact ⟨rfl, HF.out⟩
    · subst h6
      have g14 : (d1 == 14) = false := by simpa using h14
      have hdl' : (dl : Int) ≤ d5 := hdl
      have HK := Lib.hid hK
      clear HAg h14 hdl hK
      go_wp2_with fail
      refine (HK.out _).mono ?_
      rintro e W5 ⟨A5, c5, rfl, hb5⟩
      have t4 := (HTv.out.below hb5 (Nat.le_refl _)).cell 4 _ rfl
      have HF5 := Lib.hid (bel2 HF.out hb5)
      clear hb5 HTv o0 o1
      go_wp2
      go_ret
      exact ⟨rfl, HF5.out⟩
  | some cs =>
    rw [hen] at KE
    have hda := dec_app (ys := ys) (hes cs hen)
    obtain ⟨_, e1, _, e3, e4, _, _⟩ := hel cs hen
    have hcl : cs.length ≤ 6 := by
      have : ((cs.length : Nat) : Int) ≤ 6 := by
        have h1 : ((cs.length : Nat) : Int) = _ := e1
        omega
      omega
    have K2 : Hid (∀ W A' n' c', By W A' n' c' (cs ++ ys) → Calls Try.prog 9 #[.slice A' n' c', opv a z] W fun e w' => e = .returned (.tuple #[(tdn ⟨k, r, i, x, m⟩ cs.length).val, .int .i64 0]) ∧ Below W.heap.size W w') :=
      Lib.hid fun W A' n' c' h => by
        have hl := h.len
        rw [List.length_append, HYl.out] at hl
        have := decode_any A' n' c' _ a z W h (by omega) HA.out
        rw [hda] at this
        exact this
    have KSn := fun w => (KS (cs.length : Int) w)
    obtain ⟨ln, hln⟩ : ∃ ln, cs.length = ln := ⟨_, rfl⟩
    rw [hln] at K2 KSn hcl
    have HLn := Lib.hid hln
    have HK1 : Hid (([] : List Int).length + ln = ln) := Lib.hid (by simp)
    have HK2 : Hid (cs.length + n = ln + n) := Lib.hid (by rw [hln])
    have HKK : Hid ((cs ++ ys).length = ln + n) := Lib.hid (by rw [List.length_append, hln, HYl.out])
    have HCb : Hid (Byt cs) := Lib.hid (enc_byt hen)
    have hle1 : ln ≤ 1000000000 := by omega
    have hle2 : ln + n ≤ 1000000000 := by omega
    obtain ⟨t, ht⟩ : ∃ t, tdn ⟨k, r, i, x, m⟩ ln = t := ⟨_, rfl⟩
    have htn : t.n = ln := by rw [← ht]; rfl
    rw [ht] at K2 KSn
    obtain ⟨t1, t2, t3, t4, t5⟩ := t
    obtain rfl : t5 = ln := htn
    have KE' : Hid (∀ W, Calls Try.prog 11 #[(Sp.mk k r i x m).val, opv a z] W fun e w' => ∃ A c, e = .returned (.tuple #[.slice A ln c, .int .i64 0]) ∧ Mk W.heap.size W (.slice A ln c) cs w') := Lib.hid fun W => by
      refine (KE.out W).mono ?_
      rintro e w' h
      unfold EncP at h
      simp only [hln] at h
      exact h
    clear hes hel KS hx ha hen hda e1 e3 e4 KE hln ht
    go_enter Try.func4, Try.ntmps4
    go_wp2_with fail
    refine (alive _).mono ?_
    rintro e w1 ⟨rfl, hb1⟩
    have hL1 := HN.out.below hb1
    have s0 : w1.cell? ⟨w.heap.size, 0, none⟩ = some (.int .i64 k) := hL1.s0
    have s1 : w1.cell? ⟨w.heap.size, 1, none⟩ = some (.int .i64 r) := hL1.s1
    have s2 : w1.cell? ⟨w.heap.size, 2, none⟩ = some (.int .i64 i) := hL1.s2
    have s3 : w1.cell? ⟨w.heap.size, 3, none⟩ = some (.int .u32 x) := hL1.s3
    have s4 : w1.cell? ⟨w.heap.size, 4, none⟩ = some (.int .i64 m) := hL1.s4
    have o0 : w1.cell? ⟨w.heap.size + 1, 0, none⟩ = some (.int .u8 a) := hL1.o0
    have o1 : w1.cell? ⟨w.heap.size + 1, 1, none⟩ = some (.int .i64 z) := hL1.o1
    have HL1 := Lib.hid hL1
    clear hL1 hb1 HN
    go_wp2_with fail
    refine (KE'.out _).mono ?_
    rintro e V ⟨Ac, cc, rfl, hM⟩
    have HL := Lib.hid (HL1.out.below hM.bel)
    have hcb := HCb.out
    have HBy : Hid (Byt (cs ++ ys)) := Lib.hid (hcb.app HYb.out)
    have HYV : Hid (∀ W, Below V.heap.size V W → By W Ac ln cc cs) := Lib.hid fun W hW => (hM.below hW).by HLn.out hcb
    have HOV : Hid (∀ W, Below V.heap.size V W → By W A n c ys) := Lib.hid fun W hW => HYW.out W (bel2 HL.out.bel hW)
    clear s0 s1 s2 s3 s4 o0 o1 hM HL1 hcb
    go_upto_region 7 with fail
    go_cut [9, 10] from 28 to 37 (Bd w ⟨k, r, i, x, m⟩ a z ⟨t1, t2, t3, t4, ln⟩)
    case first =>
      have o0 : V.cell? ⟨w.heap.size + 1, 0, none⟩ = some (.int .u8 a) := HL.out.o0
      have o0d : V.drew.cell? ⟨w.heap.size + 1, 0, none⟩ = some (.int .u8 a) := o0
      have o1 : V.cell? ⟨w.heap.size + 1, 1, none⟩ = some (.int .i64 z) := HL.out.o1
      have o1d : V.drew.cell? ⟨w.heap.size + 1, 1, none⟩ = some (.int .i64 z) := o1
      have hgl := HL.out.glt
      have hlt := HL.out.lt
      have HM1 : Hid (∀ W, Below (V.alloc (.cells #[] 5)).heap.size (V.alloc (.cells #[] 5)) W → Mk V.heap.size V (.slice (some ⟨V.heap.size, 0, none⟩) 0 0) [] W) := Lib.hid fun W hW => (Mk.lit V (Below.refl _ _) (Nat.le_refl _) [] (n := 0) rfl (by decide)).below hW
      have HM2 : Hid (∀ W, Below ((V.alloc (.cells #[.int .i64 0, .int .i64 0, .int .i64 0, .int .u32 0, .int .i64 0] 28)).alloc (.cells #[] 5)).heap.size ((V.alloc (.cells #[.int .i64 0, .int .i64 0, .int .i64 0, .int .u32 0, .int .i64 0] 28)).alloc (.cells #[] 5)) W → Mk V.heap.size V (.slice (some ⟨V.heap.size + 1, 0, none⟩) 0 0) [] W) := Lib.hid fun W hW => by
        have := (Mk.lit (W := V.alloc (.cells #[.int .i64 0, .int .i64 0, .int .i64 0, .int .u32 0, .int .i64 0] 28)) V (al1 _ _) (by simp) [] (n := 0) rfl (by decide)).below hW
        simpa using this
      have HVa : Hid (Bk ((V.alloc (.cells #[.int .i64 0, .int .i64 0, .int .i64 0, .int .u32 0, .int .i64 0] 28)).alloc (.cells #[] 5)).drew V.heap.size 28 [.int .i64 0, .int .i64 0, .int .i64 0, .int .u32 0, .int .i64 0]) := (Bk.new V _ [.int .i64 0, .int .i64 0, .int .i64 0, .int .u32 0, .int .i64 0]).below (Below.drew (al1 _ _)) (Nat.le_refl _)
      have HVb : Hid (Bk ((V.alloc (.cells #[] 5)).alloc (.cells #[.int .i64 0, .int .i64 0, .int .i64 0, .int .u32 0, .int .i64 0] 28)).drew (V.heap.size + 1) 28 [.int .i64 0, .int .i64 0, .int .i64 0, .int .u32 0, .int .i64 0]) := Lib.hid (by
        have := Bk.new (V.alloc (.cells #[] 5)) 28 [.int .i64 0, .int .i64 0, .int .i64 0, .int .u32 0, .int .i64 0]
        simp at this
        exact this)
      have hla : w.heap.size + 1 < V.heap.size := hgl
      have hlb : w.heap.size + 1 < V.heap.size + 1 := by omega
      have hnea : (⟨w.heap.size + 1, 0, none⟩ : Addr).block ≠ V.heap.size ∧ (⟨w.heap.size + 1, 1, none⟩ : Addr).block ≠ V.heap.size := by simp; omega
      have hneb : (⟨w.heap.size + 1, 0, none⟩ : Addr).block ≠ V.heap.size + 1 ∧ (⟨w.heap.size + 1, 1, none⟩ : Addr).block ≠ V.heap.size + 1 := by simp; omega
      have hna : ¬ Bl (.slice (some ⟨V.heap.size + 1, 0, none⟩) 0 0) V.heap.size := by simp [Bl, Value.ownBlock]
      have hnb : ¬ Bl (.slice (some ⟨V.heap.size, 0, none⟩) 0 0) (V.heap.size + 1) := by simp [Bl, Value.ownBlock]
      go_region_held3 (fun w' => w'.cell? ⟨w.heap.size + 1, 0, none⟩ = some (.int .u8 a) ∧ w'.cell? ⟨w.heap.size + 1, 1, none⟩ = some (.int .i64 z))
        (first | (with_reducible exact ⟨z0, z1⟩) | (with_reducible exact ⟨o0d, o1d⟩) | (with_reducible exact ⟨o0, o1⟩) | (with_reducible exact ⟨far5 hne.1 z0, far5 hne.2 z1⟩) | go_keep)
        (first
          | ((first
              | (refine step_app8 rfl (.tmp 29) (.tmp 30) rfl rfl V.heap.size V (.slice (some ⟨V.heap.size, 0, none⟩) 0 0) [] cs Ac ln cc ln HK1.out ?_ ?_ ?_ ?_ hle1 ?_
                 · simp [Act.eval]; done
                 · simp [Act.eval]; done
                 · refine HM1.out _ ?_; go_grown
                 · refine HYV.out _ ?_; go_grown)
              | (refine step_app8 rfl (.tmp 29) (.tmp 30) rfl rfl V.heap.size V (.slice (some ⟨V.heap.size + 1, 0, none⟩) 0 0) [] cs Ac ln cc ln HK1.out ?_ ?_ ?_ ?_ hle1 ?_
                 · simp [Act.eval]; done
                 · simp [Act.eval]; done
                 · refine HM2.out _ ?_; go_grown
                 · refine HYV.out _ ?_; go_grown))
             intro A3 c3 w3 hM3 hb3 hm3
             have hL3 := HL.out.below hM3.bel
             have z0 : w3.cell? ⟨w.heap.size + 1, 0, none⟩ = some (.int .u8 a) := hL3.o0; have z1 : w3.cell? ⟨w.heap.size + 1, 1, none⟩ = some (.int .i64 z) := hL3.o1
             have HM3 : Hid (∀ W, Below w3.heap.size w3 W → Mk V.heap.size V (.slice A3 ln c3) cs W) := Lib.hid fun W hW => hM3.below hW
             have hR3 := hM3.row
             have hl3 := hL3.glt
             have hbV3 := hM3.bel
             have HVc : Hid (Bk (w3.alloc (.cells #[.int .i64 0, .int .i64 0, .int .i64 0, .int .u32 0, .int .i64 0] 28)) w3.heap.size 28 [.int .i64 0, .int .i64 0, .int .i64 0, .int .u32 0, .int .i64 0]) := Bk.new w3 _ [.int .i64 0, .int .i64 0, .int .i64 0, .int .u32 0, .int .i64 0]
             have HRc : Hid (R8 (w3.alloc (.cells #[.int .i64 0, .int .i64 0, .int .i64 0, .int .u32 0, .int .i64 0] 28)) (.slice A3 ln c3) cs) := (hM3.below (al1 _ _)).row
             have hnec : (⟨w.heap.size + 1, 0, none⟩ : Addr).block ≠ w3.heap.size ∧ (⟨w.heap.size + 1, 1, none⟩ : Addr).block ≠ w3.heap.size := by simp; omega
             (first
              | (have hv3 : Bk w3 V.heap.size 28 [.int .i64 0, .int .i64 0, .int .i64 0, .int .u32 0, .int .i64 0] := (by with_reducible exact Bk.mods HVa.out hm3 hna); have hlv := hla; have hne := hnea)
              | (have hv3 : Bk w3 (V.heap.size + 1) 28 [.int .i64 0, .int .i64 0, .int .i64 0, .int .u32 0, .int .i64 0] := (by with_reducible exact Bk.mods HVb.out hm3 hnb); have hlv := hlb; have hne := hneb)
              | skip)
             have HL3 := Lib.hid hL3
             have HBV3 := Lib.hid hbV3
             (first | (have HR3 := Lib.hid hR3; have HNB := Lib.hid (Bk.notBl hv3 hR3)) | have HR3 := Lib.hid hR3)
             clear hM3 hL3 hm3 hb3 hR3 hbV3)
          | ((refine step_app8 rfl (.tmp 31) (.tmp 32) rfl rfl V.heap.size V (.slice A3 ln c3) cs ys A n c (ln + n) HK2.out ?_ ?_ ?_ ?_ hle2 ?_
              · simp [Act.eval]; done
              · simp [Act.eval]; done
              · refine HM3.out _ ?_; go_grown
              · refine HOV.out _ (bel2 HBV3.out ?_); go_grown)
             intro A4 c4 w4 hM4 hb4 hm4
             have hL4 := HL.out.below hM4.bel
             have z0 : w4.cell? ⟨w.heap.size + 1, 0, none⟩ = some (.int .u8 a) := hL4.o0; have z1 : w4.cell? ⟨w.heap.size + 1, 1, none⟩ = some (.int .i64 z) := hL4.o1
             have HB4 : Hid (∀ W, Below w4.heap.size w4 W → By W A4 (ln + n) c4 (cs ++ ys)) := Lib.hid fun W hW => (hM4.below hW).by HKK.out HBy.out
             have hl4 := hL4.glt
             have HVd : Hid (Bk (w4.alloc (.cells #[.int .i64 0, .int .i64 0, .int .i64 0, .int .u32 0, .int .i64 0] 28)) w4.heap.size 28 [.int .i64 0, .int .i64 0, .int .i64 0, .int .u32 0, .int .i64 0]) := Bk.new w4 _ [.int .i64 0, .int .i64 0, .int .i64 0, .int .u32 0, .int .i64 0]
             have hned : (⟨w.heap.size + 1, 0, none⟩ : Addr).block ≠ w4.heap.size ∧ (⟨w.heap.size + 1, 1, none⟩ : Addr).block ≠ w4.heap.size := by simp; omega
             (first
              | (have hv4 := (by with_reducible exact Bk.mods hv3 hm4 HNB.out))
              | (have hv4 : Bk w4 w3.heap.size 28 [.int .i64 0, .int .i64 0, .int .i64 0, .int .u32 0, .int .i64 0] := (by with_reducible exact Bk.mods HVc.out hm4 (Bk.notBl HVc.out HRc.out)); have hlv := hl3; have hne := hnec)
              | skip)
             have HL4 := Lib.hid hL4
             clear hM4 hL4 hm4 hb4)
          | (go_at_call 9
             refine (K2.out _ _ _ _ (HB4.out _ (by go_grown))).mono ?_
             rintro e w5 ⟨rfl, hb5⟩
             have hL5 := HL4.out.below (bel2 (by go_grown) hb5)
             have z0 : w5.cell? ⟨w.heap.size + 1, 0, none⟩ = some (.int .u8 a) := hL5.o0; have z1 : w5.cell? ⟨w.heap.size + 1, 1, none⟩ = some (.int .i64 z) := hL5.o1
             (first
              | (have hv5 := (by with_reducible exact Bk.below hv4 hb5 (Nat.le_refl _)))
              | (have hv5 : Bk w5 w4.heap.size 28 [.int .i64 0, .int .i64 0, .int .i64 0, .int .u32 0, .int .i64 0] := (by with_reducible exact Bk.below HVd.out hb5 (Nat.le_refl _)); have hlv := hl4; have hne := hned)
              | skip)
             (first
              | (have v0 := hv5.cell 0 _ rfl; have v1 := hv5.cell 1 _ rfl; have v2 := hv5.cell 2 _ rfl; have v3 := hv5.cell 3 _ rfl; have v4 := hv5.cell 4 _ rfl; have vf := hv5.free; have hvl := hv5.lt)
              | skip)))
      all_goals go_wp2_with fail
      all_goals go_meet
      all_goals first
        | exact ⟨_, rfl, rfl, (B2.put hL5 hv5 hlv).1, (B2.put hL5 hv5 hlv).2⟩
        | exact ⟨_, rfl, rfl, hL5.below (al1 _ _), Bk.new w5 _ [.int .i64 t1, .int .i64 t2, .int .i64 t3, .int .u32 t4, .int .i64 ln]⟩
    case rest =>
      obtain ⟨h, rfl, rfl, hL, hT⟩ := hcut
      have s0 : wc.cell? ⟨w.heap.size, 0, none⟩ = some (.int .i64 k) := hL.s0
      have s1 : wc.cell? ⟨w.heap.size, 1, none⟩ = some (.int .i64 r) := hL.s1
      have s2 : wc.cell? ⟨w.heap.size, 2, none⟩ = some (.int .i64 i) := hL.s2
      have s3 : wc.cell? ⟨w.heap.size, 3, none⟩ = some (.int .u32 x) := hL.s3
      have s4 : wc.cell? ⟨w.heap.size, 4, none⟩ = some (.int .i64 m) := hL.s4
      have x0 : wc.cell? ⟨h, 0, none⟩ = some (.int .i64 t1) := hT.cell 0 _ rfl
      have x1 : wc.cell? ⟨h, 1, none⟩ = some (.int .i64 t2) := hT.cell 1 _ rfl
      have x2 : wc.cell? ⟨h, 2, none⟩ = some (.int .i64 t3) := hT.cell 2 _ rfl
      have x3 : wc.cell? ⟨h, 3, none⟩ = some (.int .u32 t4) := hT.cell 3 _ rfl
      have x4 : wc.cell? ⟨h, 4, none⟩ = some (.int .i64 ln) := hT.cell 4 _ rfl
      have HL2 := Lib.hid hL
      have HT2 := Lib.hid hT
      clear hL hT HL K2 HYW HYV HOV HBy HK1 HK2 HKK HLn HCb HYb HYl
      go_wp2_with fail
      refine (KSn _).out.mono ?_
      rintro e WW ⟨rfl, hb6⟩
      have x4' : WW.cell? ⟨h, 4, none⟩ = some (.int .i64 ln) := (HT2.out.below hb6 (Nat.le_refl _)).cell 4 _ rfl
      have HW := Lib.hid (HL2.out.below hb6)
      clear s0 s1 s2 s3 s4 x0 x1 x2 x3 x4 hb6 HL2 HT2
      have o0 : WW.cell? ⟨w.heap.size + 1, 0, none⟩ = some (.int .u8 a) := HW.out.o0
      have o1 : WW.cell? ⟨w.heap.size + 1, 1, none⟩ = some (.int .i64 z) := HW.out.o1
      have hgl := HW.out.glt
      go_wp2_with fail
      refine (K1.out _ HW.out.bel).mono ?_
      rintro e W3 ⟨rfl, hb3⟩
      clear o0 o1 hgl
      have hL3 := HW.out.below (bel2 hb3 (al1 W3 (.cells #[.int .i64 d1, .int .i64 d2, .int .i64 d3, .int .u32 d4, .int .i64 d5] 28)))
      have HF := Lib.hid hL3.bel
      have o0 : (W3.alloc (.cells #[.int .i64 d1, .int .i64 d2, .int .i64 d3, .int .u32 d4, .int .i64 d5] 28)).cell? ⟨w.heap.size + 1, 0, none⟩ = some (.int .u8 a) := hL3.o0
      have o1 : (W3.alloc (.cells #[.int .i64 d1, .int .i64 d2, .int .i64 d3, .int .u32 d4, .int .i64 d5] 28)).cell? ⟨w.heap.size + 1, 1, none⟩ = some (.int .i64 z) := hL3.o1
      have hTv := Bk.new W3 28 [.int .i64 d1, .int .i64 d2, .int .i64 d3, .int .u32 d4, .int .i64 d5]
      have HTv := Lib.hid hTv
      have hgl := hL3.glt
      clear hL3 hb3 hTv HW K1
      rcases HAg.out with h6 | ⟨h6, h14⟩ | ⟨h6, h14, dl, hdl, hK⟩
      · have g6 : (d6 != 0) = true := by simpa using h6
        clear HAg h6
        go_wp2
        go_ret
        exact ⟨rfl, HF.out⟩
      · subst h6
        obtain rfl : d1 = 14 := h14
        clear HAg
        go_wp2
        go_ret
        exact ⟨rfl, HF.out⟩
      · subst h6
        have g14 : (d1 == 14) = false := by simpa using h14
        have hdl' : (dl : Int) ≤ d5 := hdl
        have HK := Lib.hid hK
        clear HAg h14 hdl hK
        go_wp2_with fail
        refine (HK.out _).mono ?_
        rintro e W5 ⟨A5, c5, rfl, hb5⟩
        have t4 := (HTv.out.below hb5 (Nat.le_refl _)).cell 4 _ rfl
        have HF5 := Lib.hid (bel2 HF.out hb5)
        clear hb5 HTv o0 o1
        go_wp2
        go_ret
        exact ⟨rfl, HF5.out⟩

theorem back_walk (s : Sp) (o : Oa) (A : Option Addr) (n c : Nat) (w : World) (hs : s.Ok) (ho : o.Ok) (h : ∃ ys, By w A n c ys) :
    Calls Try.prog 4 #[s.val, .agg #[.int .u8 o.a, .int .i64 o.z], .slice A n c] w fun e w' => e = .returned (.bool true) ∧ Below w.heap.size w w' := by
  obtain ⟨ys, hy⟩ := h
  by_cases hn : 256 < n
  · exact back_long s A n c _ _ w hn
  · exact back_in s A n c ys _ _ w hy ⟨ho.a0, ho.a1⟩ ⟨hs.x0, hs.x1⟩ (by omega)

end Go.Proofs.Ytmhdhffpndiodaa.Cs
