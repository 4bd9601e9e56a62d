/- Contracts of package spec: Encode. -/
import Derived.Test.YtppkpfkoggnbmaaGreatDoorEEnc3
namespace Go.Proofs.YtppkpfkoggnbmaaGreatDoor.Cs.Es
open Go.RowKit
set_option linter.unusedVariables false

/-- what a call of Encode answers -/
def EncP (w : World) : Option (List Int) → Ending → World → Prop
  | some b, e, w' => ∃ A c, e = .returned (.tuple #[.slice A b.length c, .int .i64 0]) ∧ Mk w.heap.size w (.slice A b.length c) b w'
  | none, e, w' => e = .returned (.tuple #[.slice none 0 0, .int .i64 1]) ∧ Below w.heap.size w w'

theorem EncP.yes {w w' : World} {b : List Int} {A : Option Addr} {c : Nat} (h : Mk w.heap.size w (.slice A b.length c) b w') : EncP w (some b) (.returned (.tuple #[.slice A b.length c, .int .i64 0])) w' := by
  unfold EncP
  exact ⟨A, c, rfl, h⟩
theorem EncP.no {w w' : World} (h : Below w.heap.size w w') : EncP w none (.returned (.tuple #[.slice none 0 0, .int .i64 1])) w' := by
  unfold EncP
  exact ⟨rfl, h⟩

set_option maxHeartbeats 800000 in
set_option maxRecDepth 100000 in
theorem encode_not (s : Sp) (a z : Int) (w : World) (ha : 0 ≤ a ∧ a < 256) (h : gd a z = false ∨ (gd a z = true ∧ s.r < 0) ∨ (gd a z = true ∧ 0 ≤ s.r ∧ 15 < s.r)) :
    Calls Tryz.prog 47 #[s.val, opv a z] w fun e w' => e = .returned (.tuple #[.slice none 0 0, .int .i64 1]) ∧ Below w.heap.size w w' := by
  have KI := fun w => Lib.hid (is_any a z ha w)
  obtain ⟨k, r, i, x, n⟩ := s
  have HS : Hid (Bk ((w.alloc (.cells #[.int .i64 k, .int .i64 r, .int .i64 i, .int .u32 x, .int .i64 n] 47)).alloc (.cells #[.int .u8 a, .int .i64 z] 45)) w.heap.size 47 [.int .i64 k, .int .i64 r, .int .i64 i, .int .u32 x, .int .i64 n]) :=
    (Bk.new w _ [.int .i64 k, .int .i64 r, .int .i64 i, .int .u32 x, .int .i64 n]).below (al1 _ _) (Nat.le_refl _)
  simp only at h
  rcases h with hg | ⟨hg, h⟩ | ⟨hg, h0, h⟩
  · rw [hg] at KI
    clear hg
    go_enter Tryz.func47, Tryz.ntmps47
    go_wp2_with (go_at_call 26; refine (KI _).out.mono ?_; rintro e w1 ⟨rfl, hb1⟩; have HB := Lib.hid (bel2 (a := w) (by go_grown) hb1); clear hb1)
    go_ret2
    exact ⟨rfl, HB.out⟩
  · rw [hg] at KI
    clear hg
    go_enter Tryz.func47, Tryz.ntmps47
    go_wp2_with (go_at_call 26; refine (KI _).out.mono ?_; rintro e w1 ⟨rfl, hb1⟩; have s1 := (HS.out.below hb1 (Nat.le_refl _)).cell 1 _ rfl; have HB := Lib.hid (bel2 (a := w) (by go_grown) hb1); clear hb1)
    go_ret2
    exact ⟨rfl, HB.out⟩
  · rw [hg] at KI
    have h0' : ¬ r < 0 := by omega
    clear hg
    go_enter Tryz.func47, Tryz.ntmps47
    go_wp2_with (go_at_call 26; refine (KI _).out.mono ?_; rintro e w1 ⟨rfl, hb1⟩; have s1 := (HS.out.below hb1 (Nat.le_refl _)).cell 1 _ rfl; have HB := Lib.hid (bel2 (a := w) (by go_grown) hb1); clear hb1)
    go_ret2
    exact ⟨rfl, HB.out⟩

theorem Rw.notSpec {W : World} {g : Nat} {cs : List Value} {v : Value} {l : List Nat} (h : Bk W g 47 cs) (r : Rw W v l) : ∀ i, v.ownBlock = some i → i ≠ g := by
  intro i hb e
  subst e
  obtain ⟨_, h2 | ⟨q, cap, cur, rfl, _, hq, _⟩⟩ := r
  · rw [h2.1] at hb; simp [Value.ownBlock] at hb
  · have e : q = i := by simpa [Value.ownBlock] using hb
    subst e
    have := h.symm.trans hq
    injection this with this
    injection this with _ ht
    exact absurd ht (by decide)
theorem Rw.at_ {W : World} {A : Option Addr} {m c : Nat} {l : List Nat} (h : Rw W (.slice A m c) l) {j : Nat} (hj : j < l.length) : ∃ r, A = some ⟨r, 0, none⟩ ∧ W.cell? ⟨r, j, none⟩ = some (.int .i64 (l[j] : Nat)) := by
  rcases own_shape h with ⟨_, h0⟩ | ⟨r, cap, e, _, _, _, hc, _⟩
  · omega
  · injection e with e1 e2 e3
    exact ⟨r, e1, hc j _ (by simp [c64, hj])⟩

/-- The state of Encode's loop. -/
structure En (w : World) (s : Sp) (a z : Int) (g : Nat) (t : Sp) (L : List Nat) (v : Value) (W : World) : Prop where
  sb : Bk W w.heap.size 47 s.cells
  ob : Bk W (w.heap.size + 1) 45 [.int .u8 a, .int .i64 z]
  want : ∃ n, Bk W g 47 [.int .i64 t.k, .int .i64 t.r, .int .i64 t.i, .int .u32 t.x, .int .i64 n]
  row : Rw W v L
  bel : Below w.heap.size w W
  lt : w.heap.size + 1 < g
section
variable {w W V : World} {s t : Sp} {a z : Int} {g : Nat} {L : List Nat} {v : Value}
theorem En.below (h : En w s a z g t L v W) (b : Below W.heap.size W V) : En w s a z g t L v V := by
  obtain ⟨n, hw⟩ := h.want
  exact ⟨h.sb.below b (Nat.le_refl _), h.ob.below b (Nat.le_refl _), ⟨n, hw.below b (Nat.le_refl _)⟩, own_below h.row b, bel2 h.bel b, h.lt⟩
theorem En.glt (h : En w s a z g t L v W) : g < W.heap.size := by obtain ⟨n, hw⟩ := h.want; exact hw.lt
theorem En.set (h : En w s a z g t L v W) (n : Int) : En w s a z g t L v (W.setCell ⟨g, 4, none⟩ (.int .i64 n)) ∧ Bk (W.setCell ⟨g, 4, none⟩ (.int .i64 n)) g 47 [.int .i64 t.k, .int .i64 t.r, .int .i64 t.i, .int .u32 t.x, .int .i64 n] := by
  obtain ⟨n', hw⟩ := h.want
  have hlt := h.lt
  have hs := hw.set 4 (.int .i64 n)
  refine ⟨⟨h.sb.far (by omega) 4 _, h.ob.far (by omega) 4 _, ⟨n, hs⟩, own_keep h.row (fun i hi => ?_), Below.setCell h.bel (by simp; omega) _, h.lt⟩, hs⟩
  exact Below.heap_setCell _ _ _ _ (Rw.notSpec hw h.row i hi)
end

theorem ws_kinds {k : Int} {z j : Nat} (h : j < (ws k z).length) : k = 0 ∨ (5 ≤ k ∧ k ≤ 13) := by
  unfold ws at h
  by_cases h1 : k = 0 ∨ (5 ≤ k ∧ k ≤ 9)
  · omega
  · rw [if_neg h1] at h
    by_cases h2 : k = 10 ∨ k = 11
    · omega
    · rw [if_neg h2] at h
      by_cases h3 : k = 12
      · omega
      · rw [if_neg h3] at h
        by_cases h4 : k = 13
        · omega
        · rw [if_neg h4] at h; simp at h
theorem ws_len (k : Int) (z : Nat) : (ws k z).length ≤ 3 := by
  unfold ws
  (repeat' split) <;> simp
theorem enw_drop {s : Sp} {a z : Int} {L : List Nat} {j : Nat} (h : j < L.length) : enw s a z (L.drop j) = if rd s a z L[j] = true then some (wr s a L[j]) else enw s a z (L.drop (j + 1)) := by
  rw [List.drop_eq_getElem_cons h]
  rfl

set_option maxRecDepth 100000 in
set_option maxHeartbeats 6400000 in
set_option maxRecDepth 100000 in
theorem encode_in (s : Sp) (a z : Int) (w : World) (ha : 0 ≤ a ∧ a < 256) (hx : U s.x) (hg : gd a z = true) (hr0 : 0 ≤ s.r) (hr1 : s.r ≤ 15) :
    Calls Tryz.prog 47 #[s.val, opv a z] w (EncP w (enw (td s) a z (ws s.k z.toNat))) := by
  have KI := fun w => Lib.hid (is_any a z ha w)
  rw [hg] at KI
  have hz := gd_sz hg
  obtain ⟨m, rfl⟩ : ∃ m : Nat, z = m := ⟨z.toNat, by rcases hz with rfl | rfl | rfl <;> rfl⟩
  rw [Int.toNat_natCast]
  have hm4 : m ≤ 4 := by rcases hz with h | h | h <;> omega
  have KT := fun w => Lib.hid (told_any s w)
  have KW := fun w => Lib.hid (widths_any s.k m w)
  have htk : (td s).k = s.k := rfl
  have hxt : U (td s).x := by
    unfold td
    simp only
    split
    · exact ⟨by omega, by omega⟩
    · exact hx
  have hl3 := ws_len s.k m
  have HWS := Lib.hid (ws_le (k := s.k) hm4)
  have HWK := Lib.hid (fun j (h : j < (ws s.k m).length) => ws_kinds h)
  have HXT := Lib.hid hxt
  have HA := Lib.hid ha
  obtain ⟨L, hL⟩ : ∃ L, ws s.k m = L := ⟨_, rfl⟩
  rw [hL] at HWS HWK KW hl3
  rw [hL]
  rw [← htk] at HWK
  obtain ⟨res, hres⟩ : ∃ res, enw (td s) a m L = res := ⟨_, rfl⟩
  rw [hres]
  have HRes := Lib.hid hres
  generalize td s = t at *
  have hr0' : ¬ s.r < 0 := by omega
  have hr1' : ¬ 15 < s.r := by omega
  obtain ⟨k, r, i, x, n⟩ := s
  simp only at hr0' hr1' KW KT
  obtain ⟨tk, tr, ti, tx, tn⟩ := t
  have HS : Hid (Bk ((w.alloc (.cells #[.int .i64 k, .int .i64 r, .int .i64 i, .int .u32 x, .int .i64 n] 47)).alloc (.cells #[.int .u8 a, .int .i64 m] 45)) w.heap.size 47 [.int .i64 k, .int .i64 r, .int .i64 i, .int .u32 x, .int .i64 n]) :=
    (Bk.new w _ [.int .i64 k, .int .i64 r, .int .i64 i, .int .u32 x, .int .i64 n]).below (al1 _ _) (Nat.le_refl _)
  have HOb : Hid (Bk ((w.alloc (.cells #[.int .i64 k, .int .i64 r, .int .i64 i, .int .u32 x, .int .i64 n] 47)).alloc (.cells #[.int .u8 a, .int .i64 m] 45)) (w.heap.size + 1) 45 [.int .u8 a, .int .i64 m]) := Lib.hid (by
    have := Bk.new (w.alloc (.cells #[.int .i64 k, .int .i64 r, .int .i64 i, .int .u32 x, .int .i64 n] 47)) 45 [.int .u8 a, .int .i64 m]
    simp at this
    exact this)
  clear ha hx hg hr0 hr1 hz htk hxt hL hres
  go_enter Tryz.func47, Tryz.ntmps47
  go_wp2_with fail
  refine (KI _).out.mono ?_
  rintro e w1 ⟨rfl, hb1⟩
  have hS := HS.out.below hb1 (Nat.le_refl _)
  have hO := HOb.out.below hb1 (Nat.le_refl _)
  have s0 := hS.cell 0 _ rfl
  have s1 := hS.cell 1 _ rfl
  have s2 := hS.cell 2 _ rfl
  have s3 := hS.cell 3 _ rfl
  have s4 := hS.cell 4 _ rfl
  have HS1 := Lib.hid hS
  have HO1 := Lib.hid hO
  have HB1 := Lib.hid (bel2 (a := w) (by go_grown) hb1)
  clear hS hO hb1 HS HOb
  go_wp2_with fail
  refine (KT _).out.mono ?_
  rintro e w2 ⟨rfl, hb2⟩
  clear s0 s1 s2 s3 s4
  have hS := (HS1.out.below hb2 (Nat.le_refl _)).below (al1 w2 (.cells #[.int .i64 tk, .int .i64 tr, .int .i64 ti, .int .u32 tx, .int .i64 tn] 47)) (Nat.le_refl _)
  have hO := (HO1.out.below hb2 (Nat.le_refl _)).below (al1 w2 (.cells #[.int .i64 tk, .int .i64 tr, .int .i64 ti, .int .u32 tx, .int .i64 tn] 47)) (Nat.le_refl _)
  have hT := Bk.new w2 47 [.int .i64 tk, .int .i64 tr, .int .i64 ti, .int .u32 tx, .int .i64 tn]
  have hlt2 := (HO1.out.below hb2 (Nat.le_refl _)).lt
  have s0 := hS.cell 0 _ rfl
  have o1 := hO.cell 1 _ rfl
  have HS2 := Lib.hid hS
  have HO2 := Lib.hid hO
  have HT2 := Lib.hid hT
  have HB2 := Lib.hid (bel2 (bel2 HB1.out hb2) (al1 w2 (.cells #[.int .i64 tk, .int .i64 tr, .int .i64 ti, .int .u32 tx, .int .i64 tn] 47)))
  clear hS hO hT hb2 HS1 HO1 HB1
  go_wp2_with fail
  refine (KW _).out.mono ?_
  rintro e w3 ⟨A, c, rfl, hrow, hb3⟩
  have HE : Hid (En w ⟨k, r, i, x, n⟩ a m w2.heap.size ⟨tk, tr, ti, tx, tn⟩ L (.slice A L.length c) w3) :=
    ⟨HS2.out.below hb3 (Nat.le_refl _), HO2.out.below hb3 (Nat.le_refl _), ⟨tn, HT2.out.below hb3 (Nat.le_refl _)⟩, hrow, bel2 HB2.out hb3, hlt2⟩
  clear s0 o1 hrow hb3 HS2 HO2 HT2 HB2 hlt2
  generalize w2.heap.size = g at *
  generalize hLl : L.length = ll at *
  have HLl := Lib.hid hLl
  clear hLl
  go_wp2
  go_loopw [33] (fun ii W => ∃ j : Nat, j ≤ ll ∧ ii = .int .i64 j ∧ En w ⟨k, r, i, x, n⟩ a m g ⟨tk, tr, ti, tx, tn⟩ L (.slice A ll c) W ∧ enw ⟨tk, tr, ti, tx, tn⟩ a m (L.drop j) = res) (fun ii _ => ll - (intOf ii).toNat)
  case atStart => exact ⟨0, Nat.zero_le _, rfl, HE.out, HRes.out⟩
  case round =>
    clear HE HRes
    obtain ⟨j, hj, rfl, hE, hres⟩ := hrel
    by_cases hlt : j < ll
    · have hjL : j < L.length := by rw [HLl.out]; exact hlt
      rw [enw_drop hjL] at hres
      have hw4 : L[j] ≤ 4 := HWS.out _ (List.getElem_mem hjL)
      have hkk := HWK.out j hlt
      obtain ⟨b, rfl, hcl⟩ := hE.row.at_ hjL
      generalize L[j] = wd at *
      have HE := Lib.hid hE
      obtain ⟨n', hw⟩ := hE.want
      have t0 := hw.cell 0 _ rfl
      have t1 := hw.cell 1 _ rfl
      have t2 := hw.cell 2 _ rfl
      have t3 := hw.cell 3 _ rfl
      have t4 := hw.cell 4 _ rfl
      have hgl := hw.lt
      have o0 := hE.ob.cell 0 _ rfl
      obtain ⟨bs, hbs⟩ : ∃ bs, Es.wr ⟨tk, tr, ti, tx, tn⟩ a wd = bs := ⟨_, rfl⟩
      have KWr : Hid (∀ W, Calls Tryz.prog 83 #[(Sp.mk tk tr ti tx n').val, .int .u8 a, .int .i64 wd] W fun e w' => ∃ A c, e = .returned (.slice A bs.length c) ∧ Mk W.heap.size W (.slice A bs.length c) bs w') := Lib.hid fun W => by
        have := written_any ⟨tk, tr, ti, tx, n'⟩ a wd W HXT.out hw4 hkk
        rw [← hbs]
        exact this
      have hbl : bs.length ≤ 6 := by rw [← hbs, wr_len]; split <;> split <;> omega
      have hbb : Byt bs := by
        rw [← hbs]
        unfold Es.wr
        refine Byt.app ?_ (Byt.app ?_ (low_byt _ _))
        · split
          · exact Byt.nil
          · exact Byt.cons (fs_byte (by omega) (by omega)) Byt.nil
        · split
          · exact Byt.nil
          · exact Byt.cons (bg_byte hw4 hkk) Byt.nil
      have hrd : rd ⟨tk, tr, ti, tx, tn⟩ a m wd = ((dec bs a m).2 == 0 && eqs (dec bs a m).1 ⟨tk, tr, ti, tx, bs.length⟩) := by unfold rd; rw [hbs]
      have KD : Hid (∀ W A c, By W A bs.length c bs → Calls Tryz.prog 15 #[.slice A bs.length c, opv a m] W fun e w' => e = .returned (.tuple #[(dec bs a m).1.val, .int .i64 (dec bs a m).2]) ∧ Below W.heap.size W w') := Lib.hid fun W A c h => decode_any A bs.length c bs a m W h (by omega) HA.out
      rw [hbs, hrd] at hres
      have HRs := Lib.hid hres
      have HBb := Lib.hid hbb
      generalize dec bs a m = d at *
      obtain ⟨⟨d1, d2, d3, d4, d5⟩, d6⟩ := d
      clear hE hw hres hrd hbb hbs hw4 hkk
      go_wp2_with fail
      refine (KWr.out _).mono ?_
      rintro e W1 ⟨A1, c1, rfl, hM⟩
      clear t0 t1 t2 t3 t4 o0
      have hE1 := HE.out.below hM.bel
      obtain ⟨hE2, hW2⟩ := hE1.set bs.length
      obtain ⟨n1, hw1⟩ := hE1.want
      have vf := hw1.free
      have t4 := hw1.cell 4 _ rfl
      have hgl1 := hE1.glt
      have o0 := hE1.ob.cell 0 _ rfl
      have o1 := hE1.ob.cell 1 _ rfl
      have hglt := hE1.lt
      have hR2 : R8 (W1.setCell ⟨g, 4, none⟩ (.int .i64 bs.length)) (.slice A1 bs.length c1) bs := own_keep hM.row fun q hq => by
        have hq2 := hM.ab q hq
        exact Below.heap_setCell _ _ _ _ (show q ≠ g by omega)
      have HR2 := Lib.hid hR2
      have HAb := Lib.hid (show Ab w.heap.size (Bl (.slice A1 bs.length c1)) from fun q hq => by have := hM.ab q hq; have := HE.out.bel.size; omega)
      have HE2 := Lib.hid hE2
      have HW2 := Lib.hid hW2
      clear hM hE1 hE2 hW2 hw1 hR2 hgl
      go_wp2_with fail
      refine (KD.out _ _ _ (HR2.out.by rfl HBb.out)).mono ?_
      rintro e W3 ⟨rfl, hb3⟩
      have hE3 := HE2.out.below hb3
      have hW3 := HW2.out.below hb3 (Nat.le_refl _)
      have HR3 := Lib.hid (own_below HR2.out hb3)
      clear t4 o0 o1 vf hgl1
      have w0 := hW3.cell 0 _ rfl
      have w1' := hW3.cell 1 _ rfl
      have w2' := hW3.cell 2 _ rfl
      have w3' := hW3.cell 3 _ rfl
      have w4' := hW3.cell 4 _ rfl
      have hgl3 := hW3.lt
      have HE3 := Lib.hid hE3
      clear hb3 hE3 hW3 HR2 HE2 HW2
      by_cases h6 : d6 = 0
      · subst h6
        cases he : eqs ⟨d1, d2, d3, d4, d5⟩ ⟨tk, tr, ti, tx, bs.length⟩ with
        | true =>
          have hr := HRs.out
          rw [he] at hr
          obtain rfl : some bs = res := by simpa using hr
          obtain ⟨rfl, rfl, rfl, rfl, rfl⟩ : d1 = tk ∧ d2 = tr ∧ d3 = ti ∧ d4 = tx ∧ d5 = bs.length := by
            have := eqs_iff.1 he
            simpa using this
          clear HRs he hr
          go_wp2
          go_ret2
          exact EncP.yes ⟨own_below HR3.out (al1 _ _), HAb.out, bel2 HE3.out.bel (al1 _ _), (bel2 HE3.out.bel (al1 _ _)).size⟩
        | false =>
          have hr := HRs.out
          rw [he] at hr
          have HR := Lib.hid (show enw ⟨tk, tr, ti, tx, tn⟩ a m (L.drop (j + 1)) = res by simpa using hr)
          have heq : (d1 == tk && (d2 == tr && (d3 == ti && (d4 == tx && d5 == (bs.length : Int))))) = false := he
          clear HRs he hr
          go_wp2
          all_goals
            first
              | (exfalso
                 rename_i e1 e2 e3 e4 e5
                 rw [e1, e2, e3, e4, e5] at heq
                 simp at heq
                 done)
              | (go_roundw
                 case rel => exact ⟨j + 1, hlt, by go_num, HE3.out.below (al1 _ _), HR.out⟩
                 case measure => first | (simp [intOf]; done) | (simp [intOf]; omega))
      · have g6 : (d6 == 0) = false := by simpa using h6
        have hr := HRs.out
        rw [g6] at hr
        have HR := Lib.hid (show enw ⟨tk, tr, ti, tx, tn⟩ a m (L.drop (j + 1)) = res by simpa using hr)
        clear HRs hr h6
        go_wp2
        go_roundw
        case rel => exact ⟨j + 1, hlt, by go_num, HE3.out.below (al1 _ _), HR.out⟩
        case measure => first | (simp [intOf]; done) | (simp [intOf]; omega)
    · obtain rfl : j = ll := by omega
      have HB := Lib.hid hE.bel
      obtain rfl : none = res := by
        rw [← hres, List.drop_of_length_le (by rw [HLl.out]; exact Nat.le_refl _)]
        rfl
      clear hE hres
      go_wp2
      go_ret2
      exact EncP.no HB.out

theorem encode_any (s : Sp) (a z : Int) (w : World) (ha : 0 ≤ a ∧ a < 256) (hx : U s.x) :
    Calls Tryz.prog 47 #[s.val, opv a z] w (EncP w (enc s a z)) := by
  unfold enc
  by_cases hg : gd a z = true
  · by_cases h0 : 0 ≤ s.r
    · by_cases h1 : s.r ≤ 15
      · rw [if_pos ⟨hg, h0, h1⟩]
        exact encode_in s a z w ha hx hg h0 h1
      · rw [if_neg (fun h => h1 h.2.2)]
        refine (encode_not s a z w ha (.inr (.inr ⟨hg, h0, by omega⟩))).mono ?_
        rintro e w' ⟨rfl, hb⟩
        exact EncP.no hb
    · rw [if_neg (fun h => h0 h.2.1)]
      refine (encode_not s a z w ha (.inr (.inl ⟨hg, by omega⟩))).mono ?_
      rintro e w' ⟨rfl, hb⟩
      exact EncP.no hb
  · rw [if_neg (fun h => hg h.1)]
    refine (encode_not s a z w ha (.inl (by simpa using hg))).mono ?_
    rintro e w' ⟨rfl, hb⟩
    exact EncP.no hb

end Go.Proofs.YtppkpfkoggnbmaaGreatDoor.Cs.Es
