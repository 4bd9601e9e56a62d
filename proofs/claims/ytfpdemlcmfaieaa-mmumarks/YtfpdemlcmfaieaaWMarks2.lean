/- The walk of MmuMarks. -/
import Derived.Test.YtfpdemlcmfaieaaWMarks
namespace Go.Proofs.Ytfpdemlcmfaieaa.Cs
open Go.RowKit

set_option maxHeartbeats 400000 in
theorem marks_out (f a x : Int) (b : Bool) (w : World) (h : 6 < f ∨ f = 0 ∨ 508 < a) :
    Calls Try.prog 7 #[.int .u32 f, .int .u32 a, .int .u32 x, .bool b] w fun e w' => e = .returned (.bool true) ∧ Below w.heap.size w w' := by
  have K : ∀ p q r : Bool, decide (6 < f) = p → (f == 0) = q → decide (508 < a) = r → (p = true ∨ q = true ∨ r = true) → Calls Try.prog 7 #[.int .u32 f, .int .u32 a, .int .u32 x, .bool b] w fun e w' => e = .returned (.bool true) ∧ Below w.heap.size w w' := by
    intro p q r hp hq hr ho
    cases p
    · have hp' : ¬ 6 < f := by simpa using hp
      cases q
      · cases r
        · simp at ho
        · have hr' : 508 < a := by simpa using hr
          clear hp hr ho h
          go_enter Try.func7, Try.ntmps7
          go_wp2_with fail
          refine (alive _).mono ?_
          rintro e w1 ⟨rfl, hb1⟩
          go_wp2
          go_ret
          exact ⟨rfl, hb1⟩
      · have hq' : f = 0 := by simpa using hq
        subst hq'
        clear hp hr ho h
        go_enter Try.func7, Try.ntmps7
        go_wp2_with fail
        refine (alive _).mono ?_
        rintro e w1 ⟨rfl, hb1⟩
        go_wp2
        go_ret
        exact ⟨rfl, hb1⟩
    · have hp' : 6 < f := by simpa using hp
      clear hp hq hr ho h
      go_enter Try.func7, Try.ntmps7
      go_wp2_with fail
      refine (alive _).mono ?_
      rintro e w1 ⟨rfl, hb1⟩
      go_wp2
      go_ret
      exact ⟨rfl, hb1⟩
  refine K _ _ _ rfl rfl rfl ?_
  simpa using h

theorem low_num {x : Int} (h : U x) : Rm.num (Rm.low x 4) = x := by
  rw [Rm.num_low]
  obtain ⟨h0, h1⟩ := h
  show x % 4294967296 = x
  omega

/-- The memory ahead, and behind the write. -/
def mX (f : Int) : List Int := splice (List.replicate 4096 0) 0 (Rm.low (2550136832 + f) 4)
def mY (f a x : Int) : List Int := splice (splice (mX f) 0 (Rm.low (mE f true) 4)) (f * 512 + a).toNat (Rm.low x 4)
theorem mX_len (f : Int) : (mX f).length = 4096 := by unfold mX; rw [length_splice _ _ _ (by rw [Rm.low_length, List.length_replicate]; omega), List.length_replicate]
theorem mX1_len (f : Int) (y : Int) : (splice (mX f) 0 (Rm.low y 4)).length = 4096 := by rw [length_splice _ _ _ (by rw [Rm.low_length, mX_len]; omega), mX_len]
theorem mX_val {f : Int} (hf : 0 ≤ f) (hf' : f ≤ 6) : Rm.val (mX f) 0 4 = mE f false := by
  unfold mX
  rw [Rm.val_put _ 0 4 _ (by rw [List.length_replicate]; omega)]
  show (2550136832 + f) % 4294967296 = _
  unfold mE
  simp
  omega
theorem mX_zero {f a : Int} (hf : 1 ≤ f) (hf' : f ≤ 6) (ha : 0 ≤ a) : Rm.val (mX f) (f * 512 + a).toNat 4 = 0 := by
  unfold mX
  rw [val_behind _ _ _ _ _ (by rw [Rm.low_length]; omega) (by rw [Rm.low_length, List.length_replicate]; omega), val_zero]
theorem mX_gat {f a : Int} (hf : 1 ≤ f) (hf' : f ≤ 6) (ha : 0 ≤ a) : Rm.num (gat (mX f) [⟨a, f * 512 + a, 4⟩]) = 0 := by
  have : gat (mX f) [⟨a, f * 512 + a, 4⟩] = ((mX f).drop (f * 512 + a).toNat).take 4 := by simp [gat]
  rw [this]
  exact mX_zero hf hf' ha
theorem mY_len {f a x : Int} (hf : 1 ≤ f) (hf' : f ≤ 6) (ha : 0 ≤ a) (ha' : a ≤ 508) : (mY f a x).length = 4096 := by unfold mY; rw [length_splice _ _ _ (by rw [Rm.low_length, mX1_len]; omega), mX1_len]
theorem mY_at {f a x : Int} (hf : 1 ≤ f) (hf' : f ≤ 6) (ha : 0 ≤ a) (ha' : a ≤ 508) (hx : U x) : Rm.val (mY f a x) (f * 512 + a).toNat 4 = x := by
  unfold mY
  rw [Rm.val_put _ _ 4 _ (by rw [mX1_len]; omega)]
  obtain ⟨h0, h1⟩ := hx
  show x % 4294967296 = x
  omega
theorem mY_gat {f a x : Int} (hf : 1 ≤ f) (hf' : f ≤ 6) (ha : 0 ≤ a) (ha' : a ≤ 508) (hx : U x) : Rm.num (gat (mY f a x) [⟨a, f * 512 + a, 4⟩]) = x := by
  have : gat (mY f a x) [⟨a, f * 512 + a, 4⟩] = ((mY f a x).drop (f * 512 + a).toNat).take 4 := by simp [gat]
  rw [this]
  exact mY_at hf hf' ha ha' hx
theorem mY_entry {f a x : Int} (hf : 1 ≤ f) (hf' : f ≤ 6) (ha : 0 ≤ a) (ha' : a ≤ 508) : Rm.val (mY f a x) 0 4 = mE f true := by
  unfold mY
  rw [val_before _ _ _ _ _ (by omega) (by rw [mX1_len]; omega), Rm.val_put _ 0 4 _ (by rw [mX_len]; omega)]
  obtain ⟨_, _, h0, h1⟩ := mE_use (b := true) (wr := true) (f := f) (by omega) hf'
  show mE f true % 4294967296 = _
  omega
theorem mY_of {f a x : Int} (hf : 1 ≤ f) (hf' : f ≤ 6) (ha : 0 ≤ a) (ha' : a ≤ 508) : stM mT (mX f) [(0, mE f false)] (Rm.low x 4) (.ok [⟨a, f * 512 + a, 4⟩]) = mY f a x ∧ stR mT (mX f) [(0, mE f false)] (.ok [⟨a, f * 512 + a, 4⟩]) = [(0, mE f true)] := by
  have e := m_marks (f := f) (a := a) (by omega) hf' ha ha' (mX_len f) (mX_val (by omega) hf')
  simp only [stM, stR, e, pts, mY]
  refine ⟨?_, trivial⟩
  rw [List.take_of_length_le (by rw [Rm.low_length]; exact Nat.le_refl _)]

set_option maxRecDepth 100000 in
set_option maxHeartbeats 2000000 in
theorem marks_in (f a x : Int) (b : Bool) (w : World) (hf : 1 ≤ f) (hf' : f ≤ 6) (ha : 0 ≤ a) (ha' : a ≤ 508) (hx : U x) :
    Calls Try.prog 7 #[.int .u32 f, .int .u32 a, .int .u32 x, .bool b] w fun e w' => e = .returned (.bool true) ∧ Below w.heap.size w w' := by
  have g1 : ¬ 6 < f := by omega
  have g2 : (f == 0) = false := by simp; omega
  have g3 : ¬ 508 < a := by omega
  have HX := Lib.hid hx
  obtain ⟨x0, x1⟩ := hx
  have HU : Hid (U a) := ⟨by omega, by omega⟩
  go_enter Try.func7, Try.ntmps7
  go_wp2_with fail
  refine (alive _).mono ?_
  rintro e w0 ⟨rfl, hb0⟩
  have HB0 := Lib.hid hb0
  clear hb0
  go_wp2_with fail
  refine (Rm.new_any 4096 _).mono ?_
  rintro e w1 ⟨rg, r, rfl, h1, h2, hm, hb⟩
  have hr : w.heap.size ≤ r := Nat.le_trans HB0.out.size h2
  have HM := Lib.hid hm
  have HB := Lib.hid (Tl.bel2 HB0.out hb)
  rw [show Rm.sized 4096 = 4096 from rfl] at HM
  clear hm hb h1 h2 HB0
  go_wp2_with fail
  refine (Rm.put_at rg r _ 0 4 0 4 rfl rfl (2550136832 + f) _ HM.out (by omega) (by rw [List.length_replicate]; omega)).mono ?_
  rintro e w2 ⟨rfl, hm2, hg2⟩
  have HM2 : Hid (Rm.Mem w2 rg r (mX f)) := hm2
  have HB2 := Lib.hid (Rm.below_of_grown HB.out hg2 HB.out.size hr)
  clear hm2 hg2 HM HB
  go_wp2_with fail
  refine (mnew_any rg _).mono ?_
  rintro e w4 ⟨g, tg, S, rfl, h4, _, hx, hA, hb⟩
  have HT := Lib.hid (Tp.make HM2.out hr HB2.out h4 hx hA hb)
  clear h4 hx hA hb HM2 HB2
  go_wp2_with fail
  refine (set_any g rg tg S noTabs mT [] _ HT.out.ms.mx mT_ok).mono ?_
  rintro e w5 ⟨rfl, S5, hx5, hs5⟩
  have HT5 := Lib.hid (HT.out.set hx5 hs5)
  clear hx5 hs5 HT
  go_wp2_with fail
  refine (probe_any g rg tg r S5 mT [] (mX f) a 4 true true _ HT5.out.ms.mx HT5.out.ms.mem HU.out (by omega) _ _ (m_first (by omega) hf' ha ha' (mX_len f) (mX_val (by omega) hf'))).mono ?_
  rintro e w6 ⟨hE, S6, hT6, hs6⟩
  obtain rfl := hE
  have HT6 := Lib.hid (HT5.out.turn hT6 hs6)
  clear hT6 hs6 HT5
  have hz6 := HT6.out.bel.size
  cases b
  · go_wp2_with fail
    refine (get_any g rg tg r S6 mT _ _ (mX f) _ a 4 true _ (HT6.out.ms.below (by go_grown)) HU.out (m_then (by omega) hf' ha ha' (mX_len f))).mono ?_
    rintro e w7 ⟨rfl, S7, hm7, hs7⟩
    have HF := Lib.hid (Fv.mods (Fv.new (W := w6)) (HT6.out.ms.below (by go_grown)) (step_rg hs7).mods)
    have HT7 := Lib.hid ((HT6.out.below (by go_grown)).turn' hm7 hs7)
    have HN := Lib.hid (mX_gat (a := a) hf hf' ha)
    have HN' : Hid (Rm.val (mX f) (f * 512 + a).toNat 4 = 0) := mX_zero hf hf' ha
    rw [show accY (mX f) (.ok [⟨a, f * 512 + a, 4⟩]) = gat (mX f) [⟨a, f * 512 + a, 4⟩] from rfl, HN.out]
    clear hm7 hs7 HT6
    obtain ⟨c0, c1, c2, _, _, _⟩ := HF.out.cells
    have hz := HF.out.lt
    go_wp2_with fail
    refine (Rm.get_four rg r (mX f) 0 0 4096 rfl (mX_len f) (2550136832 + f) (by rw [mX_val (by omega) hf']; simp [mE]) _ (HT7.out.ms.mem.below_ (by go_grown)) (by omega)).mono ?_
    rintro e w' ⟨rfl, rfl⟩
    go_wp2_with fail
    refine (Rm.get_four rg r (mX f) _ (f * 512 + a).toNat 4096 (by omega) (mX_len f) 0 HN'.out _ (HT7.out.ms.mem.below_ (by go_grown)) (by omega)).mono ?_
    rintro e w' ⟨rfl, rfl⟩
    go_wp2
    go_ret
    exact ⟨rfl, (HT7.out.below (by go_grown)).bel⟩
  · go_wp2_with fail
    refine (put_any g rg tg r S6 mT _ _ (mX f) _ a x 4 4 true _ (HT6.out.ms.below (by go_grown)) HU.out rfl (m_then (by omega) hf' ha ha' (mX_len f))).mono ?_
    rintro e w7 ⟨rfl, S7, hm7, hs7⟩
    obtain ⟨eM, eR⟩ := mY_of (x := x) hf hf' ha ha'
    rw [eM, eR] at hm7
    have HF := Lib.hid (Fv.mods (Fv.new (W := w6)) (HT6.out.ms.below (by go_grown)) hs7.mods)
    have HT7 := Lib.hid ((HT6.out.below (by go_grown)).step hm7 hs7)
    clear hm7 hs7 HT6 eM eR
    obtain ⟨c0, c1, c2, f0, f1, f2⟩ := HF.out.cells
    have hz := HF.out.lt
    have HF8 := Lib.hid (HF.out.set 0 0 0)
    have HT8 := Lib.hid (HT7.out.fv HF.out hz6 0 0 0)
    go_wp2_with fail
    refine (get_any g rg tg r S7 mT _ _ (mY f a x) _ a 4 true _ HT8.out.ms HU.out (m_then (by omega) hf' ha ha' (mY_len hf hf' ha ha'))).mono ?_
    rintro e w9 ⟨rfl, S9, hm9, hs9⟩
    have HF9 := Lib.hid (Fv.mods HF8.out HT8.out.ms (step_rg hs9).mods)
    have HT9 := Lib.hid (HT8.out.turn' hm9 hs9)
    have HN := Lib.hid (mY_gat hf hf' ha ha' HX.out)
    rw [show accY (mY f a x) (.ok [⟨a, f * 512 + a, 4⟩]) = gat (mY f a x) [⟨a, f * 512 + a, 4⟩] from rfl, HN.out]
    clear hm9 hs9 HT8 HF8 HT7 HF c0 c1 c2 f0 f1 f2 hz
    obtain ⟨c0, c1, c2, _, _, _⟩ := HF9.out.cells
    have hz := HF9.out.lt
    go_wp2_with fail
    refine (Rm.get_four rg r (mY f a x) 0 0 4096 rfl (mY_len hf hf' ha ha') (2550136832 + f + 67108864) (by rw [mY_entry hf hf' ha ha']; simp [mE]) _ (HT9.out.ms.mem.below_ (by go_grown)) (by omega)).mono ?_
    rintro e w' ⟨rfl, rfl⟩
    go_wp2_with fail
    refine (Rm.get_four rg r (mY f a x) _ (f * 512 + a).toNat 4096 (by omega) (mY_len hf hf' ha ha') x (mY_at hf hf' ha ha' HX.out) _ (HT9.out.ms.mem.below_ (by go_grown)) (by omega)).mono ?_
    rintro e w' ⟨rfl, rfl⟩
    go_wp2
    go_ret
    exact ⟨rfl, (HT9.out.below (by go_grown)).bel⟩

theorem marks_walk (f a x : Int) (b : Bool) (hf : (Lit.int .u32 f).wf = true) (ha : (Lit.int .u32 a).wf = true) (hx : (Lit.int .u32 x).wf = true) (w : World) :
    Calls Try.prog 7 #[.int .u32 f, .int .u32 a, .int .u32 x, .bool b] w fun e w' => e = .returned (.bool true) ∧ Below w.heap.size w w' := by
  have h1 := bounds_u32 hf
  have h2 := bounds_u32 ha
  have h3 := bounds_u32 hx
  by_cases h : 6 < f ∨ f = 0 ∨ 508 < a
  · exact marks_out f a x b w h
  · exact marks_in f a x b w (by omega) (by omega) (by omega) (by omega) ⟨by omega, by omega⟩

end Go.Proofs.Ytfpdemlcmfaieaa.Cs
