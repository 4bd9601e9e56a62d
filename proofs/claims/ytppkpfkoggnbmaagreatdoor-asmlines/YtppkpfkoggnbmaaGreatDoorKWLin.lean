/- AsmLines: white signs and notes change nothing. -/
import Derived.Test.YtppkpfkoggnbmaaGreatDoorKWTxt
import Derived.Test.YtppkpfkoggnbmaaGreatDoorKLns
namespace Go.Proofs.YtppkpfkoggnbmaaGreatDoor.Cs.Ka
open Go.RowKit Es
open Ia (sb sb_size sb_get)
set_option linter.unusedVariables false
set_option linter.unusedSimpArgs false

def wd (l : Tx) : Bool := l.any fun c => decide (128 ≤ c.toNat)
theorem wd_cons (c : UInt8) (l : Tx) : wd (c :: l) = (decide (128 ≤ c.toNat) || wd l) := rfl
theorem wd_asc {l : Tx} (h : wd l = false) : Asc l := fun b hb => by
  unfold wd at h
  rw [List.any_eq_false] at h
  have := h b hb
  simpa using this

set_option maxHeartbeats 3200000 in
set_option maxRecDepth 100000 in
theorem wide_any (l : Tx) (w : World) (hl : l.length ≤ 1000000) : Calls Tryz.prog 12 #[.string (sb l)] w fun e w' => e = .returned (.bool (wd l)) ∧ w = w' := by
  have hS : (sb l).size = l.length := sb_size l
  have hg : ∀ k (hk : k < (sb l).size), (sb l)[k] = l.getD k 0 := sb_get l
  have HN : Hid (∀ k : Nat, k < (sb l).size → (l.drop k) = l.getD k 0 :: l.drop (k + 1)) := fun k h => drop_get l k (by omega)
  generalize sb l = s at *
  have HG := Lib.hid hg
  have HZ := Lib.hid hS
  have hm : s.size ≤ 1000000 := by omega
  clear hg hS
  go_enter Tryz.func12, Tryz.ntmps12
  go_wp2
  go_loop [3] (fun i => ∃ k : Nat, k ≤ s.size ∧ i = .int .i64 k ∧ wd (l.drop k) = wd l) (fun i => s.size - (intOf i).toNat)
  case atStart => exact ⟨0, Nat.zero_le _, rfl, rfl⟩
  case round =>
    obtain ⟨k, hk, rfl, hA⟩ := hrel
    by_cases hlt : k < s.size
    · have e := HG.out k hlt
      have hC := HN.out k hlt
      rw [hC, ← e, wd_cons] at hA
      clear hC e
      obtain ⟨c, hcc⟩ : ∃ c, s[k] = c := ⟨_, rfl⟩
      rw [hcc] at hA
      have hx : (s[k].toNat : Int) = (c.toNat : Int) := by rw [hcc]
      clear hcc
      by_cases h1 : 128 ≤ c.toNat
      · have HF : Hid (wd l = true) := by show _ = _; rw [← hA]; simp [h1]
        clear hA
        generalize c.toNat = n at *
        go_wp2
        go_ret
        exact ⟨ret_bool HF.out.symm, rfl⟩
      · have HA : Hid (wd (l.drop (k + 1)) = wd l) := by show _ = _; rw [← hA]; simp [h1]
        clear hA
        generalize c.toNat = n at *
        go_wp2
        go_round
        case rel => exact ⟨k + 1, by omega, by go_num, HA.out⟩
        case measure => first | (simp [intOf]; done) | (simp [intOf]; omega)
    · have e2 : l.drop k = [] := List.drop_eq_nil_of_le (by rw [← HZ.out]; omega)
      have HF : Hid (wd l = false) := by show _ = _; rw [← hA, e2]; rfl
      clear hA e2
      go_wp2
      go_ret
      exact ⟨ret_bool HF.out.symm, rfl⟩

/-- where the loop over a text's signs stands -/
structure Lr (t note : Tx) (k fr : Nat) (tl : Tx) : Prop where
  le : k ≤ t.length → fr ≤ k
  no : k ≤ t.length → (10 : UInt8) ∉ (t.drop fr).take (k - fr)
  eq : k ≤ t.length → tl ++ decT note (spl 10 (t.drop fr)) = decT note (spl 10 t)
  fin : t.length < k → tl = decT note (spl 10 t)
theorem Lr.start (t note : Tx) : Lr t note 0 0 [] := ⟨fun _ => Nat.le_refl _, fun _ => by simp, fun _ => by simp, fun h => by omega⟩
theorem take_more (t : Tx) (fr k : Nat) (h : fr ≤ k) (hk : k < t.length) : (t.drop fr).take (k + 1 - fr) = (t.drop fr).take (k - fr) ++ [t.getD k 0] := by
  have e : k + 1 - fr = k - fr + 1 := by omega
  have hl : k - fr < (t.drop fr).length := by rw [List.length_drop]; omega
  rw [e, List.take_succ_eq_append_getElem hl, List.getElem_drop]
  congr 1
  have e2 : fr + (k - fr) = k := by omega
  simp only [e2]
  simp [List.getD, hk]
theorem Lr.skip {t note tl : Tx} {k fr : Nat} (h : Lr t note k fr tl) (hk : k < t.length) (hc : t.getD k 0 ≠ 10) : Lr t note (k + 1) fr tl := by
  have h1 := h.le (by omega)
  refine ⟨fun _ => by omega, fun _ => ?_, fun _ => h.eq (by omega), fun h => by omega⟩
  rw [take_more t fr k h1 hk]
  intro hm
  rcases List.mem_append.1 hm with hm | hm
  · exact h.no (by omega) hm
  · exact hc (List.mem_singleton.1 hm).symm
theorem Lr.cut {t note tl : Tx} {k fr : Nat} (h : Lr t note k fr tl) (hk : k < t.length) (hc : t.getD k 0 = 10) : Lr t note (k + 1) (k + 1) (tl ++ deco note ((t.drop fr).take (k - fr)) ++ [10]) := by
  have h1 := h.le (by omega)
  have h2 := h.no (by omega)
  have h3 := h.eq (by omega)
  have e : t.drop fr = (t.drop fr).take (k - fr) ++ 10 :: t.drop (k + 1) := by
    have e1 : t.drop fr = (t.drop fr).take (k - fr) ++ (t.drop fr).drop (k - fr) := (List.take_append_drop _ _).symm
    have e2 : (t.drop fr).drop (k - fr) = t.drop k := by rw [List.drop_drop]; congr 1; omega
    have e3 : t.drop k = 10 :: t.drop (k + 1) := by rw [drop_get t k hk, hc]
    rw [e2, e3] at e1
    exact e1
  have e4 : decT note (spl 10 (t.drop fr)) = deco note ((t.drop fr).take (k - fr)) ++ 10 :: decT note (spl 10 (t.drop (k + 1))) := by
    have : spl 10 (t.drop fr) = (t.drop fr).take (k - fr) :: spl 10 (t.drop (k + 1)) := by
      have := congrArg (spl 10) e
      rw [spl_at _ h2] at this
      exact this
    rw [this, decT_cons _ _ (spl_ne 10 _)]
  rw [e4] at h3
  have h4 : (tl ++ deco note ((t.drop fr).take (k - fr)) ++ [10]) ++ decT note (spl 10 (t.drop (k + 1))) = decT note (spl 10 t) := by rw [← h3]; simp
  refine ⟨fun _ => Nat.le_refl _, fun _ => by simp, fun _ => h4, fun hh => ?_⟩
  omega
theorem Lr.last {t note tl : Tx} {k fr : Nat} (h : Lr t note k fr tl) (hk : k = t.length) : Lr t note (k + 1) (k + 1) (tl ++ deco note ((t.drop fr).take (k - fr))) := by
  have h1 := h.le (by omega)
  have h2 := h.no (by omega)
  have h3 := h.eq (by omega)
  have e : (t.drop fr).take (k - fr) = t.drop fr := List.take_of_length_le (by rw [List.length_drop]; omega)
  rw [e] at h2 ⊢
  rw [spl_no h2] at h3
  exact ⟨fun h => by omega, fun h => by omega, fun h => by omega, fun _ => h3⟩
theorem glue_deco (tl X note : Tx) : sb tl ++ ⟨#[9, 32]⟩ ++ sb X ++ ⟨#[32, 59]⟩ ++ sb note = sb (tl ++ deco note X) := by
  have h1 : sb tl ++ ⟨#[9, 32]⟩ = sb (tl ++ [9, 32]) := Ia.sb_append _ _
  have h2 : sb (tl ++ [9, 32]) ++ sb X = sb (tl ++ [9, 32] ++ X) := Ia.sb_append _ _
  have h3 : sb (tl ++ [9, 32] ++ X) ++ ⟨#[32, 59]⟩ = sb (tl ++ [9, 32] ++ X ++ [32, 59]) := Ia.sb_append _ _
  have h4 : sb (tl ++ [9, 32] ++ X ++ [32, 59]) ++ sb note = sb (tl ++ [9, 32] ++ X ++ [32, 59] ++ note) := Ia.sb_append _ _
  rw [h1, h2, h3, h4]
  congr 1
  simp [deco]
theorem glue_lf (l : Tx) : sb l ++ ⟨#[10]⟩ = sb (l ++ [10]) := Ia.sb_append _ _

set_option maxHeartbeats 6400000 in
set_option maxRecDepth 100000 in
theorem asmlines_out (t note : Tx) (w : World) (ht : Tz w) (h : 512 < t.length ∨ (¬ 512 < t.length ∧ 64 < note.length) ∨ (¬ 512 < t.length ∧ ¬ 64 < note.length ∧ wd (t ++ note) = true)) :
    Calls Tryz.prog 6 #[.string (sb t), .string (sb note)] w fun e w' => e = .returned (.bool true) ∧ Below w.heap.size w w' := by
  have HA := Lib.hid (alive w ht.lo ht.gt ht.gl)
  have hs1 := sb_size t
  have hs2 := sb_size note
  clear ht
  rcases h with h1 | ⟨h1, h2⟩ | ⟨h1, h2, h3⟩
  · generalize sb t = S at *
    generalize sb note = NT at *
    go_enter Tryz.func6, Tryz.ntmps6
    go_wp2_with (first | (go_at_call 8; refine HA.out.mono ?_; rintro e w1 ⟨rfl, hb⟩; have HL := Lib.hid hb; clear hb) | fail)
    go_ret
    exact ⟨rfl, HL.out⟩
  · generalize sb t = S at *
    generalize sb note = NT at *
    go_enter Tryz.func6, Tryz.ntmps6
    go_wp2_with (first | (go_at_call 8; refine HA.out.mono ?_; rintro e w1 ⟨rfl, hb⟩; have HL := Lib.hid hb; clear hb) | fail)
    go_ret
    exact ⟨rfl, HL.out⟩
  · have HW : Hid (∀ V, Calls Tryz.prog 12 #[.string (sb t ++ sb note)] V fun e w' => e = .returned (.bool true) ∧ V = w') := Lib.hid (by
      intro V
      have := wide_any (t ++ note) V (by simp; omega)
      rw [h3, ← Ia.sb_append] at this
      exact this)
    generalize sb t = S at *
    generalize sb note = NT at *
    go_enter Tryz.func6, Tryz.ntmps6
    go_wp2_with (first
      | (go_at_call 8; refine HA.out.mono ?_; rintro e w1 ⟨rfl, hb⟩; have HL := Lib.hid hb; clear hb)
      | (go_at_call 12; refine (HW.out _).mono ?_; rintro e w' ⟨rfl, rfl⟩)
      | fail)
    go_ret
    exact ⟨rfl, HL.out⟩

set_option maxHeartbeats 12800000 in
set_option maxRecDepth 100000 in
theorem asmlines_in (t note : Tx) (w : World) (ht : Tz w) (h1 : ¬ 512 < t.length) (h2 : ¬ 64 < note.length) (h3 : wd (t ++ note) = false) :
    Calls Tryz.prog 6 #[.string (sb t), .string (sb note)] w fun e w' => e = .returned (.bool true) ∧ Below w.heap.size w w' := by
  have HA := Lib.hid (alive w ht.lo ht.gt ht.gl)
  have hasc := wd_asc h3
  have hat : Asc t := fun b hb => hasc b (List.mem_append_left _ hb)
  have han : Asc note := fun b hb => hasc b (List.mem_append_right _ hb)
  have HW : Hid (∀ V, Calls Tryz.prog 12 #[.string (sb t ++ sb note)] V fun e w' => e = .returned (.bool false) ∧ V = w') := Lib.hid (by
    intro V
    have := wide_any (t ++ note) V (by simp; omega)
    rw [h3, ← Ia.sb_append] at this
    exact this)
  have H1 : Hid (∀ V, Below w.heap.size w V → Calls Tryz.prog 11 #[.string (sb t)] V (AsO V (asmF t))) := Lib.hid fun V hV => assemble_any V t hat (by omega) (ht.below hV).lo (ht.below hV).gt (ht.below hV).gl
  have H2 : Hid ((10 : UInt8) ∉ note → ∀ V, Below w.heap.size w V → Calls Tryz.prog 11 #[.string (sb (decT note (spl 10 t)))] V (AsO V (asmF t))) := Lib.hid fun hn V hV => by
    have hd := decT_okt han hat (by omega) (by omega)
    have := assemble_any V (decT note (spl 10 t)) hd.1 (by omega) (ht.below hV).lo (ht.below hV).gt (ht.below hV).gl
    rw [asm_decT hn (by omega) (by omega)] at this
    exact this
  have HX : Hid (∀ tl a b, sb tl ++ ⟨#[9, 32]⟩ ++ (sb t).extract a b ++ ⟨#[32, 59]⟩ ++ sb note = sb (tl ++ deco note ((t.drop a).take (b - a)))) := Lib.hid fun tl a b => by
    rw [Ia.sb_extract]
    exact glue_deco _ _ _
  have hs1 := sb_size t
  have hs2 := sb_size note
  have HG1 : Hid (∀ k (hk : k < (sb t).size), (sb t)[k] = t.getD k 0) := Lib.hid (sb_get t)
  have HG2 : Hid (∀ k (hk : k < (sb note).size), (sb note)[k] = note.getD k 0) := Lib.hid (sb_get note)
  have hz1 : (sb t).size ≤ 512 := by omega
  have hz2 : (sb note).size ≤ 64 := by omega
  have HZ1 := Lib.hid hs1
  have HZ2 := Lib.hid hs2
  clear ht hasc hat han h3 hs1 hs2 h1 h2
  generalize sb t = S at *
  generalize sb note = NT at *
  generalize asmF t = res at *
  obtain ⟨r1, r2, r3⟩ := res
  go_enter Tryz.func6, Tryz.ntmps6
  go_wp2_with (first
    | (go_at_call 8; refine HA.out.mono ?_; rintro e w1 ⟨rfl, hb⟩; have HL := Lib.hid hb; clear hb)
    | (go_at_call 12; refine (HW.out _).mono ?_; rintro e w' ⟨rfl, rfl⟩)
    | fail)
  go_loop [5] (fun i => ∃ k : Nat, k ≤ NT.size ∧ i = .int .i64 k ∧ ∀ j, j < k → note.getD j 0 ≠ 10) (fun i => NT.size - (intOf i).toNat)
  case atStart => exact ⟨0, Nat.zero_le _, rfl, fun j h => by omega⟩
  case round =>
    obtain ⟨k, hk, rfl, hA⟩ := hrel
    by_cases hlt : k < NT.size
    · have e := HG2.out k hlt
      obtain ⟨c, hcc⟩ : ∃ c, NT[k] = c := ⟨_, rfl⟩
      have hx : (NT[k].toNat : Int) = (c.toNat : Int) := by rw [hcc]
      rw [hcc] at e
      clear hcc
      by_cases hc : c = 10
      · subst hc
        clear hA e
        go_wp2
        go_ret
        exact ⟨rfl, HL.out⟩
      · have HB : Hid (∀ j, j < k + 1 → note.getD j 0 ≠ 10) := Lib.hid fun j hj => by
          by_cases h : j = k
          · subst h; rw [← e]; exact hc
          · exact hA j (by omega)
        have b10 : ((c.toNat : Int) == 10) = false := by
          apply beq_false_of_ne
          intro h
          exact hc (by rw [← UInt8.toNat_inj]; show c.toNat = 10; omega)
        clear hA e hc
        generalize c.toNat = n at *
        go_wp2
        go_round
        case rel => exact ⟨k + 1, by omega, by go_num, HB.out⟩
        case measure => first | (simp [intOf]; done) | (simp [intOf]; omega)
    · have hno : (10 : UInt8) ∉ note := fun hm => by
        obtain ⟨j, hj, e⟩ := List.mem_iff_getElem.1 hm
        refine hA j (by have := HZ2.out; omega) ?_
        simp [List.getD, hj, e]
      have HD := Lib.hid (H2.out hno)
      clear H2 hA hno
      have HS0 := Lib.hid (Lr.start t note)
      have hb1 := HL.out
      have HX2 := HX
      go_wp2
      go_loop [6, 7, 8] (fun tv f i => ∃ (k fr : Nat) (tt : ByteArray) (tl : Tx), k ≤ S.size + 1 ∧ i = .int .i64 k ∧ f = .int .i64 fr ∧ tv = .string tt ∧ tt = sb tl ∧ Lr t note k fr tl ∧ tl.length ≤ fr + 70 * k) (fun _ _ i => S.size + 1 - (intOf i).toNat)
      case atStart => exact ⟨0, 0, _, [], by omega, rfl, rfl, rfl, rfl, HS0.out, by simp⟩
      case round =>
        clear HS0 hlt hk HA HW
        obtain ⟨k, fr, tt, tl, hk, rfl, rfl, rfl, htt, hL, hln⟩ := hrel
        have hnl := HZ2.out
        have htl := HZ1.out
        by_cases hend : k ≤ S.size
        · have hfr := hL.le (by omega)
          have hfs : fr ≤ S.size := by omega
          have hts : tt.size ≤ 50000 := by rw [htt, Ia.sb_size]; omega
          have hxs : (S.extract fr k).size ≤ 600 := by rw [ByteArray.size_extract]; omega
          have hxl : ((t.drop fr).take (k - fr)).length = k - fr := by rw [List.length_take, List.length_drop]; omega
          have hdl : (deco note ((t.drop fr).take (k - fr))).length = k - fr + note.length + 4 := by simp only [deco, List.length_cons, List.length_append, hxl]; omega
          have HG : Hid (tt ++ ⟨#[9, 32]⟩ ++ S.extract fr k ++ ⟨#[32, 59]⟩ ++ NT = sb (tl ++ deco note ((t.drop fr).take (k - fr)))) := by
            show _ = _
            rw [htt]
            exact HX.out tl fr k
          have HDl := Lib.hid hdl
          have HLn := Lib.hid hln
          have HLr := Lib.hid hL
          by_cases hlt : k < S.size
          · have e := HG1.out k hlt
            obtain ⟨c, hcc⟩ : ∃ c, S[k] = c := ⟨_, rfl⟩
            have hx : (S[k].toNat : Int) = (c.toNat : Int) := by rw [hcc]
            rw [hcc] at e
            clear hcc
            have hks : ((k : Int) == (S.size : Int)) = false := by apply beq_false_of_ne; omega
            by_cases hc : c = 10
            · subst hc
              have HN := Lib.hid (HLr.out.cut (by omega) e.symm)
              have HG2' : Hid ((tt ++ ⟨#[9, 32]⟩ ++ S.extract fr k ++ ⟨#[32, 59]⟩ ++ NT) ++ ⟨#[10]⟩ = sb (tl ++ deco note ((t.drop fr).take (k - fr)) ++ [10])) := by
                show _ = _
                rw [HG.out]
                exact glue_lf _
              clear htt hL hln e hnl htl hxl hdl HX HX2
              go_wp2_with fail
              go_round
              case rel => exact ⟨k + 1, k + 1, _, _, by omega, by go_num, by go_num, rfl, HG2'.out, HN.out, by have := HZ2.out; have := HLn.out; have := HDl.out; simp only [List.length_append, List.length_cons, List.length_nil]; omega⟩
              case measure => first | (simp [intOf]; done) | (simp [intOf]; omega)
            · have HN := Lib.hid (HLr.out.skip (by omega) (by rw [← e]; exact hc))
              have b10 : ((c.toNat : Int) == 10) = false := by
                apply beq_false_of_ne
                intro h
                exact hc (by rw [← UInt8.toNat_inj]; show c.toNat = 10; omega)
              have HT := Lib.hid htt
              clear htt hL hln e hc hnl htl hxl hdl HX HX2
              generalize c.toNat = n at *
              go_wp2_with fail
              go_round
              case rel => exact ⟨k + 1, fr, tt, tl, by omega, by go_num, rfl, rfl, HT.out, HN.out, by have := HLn.out; omega⟩
              case measure => first | (simp [intOf]; done) | (simp [intOf]; omega)
          · obtain rfl : k = S.size := by omega
            have HN := Lib.hid (HLr.out.last (by omega))
            clear htt hL hln hnl htl hxl hdl HX HX2
            go_wp2_with fail
            go_round
            case rel => exact ⟨S.size + 1, S.size + 1, _, _, by omega, by go_num, by go_num, rfl, HG.out, HN.out, by have := HZ2.out; have := HLn.out; have := HDl.out; simp only [List.length_append]; omega⟩
            case measure => first | (simp [intOf]; done) | (simp [intOf]; omega)
        · obtain rfl : k = S.size + 1 := by omega
          have HE : Hid (tt = sb (decT note (spl 10 t))) := by
            show _ = _
            rw [htt, hL.fin (by omega)]
          clear htt hL hln hnl htl HX HX2
          rw [← HE.out] at HD
          unfold AsO at H1 HD
          simp only at H1 HD
          go_wp2_with (first
            | ((go_at_call 11; with_reducible refine (H1.out _ HL.out).mono ?_); intro e w2 hr; obtain ⟨A2, c2, rfl, hB, hb⟩ := hr; have HB2 := Lib.hid (bel2 HL.out hb); have HY2 := Lib.hid hB; clear hB hb)
            | ((go_at_call 11; with_reducible refine (HD.out _ HB2.out).mono ?_); intro e w3 hr; obtain ⟨A3, c3, rfl, hB, hb⟩ := hr; have HB3 := Lib.hid (bel2 HB2.out hb); have hs2 := run_str (HY2.out.below hb (Nat.le_refl _)); have hs3 := run_str hB; clear hB hb; generalize str r1 = q at *)
            | fail)
          go_ret
          exact ⟨rfl, HB3.out⟩

theorem asmlines_walk (a0 a1 : ByteArray) (w : World) (ht : Tz w) : Calls Tryz.prog 6 #[.string a0, .string a1] w fun e w' => e = .returned (.bool true) ∧ Below w.heap.size w w' := by
  rw [Ia.sb_of a0, Ia.sb_of a1]
  generalize a0.data.toList = t
  generalize a1.data.toList = note
  by_cases h1 : 512 < t.length
  · exact asmlines_out t note w ht (.inl h1)
  · by_cases h2 : 64 < note.length
    · exact asmlines_out t note w ht (.inr (.inl ⟨h1, h2⟩))
    · cases h3 : wd (t ++ note)
      · exact asmlines_in t note w ht h1 h2 h3
      · exact asmlines_out t note w ht (.inr (.inr ⟨h1, h2, h3⟩))

end Go.Proofs.YtppkpfkoggnbmaaGreatDoor.Cs.Ka
