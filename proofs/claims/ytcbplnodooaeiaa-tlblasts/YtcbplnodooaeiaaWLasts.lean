/- The walk of TlbLasts. -/
import Derived.Test.YtcbplnodooaeiaaTSrc
namespace Go.Proofs.Ytcbplnodooaeiaa.Cs
open Go.RowKit

set_option maxHeartbeats 400000 in
theorem lasts_long (P e : Int) (A : Option Addr) (n c : Nat) (w : World) (hn : 60 < n) :
    Calls Try.prog 4 #[.int .u32 P, .int .u32 e, .slice A n c] w fun e w' => e = .returned (.bool true) ∧ Below w.heap.size w w' := by
  have hn' : (60 : Int) < (n : Int) := by omega
  go_enter Try.func4, Try.ntmps4
  go_wp2_with fail
  refine (alive _).mono ?_
  rintro e w1 ⟨rfl, hb1⟩
  go_wp2
  go_ret
  exact ⟨rfl, hb1⟩

/-- The page is the first one, the others behind it are those that were seen. -/
structure Ls (w : World) (g : Nat) (P e : Int) (ss : List Int) (v : Value) (wr : World) : Prop where
  sh : ∃ A c, v = .slice A ss.length c
  rv : R1 wr v ss
  av : Ab w.heap.size (Bl v)
  bel : Below w.heap.size w wr
  tb : ∃ S xs, Tb wr g S xs ∧ pages xs = P :: ss ∧ (row xs 0).2 = e ∧ Apart S (Bl v) ∧ Ab w.heap.size S

theorem putR_known {xs : Rows} {P p y : Int} {ss : List Int} (hx : pages xs = P :: ss) (hp : p ∈ ss) (hne : p ≠ P) : pages (putR xs p y) = P :: ss ∧ row (putR xs p y) 0 = row xs 0 := by
  have hi : pos xs p < xs.length := hav_mem.2 (by rw [hx]; simp [hp])
  rw [putR, if_pos hi, pages_set hi]
  refine ⟨hx, ?_⟩
  have h0 : pos xs p ≠ 0 := by
    intro h0
    have := row_pos hi
    rw [h0, ← pages_getD, hx] at this
    simp at this
    exact hne this.symm
  simp only [row, List.getD]
  rw [List.getElem?_set_ne h0]
theorem putR_new {xs : Rows} {P p y : Int} {ss : List Int} (hx : pages xs = P :: ss) (hp : p ∉ ss) (hne : p ≠ P) (hl : ss.length < 7) : pages (putR xs p y) = P :: (ss ++ [p]) ∧ row (putR xs p y) 0 = row xs 0 := by
  have hi : ¬ pos xs p < xs.length := fun h => by
    have := hav_mem.1 h
    rw [hx] at this
    simp at this
    rcases this with h | h
    · exact hne h
    · exact hp h
  have hlen : xs.length = ss.length + 1 := by rw [← pages_length, hx]; simp
  rw [putR, if_neg hi, if_neg (by omega), pages_app, hx]
  refine ⟨by simp [pages], ?_⟩
  simp only [row, List.getD]
  rw [List.getElem?_append_left (by omega)]
theorem putR_gone {xs : Rows} {P p y : Int} {ss : List Int} (hx : pages xs = P :: ss) (hF : Fit xs) (hp : p ∉ ss) (hne : p ≠ P) (hl : ss.length = 7) : hav (putR xs p y) P = false ∧ ent (putR xs p y) P = 0 := by
  have hi : ¬ pos xs p < xs.length := fun h => by
    have := hav_mem.1 h
    rw [hx] at this
    simp at this
    rcases this with h | h
    · exact hne h
    · exact hp h
  have hlen : xs.length = ss.length + 1 := by rw [← pages_length, hx]; simp
  have hn : ¬ pos (putR xs p y) P < (putR xs p y).length := fun h => by
    have := hav_mem.1 h
    rw [putR, if_neg hi, if_pos (by omega), pages_app, pages_tail, hx] at this
    have hnd := hF.1
    rw [hx, List.nodup_cons] at hnd
    simp [pages] at this
    rcases this with h | h
    · exact hnd.1 h
    · exact hne h.symm
  exact ⟨decide_eq_false hn, ent_out hn⟩
theorem first_in {xs : Rows} {P e : Int} {ss : List Int} (hx : pages xs = P :: ss) (he : (row xs 0).2 = e) : hav xs P = true ∧ ent xs P = e := by
  cases xs with
  | nil => simp [pages] at hx
  | cons r xs =>
    simp [pages] at hx
    have : pos (r :: xs) P = 0 := pos_cons_eq hx.1
    exact ⟨by simp [hav, this], by rw [ent, this]; exact he⟩

/-- Behind a Put of a page that was seen, or wasn't. -/
theorem Ls.after {w wr w1 : World} {g : Nat} {P e : Int} {ss : List Int} {v : Value} {S S1 : Nat → Prop} (h : Ls w g P e ss v wr) (hst : Step S S1 wr w1) (ap : Apart S (Bl v)) (ab : Ab w.heap.size S) :
    R1 w1 v ss ∧ Apart S1 (Bl v) ∧ Ab w.heap.size S1 ∧ Below w.heap.size w w1 :=
  ⟨own_mods h.rv hst.mods ap, hst.apart ap (own_lo h.rv), hst.ab ab h.bel.size, hst.below h.bel ab h.bel.size⟩

theorem take_num (ss : List Int) (j : Nat) (h : j < ss.length) : ss.take (j + 1) = ss.take j ++ [ss.getD j 0] := by
  rw [List.take_add_one]
  simp [List.getD, h]

set_option maxHeartbeats 2000000 in
theorem lasts_short (P e : Int) (A : Option Addr) (n c : Nat) (ys : List Int) (w : World) (hP : U32 P) (he : U32 e) (hs : Src w A n ys) (hn : n ≤ 60) :
    Calls Try.prog 4 #[.int .u32 P, .int .u32 e, .slice A n c] w fun e w' => e = .returned (.bool true) ∧ Below w.heap.size w w' := by
  have hn' : ¬ (60 : Int) < (n : Int) := by omega
  have HS := Lib.hid hs
  have HP := Lib.hid hP
  have He := Lib.hid he
  clear hs hP he
  go_enter Try.func4, Try.ntmps4
  go_wp2_with fail
  refine (alive _).mono ?_
  rintro e' w1 ⟨rfl, hb1⟩
  go_wp2_with fail
  refine (new_any _).mono ?_
  rintro e' w2 ⟨g, S, rfl, hg, hg', h2, hab, hb2⟩
  go_wp2_with fail
  refine (put_any g S [] P e _ h2 HP.out He.out).mono ?_
  rintro e' w3 ⟨rfl, S3, h3, s3⟩
  have hb02 := bel_trans hb1 hb2 hb1.size
  have hab' : Ab w.heap.size S := fun k hk => Nat.le_trans hb1.size (hab k hk)
  have HL : Hid (Ls w g P e [] (.slice none 0 0) w3) := by
    have hp : putR [] P e = [(P, e)] := by simp [putR]
    rw [hp] at h3
    exact ⟨⟨_, _, rfl⟩, R1.nil _, fun k hk => absurd hk (bl_nil k), s3.below hb02 hab' hb02.size, S3, _, h3, rfl, rfl, fun k _ hk => absurd hk (bl_nil k), s3.ab hab' hb02.size⟩
  clear hb1 h2 hab hb2 h3 s3 hb02 hab' hg hg'
  go_wp2
  go_loopw [8, 28] (fun v i wr => ∃ k : Nat, k ≤ n ∧ i = .int .i64 k ∧ ∃ ss, ss.length ≤ 7 ∧ Ls w g P e ss v wr) (fun _ i _ => n - (intOf i).toNat)
  case atStart => exact ⟨0, Nat.zero_le _, rfl, [], by simp, HL.out⟩
  case round =>
    clear HL
    obtain ⟨k, hk, rfl, ss, hss, hL⟩ := hrel
    have HL := Lib.hid hL
    obtain ⟨B, d, rfl⟩ := hL.sh
    clear hL
    by_cases hlt : k < n
    · obtain ⟨ad, rfl, hx⟩ := HS.out.at_ HL.out.bel hlt
      have HU := Lib.hid (HS.out.num k)
      generalize ys.getD k 0 = p at hx HU
      by_cases hpp : p = P
      · subst hpp
        go_wp2
        go_roundw
        case rel => exact ⟨k + 1, by omega, by go_num, ss, hss, HL.out⟩
        case measure => simp [intOf]; omega
      · have hpp' : (p == P) = false := by simpa using hpp
        obtain ⟨S, xs, htb, hpg, hrow, hap, hab⟩ := HL.out.tb
        have HPg := Lib.hid hpg
        have HRow := Lib.hid hrow
        have HF := Lib.hid htb.fit
        go_wp2_with fail
        refine (put_any g S xs p _ _ htb HU.out ⟨by omega, by omega⟩).mono ?_
        rintro e' w4 ⟨rfl, S4, h4, s4⟩
        obtain ⟨hr4, ap4, ab4, bel4⟩ := HL.out.after s4 hap hab
        have H4 := Lib.hid h4
        have HR4 := Lib.hid hr4
        have HA4 := Lib.hid ap4
        have HAb := Lib.hid ab4
        have HB4 := Lib.hid bel4
        have HAv := Lib.hid HL.out.av
        obtain ⟨B', d', hsh, HC, _, _⟩ := hr4.open_
        injection hsh with e1 e2 e3
        subst e1 e3
        clear h4 s4 hr4 ap4 ab4 bel4 htb hpg hrow hap hab HL e2
        go_wp2
        go_loop [11, 42] (fun b i => ∃ j : Nat, j ≤ ss.length ∧ i = .int .i64 j ∧ b = .bool (decide (p ∈ ss.take j))) (fun _ i => ss.length - (intOf i).toNat)
        case atStart => exact ⟨0, Nat.zero_le _, rfl, by simp⟩
        case round =>
          obtain ⟨j, hj, rfl, rfl⟩ := hrel
          by_cases hjl : j < ss.length
          · obtain ⟨r, rfl, hrl, hq⟩ := HC.out j hjl
            have HT := Lib.hid (take_num ss j hjl)
            generalize ss.getD j 0 = q at hq HT
            by_cases hkn : p ∈ ss.take j
            · have hd : decide (p ∈ ss.take j) = true := decide_eq_true hkn
              rw [hd]
              go_wp2
              go_round
              case rel => exact ⟨j + 1, by omega, by go_num, by rw [HT.out]; simp [hkn]⟩
              case measure => simp [intOf]; omega
            · have hd : decide (p ∈ ss.take j) = false := decide_eq_false hkn
              rw [hd]
              by_cases hqp : q = p
              · subst hqp
                go_wp2
                go_round
                case rel => exact ⟨j + 1, by omega, by go_num, by rw [HT.out]; simp⟩
                case measure => simp [intOf]; omega
              · have hqp' : (q == p) = false := by simpa using hqp
                go_wp2
                go_round
                case rel => exact ⟨j + 1, by omega, by go_num, by rw [HT.out]; simp [hkn, Ne.symm hqp]⟩
                case measure => simp [intOf]; omega
          · have HJ : Hid (ss.take j = ss) := List.take_of_length_le (by omega)
            rw [HJ.out]
            by_cases hkn : p ∈ ss
            · have hd : decide (p ∈ ss) = true := decide_eq_true hkn
              rw [hd]
              obtain ⟨hx1, hx2⟩ := putR_known (y := (e + 1) % 4294967296) HPg.out hkn hpp
              rw [← hx2] at HRow
              have HFi := Lib.hid (first_in hx1 HRow.out)
              have hss' : (ss.length : Int) < 8 := by omega
              go_wp2_with fail
              refine (get_as g S4 _ P e true _ H4.out HFi.out.2 HFi.out.1).mono ?_
              rintro e' w5 ⟨rfl, hb5⟩
              have HE : Hid (Ls w g P e ss (.slice B ss.length d) w5) :=
                ⟨⟨_, _, rfl⟩, own_below HR4.out hb5, HAv.out, bel_trans HB4.out hb5 HB4.out.size, S4, _, H4.out.below hb5, hx1, HRow.out, HA4.out, HAb.out⟩
              clear hb5
              go_wp2
              go_roundw
              case rel => exact ⟨k + 1, by omega, by go_num, ss, hss, HE.out⟩
              case measure => simp [intOf]; omega
            · have hd : decide (p ∈ ss) = false := decide_eq_false hkn
              rw [hd]
              obtain ⟨r', cap', w5, hrun, H5⟩ := run_app1 w4 _ ss p HR4.out (by omega)
              have HRun := Lib.hid hrun
              have HTb := Lib.hid (H4.out.mods H5.out.2.mods HA4.out.symm)
              have HB5 := Lib.hid (H5.out.2.below HB4.out HAv.out HB4.out.size)
              have HA5 := Lib.hid (H5.out.2.apart HA4.out.symm H4.out.lo)
              have HAv5 := Lib.hid (H5.out.2.ab HAv.out HB4.out.size)
              clear hrun
              by_cases h7 : ss.length < 7
              · obtain ⟨hx1, hx2⟩ := putR_new (y := (e + 1) % 4294967296) HPg.out hkn hpp h7
                rw [← hx2] at HRow
                have HFi := Lib.hid (first_in hx1 HRow.out)
                have hss' : (ss.length : Int) + 1 < 8 := by omega
                go_wp2_with (first
                  | (at_builtin; refine wpList_append_run _ rfl (.tmp 55) (.tmp 57) _ _ rfl _ _ rfl rfl HRun.out ?_)
                  | (go_at_call 10; refine (get_as g S4 _ P e true _ HTb.out HFi.out.2 HFi.out.1).mono ?_; rintro e' w6 ⟨rfl, hb6⟩))
                have HE : Hid (Ls w g P e (ss ++ [p]) (.slice (some ⟨r', 0, none⟩) (ss.length + 1) cap') w6) :=
                  ⟨⟨_, _, by rw [List.length_append]; rfl⟩, own_below H5.out.1 hb6, HAv5.out, bel_trans HB5.out hb6 HB5.out.size, S4, _, HTb.out.below hb6, hx1, HRow.out, HA5.out.symm, HAb.out⟩
                go_roundw
                case rel => exact ⟨k + 1, by omega, by go_num, ss ++ [p], by simp; omega, HE.out⟩
                case measure => simp [intOf]; omega
              · have HFi := Lib.hid (putR_gone (y := (e + 1) % 4294967296) HPg.out HF.out hkn hpp (by omega))
                have hss' : ¬ (ss.length : Int) + 1 < 8 := by omega
                go_wp2_with (first
                  | (at_builtin; refine wpList_append_run _ rfl (.tmp 55) (.tmp 57) _ _ rfl _ _ rfl rfl HRun.out ?_)
                  | (go_at_call 10; refine (get_as g S4 _ P 0 false _ HTb.out HFi.out.2 HFi.out.1).mono ?_; rintro e' w6 ⟨rfl, hb6⟩))
                go_ret
                exact ⟨rfl, bel_trans HB5.out hb6 HB5.out.size⟩
    · go_wp2
      go_ret
      exact ⟨rfl, HL.out.bel⟩

theorem lasts_walk (P e : Int) (A : Option Addr) (n c : Nat) (zs : List Int) (w : World) (hP : (Lit.int .u32 P).wf = true) (he : (Lit.int .u32 e).wf = true)
    (h : (A = none ∧ n = 0 ∧ c = 0 ∧ zs = []) ∨ ∃ x : Addr, A = some x ∧ n ≤ c ∧ c ≤ maxLen ∧ zs.length = c ∧ (∀ i, i < zs.length → w.cell? (x.add i) = some (.int .u32 (zs.getD i 0))) ∧ ∀ n ∈ zs, (Lit.int .u32 n).wf = true) :
    Calls Try.prog 4 #[.int .u32 P, .int .u32 e, .slice A n c] w fun e w' => e = .returned (.bool true) ∧ Below w.heap.size w w' := by
  obtain ⟨ys, hs⟩ := src_of_row h
  have b1 := bounds_u32 hP
  have b2 := bounds_u32 he
  by_cases hn : 60 < n
  · exact lasts_long P e A n c w hn
  · exact lasts_short P e A n c ys w ⟨by omega, by omega⟩ ⟨by omega, by omega⟩ hs (by omega)

end Go.Proofs.Ytcbplnodooaeiaa.Cs
