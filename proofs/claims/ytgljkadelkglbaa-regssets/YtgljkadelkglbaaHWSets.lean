/- The walk of RegsSets. -/
import Derived.Test.YtgljkadelkglbaaHSrc
namespace Go.Proofs.Ytgljkadelkglbaa.Cs
open Go.RowKit Ps Tl

/-- what Set answers, and the registers behind it -/
def Sk (f h : Re) (n x z v : Int) : Prop :=
  (v = 1 ∧ h = f) ∨ (v = 0 ∧ ∃ k : Nat, n = k ∧ k < 16 ∧ Bt.Sz z ∧ h = f.reg k (pu (f.r.getD k 0) x z))
theorem Sk.ok {f h : Re} {n x z v : Int} (k : Sk f h n x z v) (hf : f.Ok) : h.Ok := by
  rcases k with ⟨_, rfl⟩ | ⟨_, j, _, hj, hz, rfl⟩
  · exact hf
  · exact Re.reg_ok hf (pu_U _ _ _ hz (hf.num j))
theorem Sk.at_ {f h : Re} {n x z v : Int} (k : Sk f h n x z v) (i : Nat) : h.r.getD i 0 = f.r.getD i 0 ∨ (n = i ∧ v = 0) := by
  rcases k with ⟨_, rfl⟩ | ⟨hv, j, hn, hj, hz, rfl⟩
  · exact .inl rfl
  · by_cases hij : j = i
    · subst hij; exact .inr ⟨hn, hv⟩
    · left
      show (f.r.set j _).getD i 0 = _
      rw [getD_set, if_neg (by simp [hij])]
theorem Sk.rest {f h : Re} {n x z v : Int} (k : Sk f h n x z v) : h.p = f.p ∧ h.k = f.k ∧ h.u = f.u := by
  rcases k with ⟨_, rfl⟩ | ⟨_, j, _, _, _, rfl⟩
  · exact ⟨rfl, rfl, rfl⟩
  · exact ⟨rfl, rfl, rfl⟩
theorem set_case (f : Re) (n x z : Int) (hx : U x) : ∃ h v, Sk f h n x z v ∧ ∀ (w : World) (g : Nat) (ss : List Int) (m : Int), Fi w g f ss m →
    Calls Try.prog 10 #[.pointer (some ⟨g, 0, none⟩), .int .i64 n, .int .u32 x, .int .i64 z] w fun r w' =>
      r = .returned (.int .i64 v) ∧ Fi w' g h ss m ∧ Mods (One g) w w' := by
  by_cases hn : n < 0 ∨ 15 < n
  · exact ⟨f, 1, .inl ⟨rfl, rfl⟩, fun w g ss m hF => (set_out w g n hn x z).mono fun _ _ h => ⟨h.1, h.2 ▸ hF, h.2 ▸ Mods.refl _ _⟩⟩
  · obtain ⟨j, rfl⟩ := Int.eq_ofNat_of_zero_le (show 0 ≤ n by omega)
    have hj : j < 16 := by omega
    rcases sz_or z with hz | hz
    · exact ⟨_, 0, .inr ⟨rfl, j, rfl, hj, hz, rfl⟩, fun w g ss m hF => set_in w g f ss m hF j hj x hx z hz⟩
    · exact ⟨f, 1, .inl ⟨rfl, rfl⟩, fun w g ss m hF => (set_not w g j hj x z hz).mono fun _ _ h => ⟨h.1, h.2 ▸ hF, h.2 ▸ Mods.refl _ _⟩⟩

/-- a File, the state that came in, what was, and what is now -/
structure L3 (w W : World) (b g q t : Nat) (s : Re) (x : Xs) (f h : Re) (ss : List Int) : Prop where
  l2 : L2 w W b g q s x h ss 1 f
  nw : Sb W t h x
theorem L3.below {w W W' : World} {b g q t : Nat} {s f h : Re} {x : Xs} {ss : List Int} (l : L3 w W b g q t s x f h ss) (m : Below W.heap.size W W') : L3 w W' b g q t s x f h ss := ⟨l.l2.below m, l.nw.below m⟩
theorem Sb.c_r {W : World} {b : Nat} {s : Re} {x : Xs} (h : Sb W b s x) {i : Nat} (hi : i < 16) : W.cell? ⟨b, i, none⟩ = some (.int .u32 (s.r.getD i 0)) := h.bk.cell _ _ (Re.at_r h.ok _ hi)

theorem below_drewN (w : World) (n : Nat) : Below w.heap.size w (w.drewN n) := ⟨rfl, rfl, rfl, Nat.le_refl _, fun _ _ => rfl⟩

set_option maxHeartbeats 4000000 in
theorem sets_walk0 (s : Re) (x : Xs) (n y z : Int) (w : World) (hs : s.Ok) (hy : U y) :
    Calls Try.prog 6 #[sv s x, .int .i64 n, .int .u32 y, .int .i64 z] w fun r w' => r = .returned (.bool true) ∧ Below w.heap.size w w' := by
  have HS := Lib.hid hs
  have HY := Lib.hid hy
  clear hs hy
  go_enter Try.func6, Try.ntmps6
  go_wp2_with (refine wl_box rfl _ _ rfl _ rfl ?_)
  refine (alive_any _).mono ?_
  rintro _ w1 ⟨rfl, b1⟩
  have HT := Lib.hid ((Sb.new w x HS.out).below b1)
  have HB := Lib.hid (below2 ((Below.refl w.heap.size w).alloc (Nat.le_refl _) _) b1)
  clear b1
  have hbl := HT.out.lt
  generalize hb : w.heap.size = b at *
  go_wp2_with fail
  refine (new_any _).mono ?_
  rintro _ w2 ⟨rfl, f2, b2⟩
  have H2 := Lib.hid (Hd.new (hb.symm ▸ HB.out) f2 b2)
  have T2 := Lib.hid (HT.out.below b2)
  have HN : Hid (b ≠ w1.heap.size) := Nat.ne_of_lt hbl
  clear f2 b2 HT HB hbl
  generalize w1.heap.size = g at *
  go_wp2_with (refine wl_state rfl _ rfl b rfl s x T2.out ?_)
  refine (load_any _ g _ s x _ _ H2.out.fi HS.out).mono ?_
  rintro _ w3 ⟨rfl, f3, m3⟩
  have H3 := Lib.hid (H2.out.step f3 m3)
  have T3 := Lib.hid (T2.out.mods m3 HN.out)
  clear f3 m3 H2 T2
  go_wp2_with fail
  refine (step_3 _ g _ _ _ H3.out.fi 5 ⟨by omega, by omega⟩ (by omega) (by omega)).mono ?_
  rintro _ w4 ⟨rfl, f4, m4⟩
  have H4 := Lib.hid (H3.out.step f4 m4)
  have T4 := Lib.hid (T3.out.mods m4 HN.out)
  clear f4 m4 H3 T3
  rw [show (0 : Int) + 1 = 1 from rfl] at H4
  have HF := Lib.hid H4.out.fi.ok
  generalize s.reg 3 (ad (s.r.getD 3 0) 5) = f at *
  generalize zs.set 3 (ad (zs.getD 3 0) 5) = ss at *
  obtain ⟨h, v, hk, hc⟩ := set_case f n y z HY.out
  have HK := Lib.hid hk
  have HC := Lib.hid hc
  clear hk hc
  go_wp2_with (refine wl_state rfl _ rfl b rfl s x T4.out ?_)
  refine (save_any _ g _ s x _ _ H4.out.fi HS.out).mono ?_
  rintro _ w6 ⟨rfl, b6⟩
  have H6 := Lib.hid (H4.out.below b6)
  have T6 := Lib.hid (T4.out.below b6)
  clear b6 H4 T4
  have H7 := Lib.hid (L2.mk' H6.out T6.out HN.out)
  go_upto_region 7 with (refine wl_keep rfl _ _ rfl w6 (z26_new w6) rfl f x HF.out rfl ?_)
  clear H6 T6 HN
  generalize w6.alloc (.cells (f.cells x.l).toArray 28) = w7 at *
  generalize w6.heap.size = q at *
  go_wp2_with fail
  refine (HC.out _ g _ _ H7.out.hd.fi).mono ?_
  rintro _ w8 ⟨rfl, f8, m8⟩
  have H8 := Lib.hid (H7.out.step f8 m8)
  clear f8 m8 H7 HC
  have HO := Lib.hid (HK.out.ok HF.out)
  go_wp2_with (refine wl_state rfl _ rfl b rfl s x H8.out.st ?_)
  refine (save_any _ g _ s x _ _ H8.out.hd.fi HS.out).mono ?_
  rintro _ w9 ⟨rfl, b9⟩
  have H9 := Lib.hid (H8.out.below b9)
  clear b9 H8
  obtain ⟨l10, n10⟩ := H9.out.now h HO.out
  have H10 := Lib.hid (show L3 w _ b g q w9.heap.size s x f h ss from ⟨l10, n10⟩)
  clear l10 n10
  go_upto_region 9 with (refine wl_keep rfl _ _ rfl w9 (z26_new w9) rfl h x HO.out rfl ?_)
  clear H9
  generalize w9.alloc (.cells (h.cells x.l).toArray 28) = w10 at *
  generalize w9.heap.size = t at *
  go_wp2_with fail
  go_loopw [33] (fun i W => ∃ k : Nat, k ≤ 16 ∧ i = .int .i64 k ∧ L3 w W b g q t s x f h ss) (fun i _ => 16 - (intOf i).toNat)
  case atStart => exact ⟨0, by omega, rfl, H10.out⟩
  case round =>
    clear H10
    obtain ⟨k, hk, rfl, hL⟩ := hrel
    have HL := Lib.hid hL
    clear hL
    by_cases hlt : k < 16
    · have hk' : (k : Int) < 16 := by omega
      have cq := HL.out.l2.wa.c_r hlt
      have ct := HL.out.nw.c_r hlt
      have ha := HK.out.at_ k
      generalize h.r.getD k 0 = p1 at *
      generalize f.r.getD k 0 = p2 at *
      by_cases he : p1 = p2
      · subst he
        clear ha
        go_wp2_with fail
        go_quiet (fail)
        go_wp2_with fail
        go_roundw
        case rel => exact ⟨k + 1, by omega, by go_num, HL.out.below (below_drewN _ _)⟩
        case measure => simp [intOf]; omega
      · rcases ha with ha | ⟨hn, hv⟩
        · exact absurd ha he
        subst hn
        subst hv
        have he' : (p1 != p2) = true := by simpa using he
        clear he
        go_wp2_with fail
        go_quiet (fail)
        go_wp2_with fail
        go_roundw
        case rel => exact ⟨k + 1, by omega, by go_num, HL.out.below (below_drewN _ _)⟩
        case measure => simp [intOf]; omega
    · obtain rfl : k = 16 := by omega
      clear hk hlt
      obtain ⟨ep, ek, eu⟩ := HK.out.rest
      have cp := HL.out.nw.c_p
      have ck := HL.out.nw.c_k
      have cu := HL.out.nw.c_u
      rw [ep] at cp
      rw [ek] at ck
      rw [eu] at cu
      have dp := HL.out.l2.wa.c_p
      have dk := HL.out.l2.wa.c_k
      have du := HL.out.l2.wa.c_u
      clear ep ek eu
      go_wp2_with fail
      refine (steps_any _ g _ _ _ HL.out.l2.hd.fi).mono ?_
      rintro _ w' ⟨rfl, rfl⟩
      go_wp2_with fail
      clear cp ck cu dp dk du
      rcases HK.out with ⟨rfl, rfl⟩ | ⟨rfl, j, rfl, hj, hz, rfl⟩
      · go_quiet (fail)
        go_wp2
        go_ret
        exact ⟨rfl, below2 (hb ▸ HL.out.l2.hd.bel) (below_drewN _ _)⟩
      · have hj' : (j : Int) < 16 := by omega
        have hP : (f.reg j (pu (f.r.getD j 0) y z)).r.getD j 0 = pu (f.r.getD j 0) y z := by
          show (f.r.set j _).getD j 0 = _
          rw [getD_set, if_pos ⟨rfl, by rw [HF.out.len]; exact hj⟩]
        have HC := Lib.hid (fun p : Later wr => get_as p.v g _ _ _ (HL.out.l2.hd.fi.below p.h) j hj _ hP)
        have cq := later_cell (HL.out.l2.wa.c_r hj)
        have HX := Lib.hid HL.out.l2.hd.bel
        have HU := Lib.hid (pu_U (f.r.getD j 0) y z hz (HF.out.num j))
        obtain ⟨q0, q1⟩ := HF.out.num j
        obtain ⟨y0, y1⟩ := HY.out
        clear hP HL HO HK
        refine wp_region_later (by kernel_rfl) (by kernel_rfl) ?_
        rcases hz with rfl | rfl | rfl
        · have e1 : pu (f.r.getD j 0) y 1 % 256 = y % 256 := by simp only [pu, Bt.W1]; omega
          have e2 : pu (f.r.getD j 0) y 1 / 256 = f.r.getD j 0 / 256 := by simp only [pu, Bt.W1]; omega
          obtain ⟨p0, p1⟩ := HU.out
          generalize pu (f.r.getD j 0) y 1 = P at *
          generalize f.r.getD j 0 = Y at *
          repeat (go_big_quiet_step ((go_at_call 25; exact later_same (HC.out _))))
          refine wpQuiet_nil ?_
          rintro _ ⟨⟨w9, hb9⟩, rfl⟩
          go_wp2
          go_ret
          exact ⟨rfl, below2 (hb ▸ HX.out) hb9⟩
        · have e1 : pu (f.r.getD j 0) y 2 % 65536 = y % 65536 := by simp only [pu, Bt.W2]; omega
          have e2 : pu (f.r.getD j 0) y 2 / 65536 = f.r.getD j 0 / 65536 := by simp only [pu, Bt.W2]; omega
          obtain ⟨p0, p1⟩ := HU.out
          generalize pu (f.r.getD j 0) y 2 = P at *
          generalize f.r.getD j 0 = Y at *
          repeat (go_big_quiet_step ((go_at_call 25; exact later_same (HC.out _))))
          refine wpQuiet_nil ?_
          rintro _ ⟨⟨w9, hb9⟩, rfl⟩
          go_wp2
          go_ret
          exact ⟨rfl, below2 (hb ▸ HX.out) hb9⟩
        · have e1 : pu (f.r.getD j 0) y 4 = y := by simp only [pu, Bt.W4]; omega
          rw [e1] at HC
          generalize pu (f.r.getD j 0) y 4 = P at *
          generalize f.r.getD j 0 = Y at *
          repeat (go_big_quiet_step ((go_at_call 25; exact later_same (HC.out _))))
          refine wpQuiet_nil ?_
          rintro _ ⟨⟨w9, hb9⟩, rfl⟩
          go_wp2
          go_ret
          exact ⟨rfl, below2 (hb ▸ HX.out) hb9⟩
theorem sets_walk (s : Sx) (n y z : Int) (w : World) (hs : s.Ok) (_ : (Lit.int .i64 n).wf = true) (hy : (Lit.int .u32 y).wf = true) (_ : (Lit.int .i64 z).wf = true) :
    Calls Try.prog 6 #[sv s.e s.x, .int .i64 n, .int .u32 y, .int .i64 z] w fun r w' => r = .returned (.bool true) ∧ Below w.heap.size w w' :=
  sets_walk0 s.e s.x n y z w hs (U_of' hy)
end Go.Proofs.Ytgljkadelkglbaa.Cs
