/- The walk of RegsForgets. -/
import Derived.Test.YtgljkadelkglbaaHWBack
namespace Go.Proofs.Ytgljkadelkglbaa.Cs
open Go.RowKit Ps Tl

/-- a File and the state that came in -/
structure L1 (w W : World) (b g : Nat) (s : Re) (x : Xs) (e : Re) (ss : List Int) (m : Nat) : Prop where
  hd : Hd w W g e ss m
  st : Sb W b s x
  bg : b ≠ g
theorem L1.step {w W W' : World} {b g : Nat} {s e e' : Re} {x : Xs} {ss ss' : List Int} {m m' : Nat} (h : L1 w W b g s x e ss m) (k : Fi W' g e' ss' m') (hm : Mods (One g) W W') : L1 w W' b g s x e' ss' m' :=
  ⟨h.hd.step k hm, h.st.mods hm h.bg, h.bg⟩

set_option maxHeartbeats 4000000 in
theorem forgets_short (s : Re) (x : Xs) (A B : Option Addr) (n c n2 c2 : Nat) (ys ds : List Int) (D : Int) (w : World) (hs : s.Ok) (h1 : Src .i64 w A n ys) (h2 : Src .i64 w B n2 ds) (hD : U D) (hn : n ≤ 60) (hl : n2 ≤ 60) :
    Calls Try.prog 7 #[sv s x, .slice A n c, .slice B n2 c2, .int .u32 D] w fun r w' => r = .returned (.bool true) ∧ Below w.heap.size w w' := by
  have hn' : ¬ (60 : Int) < (n : Int) := by omega
  have hl' : ¬ (60 : Int) < (n2 : Int) := by omega
  have HS := Lib.hid hs
  have H1 := Lib.hid h1
  have H2 := Lib.hid h2
  have HD := Lib.hid hD
  clear hs h1 h2 hD
  go_enter Try.func7, Try.ntmps7
  go_wp2_with (refine wl_box rfl _ _ rfl _ rfl ?_)
  refine (alive_any _).mono ?_
  rintro _ w1 ⟨rfl, b1⟩
  have HT := Lib.hid ((Sb.new w x HS.out).below b1)
  have HB := Lib.hid (below2 ((Below.refl w.heap.size w).alloc (Nat.le_refl _) _) b1)
  clear b1
  have hbl := HT.out.lt
  generalize hb : w.heap.size = b at *
  go_wp2_with fail
  refine (new_any _).mono ?_
  rintro _ w2 ⟨rfl, f2, b2⟩
  have H2' := Lib.hid (Hd.new (hb.symm ▸ HB.out) f2 b2)
  have T2 := Lib.hid (HT.out.below b2)
  have HN : Hid (b ≠ w1.heap.size) := Nat.ne_of_lt hbl
  clear f2 b2 HT HB hbl
  generalize w1.heap.size = g at *
  go_wp2_with (refine wl_state rfl _ rfl b rfl s x T2.out ?_)
  refine (load_any _ g _ s x _ _ H2'.out.fi HS.out).mono ?_
  rintro _ w3 ⟨rfl, f3, m3⟩
  have H3 := Lib.hid (show L1 w w3 b g s x s zs 0 from ⟨H2'.out.step f3 m3, T2.out.mods m3 HN.out, HN.out⟩)
  clear f3 m3 H2' T2 HN
  go_wp2_with fail
  go_loopw [31] (fun i W => ∃ (k m : Nat) (e : Re) (ss : List Int), k ≤ n ∧ m ≤ k ∧ i = .int .i64 k ∧ L1 w W b g s x e ss m) (fun i _ => n - (intOf i).toNat)
  case atStart => exact ⟨0, 0, s, zs, Nat.zero_le _, Nat.le_refl _, rfl, H3.out⟩
  case round =>
    clear H3
    obtain ⟨k, m, e, ss, hk, hm, rfl, hL⟩ := hrel
    have HL := Lib.hid hL
    clear hL
    by_cases hlt : k < n
    · obtain ⟨ad1, rfl, c1'⟩ := H1.out.at_ HL.out.hd.bel hlt
      generalize ys.getD k 0 = N at *
      by_cases hr : N < 0 ∨ 15 < N
      · have HR := Lib.hid hr
        clear hr
        go_wp2_with fail
        refine (step_out _ g N HR.out D).mono ?_
        rintro _ w' ⟨rfl, rfl⟩
        go_wp2_with fail
        go_roundw
        case rel => exact ⟨k + 1, m, e, ss, by omega, by omega, by go_num, HL.out⟩
        case measure => simp [intOf]; omega
      · obtain ⟨j, rfl⟩ := Int.eq_ofNat_of_zero_le (show 0 ≤ N by omega)
        have hj : j < 16 := by omega
        clear hr
        go_wp2_with fail
        refine (step_in _ g e ss m HL.out.hd.fi j hj D HD.out (by omega) (by omega)).mono ?_
        rintro _ w' ⟨rfl, f1, m1⟩
        have HL2 := Lib.hid (HL.out.step (m' := m + 1) f1 m1)
        clear f1 m1 HL
        go_wp2_with fail
        go_roundw
        case rel => exact ⟨k + 1, m + 1, _, _, by omega, by omega, by go_num, HL2.out⟩
        case measure => simp [intOf]; omega
    · obtain rfl : k = n := by omega
      go_wp2_with fail
      refine (forget_any _ g _ _ _ HL.out.hd.fi).mono ?_
      rintro _ w5 ⟨rfl, f5, m5⟩
      have H5 := Lib.hid (HL.out.step (m' := 0) f5 m5)
      clear f5 m5 HL
      go_wp2_with (refine wl_state rfl _ rfl b rfl s x H5.out.st ?_)
      refine (save_any _ g _ s x _ _ H5.out.hd.fi HS.out).mono ?_
      rintro _ w6 ⟨rfl, b6⟩
      have H6 := Lib.hid (H5.out.hd.below b6)
      have T6 := Lib.hid (H5.out.st.below b6)
      have HN := Lib.hid H5.out.bg
      clear b6 H5
      have HE := Lib.hid H6.out.fi.ok
      have H7 := Lib.hid (show Lp w _ b g w6.heap.size s x e zs 0 e from ⟨L2.mk' H6.out T6.out HN.out, Bck.start HE.out⟩)
      go_upto_region 14 with (refine wl_keep rfl _ _ rfl w6 (z26_new w6) rfl e x HE.out rfl ?_)
      clear H6 T6 HN hk hlt hm
      generalize w6.alloc (.cells (e.cells x.l).toArray 28) = w7 at *
      generalize w6.heap.size = q at *
      go_wp2_with fail
      go_loopw [47] (fun i W => ∃ (k m : Nat) (e' : Re) (ss : List Int), k ≤ n2 ∧ m ≤ k ∧ i = .int .i64 k ∧ Lp w W b g q s x e' ss m e) (fun i _ => n2 - (intOf i).toNat)
      case atStart => exact ⟨0, 0, e, zs, Nat.zero_le _, Nat.le_refl _, rfl, H7.out⟩
      case round =>
        clear H7
        obtain ⟨k2, m2, e2, ss2, hk, hm, rfl, hL⟩ := hrel
        have HL := Lib.hid hL
        clear hL
        by_cases hlt : k2 < n2
        · obtain ⟨ad1, rfl, c1'⟩ := H2.out.at_ HL.out.l2.hd.bel hlt
          generalize ds.getD k2 0 = N at *
          by_cases hr : N < 0 ∨ 15 < N
          · have HR := Lib.hid hr
            clear hr
            go_wp2_with fail
            refine (step_out _ g N HR.out D).mono ?_
            rintro _ w' ⟨rfl, rfl⟩
            go_wp2_with fail
            go_roundw
            case rel => exact ⟨k2 + 1, m2, e2, ss2, by omega, by omega, by go_num, HL.out⟩
            case measure => simp [intOf]; omega
          · obtain ⟨j, rfl⟩ := Int.eq_ofNat_of_zero_le (show 0 ≤ N by omega)
            have hj : j < 16 := by omega
            clear hr
            go_wp2_with fail
            refine (step_in _ g e2 ss2 m2 HL.out.l2.hd.fi j hj D HD.out (by omega) (by omega)).mono ?_
            rintro _ w' ⟨rfl, f1, m1⟩
            have HL2 := Lib.hid (HL.out.step j D f1 m1)
            clear f1 m1 HL
            go_wp2_with fail
            go_roundw
            case rel => exact ⟨k2 + 1, m2 + 1, _, _, by omega, by omega, by go_num, HL2.out⟩
            case measure => simp [intOf]; omega
        · obtain rfl : k2 = n2 := by omega
          go_wp2_with fail
          refine (undo_any _ g _ _ _ HL.out.l2.hd.fi).mono ?_
          rintro _ w8 ⟨rfl, f8, m8⟩
          rw [HL.out.bk.undo HL.out.l2.hd.fi.ok HE.out] at f8
          have H8 := Lib.hid (HL.out.l2.step f8 m8)
          clear f8 m8 HL
          go_wp2_with fail
          refine wp_region_later (by kernel_rfl) (by kernel_rfl) ?_
          have S1 := Lib.hid (later_sb H8.out.st)
          have S2 := Lib.hid (later_sb H8.out.wa)
          have HC := Lib.hid (fun p : Later w8 => save_any p.v g e s x _ _ (H8.out.hd.fi.below p.h) HS.out)
          have HZ := Lib.hid (fun p : Later w8 => steps_any p.v g e _ _ (H8.out.hd.fi.below p.h))
          repeat (first
            | (go_big_quiet_want; (first | refine quiet_state _ rfl b (by rfl) s x S1.out ?_ | refine quiet_state _ rfl q (by rfl) e x S2.out ?_ | refine quiet_eql _ _ _ rfl e x HE.out rfl rfl ?_); simp only [Act.put, List.setIfInBounds_toArray, List.set_cons_succ, List.set_cons_zero]; go_big_quiet_on)
            | go_big_quiet_step (first | (go_at_call 29; exact later_of (HC.out _)) | (go_at_call 28; exact later_same (HZ.out _))))
          refine wpQuiet_nil ?_
          rintro _ ⟨⟨w9, hb9⟩, rfl⟩
          go_wp2
          go_ret
          exact ⟨rfl, below2 (hb ▸ H8.out.hd.bel) hb9⟩

set_option maxHeartbeats 1000000 in
theorem forgets_long (s : Re) (x : Xs) (A B : Option Addr) (n c n2 c2 : Nat) (D : Int) (w : World) (hn : 60 < n ∨ 60 < n2) :
    Calls Try.prog 7 #[sv s x, .slice A n c, .slice B n2 c2, .int .u32 D] w fun r w' => r = .returned (.bool true) ∧ Below w.heap.size w w' := by
  by_cases h : (60 : Int) < n
  · clear hn
    go_enter Try.func7, Try.ntmps7
    go_wp2_with (refine wl_box rfl _ _ rfl _ rfl ?_)
    refine (alive_any _).mono ?_
    rintro _ w1 ⟨rfl, b1⟩
    have HB := Lib.hid (below2 ((Below.refl w.heap.size w).alloc (Nat.le_refl _) _) b1)
    go_wp2_with fail
    go_ret
    exact ⟨rfl, HB.out⟩
  · have h2 : (60 : Int) < n2 := by omega
    clear hn
    go_enter Try.func7, Try.ntmps7
    go_wp2_with (refine wl_box rfl _ _ rfl _ rfl ?_)
    refine (alive_any _).mono ?_
    rintro _ w1 ⟨rfl, b1⟩
    have HB := Lib.hid (below2 ((Below.refl w.heap.size w).alloc (Nat.le_refl _) _) b1)
    go_wp2_with fail
    go_ret
    exact ⟨rfl, HB.out⟩

theorem forgets_walk (s : Sx) (A : Option Addr) (n c : Nat) (zs : List Int) (B : Option Addr) (n2 c2 : Nat) (zs2 : List Int) (D : Int) (w : World) (hs : s.Ok)
    (h : (A = none ∧ n = 0 ∧ c = 0 ∧ zs = []) ∨ ∃ x : Addr, A = some x ∧ n ≤ c ∧ c ≤ maxLen ∧ zs.length = c ∧ (∀ i, i < zs.length → w.cell? (x.add i) = some (.int .i64 (zs.getD i 0))) ∧ ∀ n ∈ zs, (Lit.int .i64 n).wf = true)
    (h2 : (B = none ∧ n2 = 0 ∧ c2 = 0 ∧ zs2 = []) ∨ ∃ x : Addr, B = some x ∧ n2 ≤ c2 ∧ c2 ≤ maxLen ∧ zs2.length = c2 ∧ (∀ i, i < zs2.length → w.cell? (x.add i) = some (.int .i64 (zs2.getD i 0))) ∧ ∀ n ∈ zs2, (Lit.int .i64 n).wf = true)
    (hD : (Lit.int .u32 D).wf = true) :
    Calls Try.prog 7 #[sv s.e s.x, .slice A n c, .slice B n2 c2, .int .u32 D] w fun r w' => r = .returned (.bool true) ∧ Below w.heap.size w w' := by
  obtain ⟨ys, k1⟩ := src_of_row h
  obtain ⟨ds, k2⟩ := src_of_row h2
  by_cases hn : n ≤ 60 ∧ n2 ≤ 60
  · exact forgets_short s.e s.x A B n c n2 c2 ys ds D w hs k1 k2 (U_of' hD) hn.1 hn.2
  · exact forgets_long s.e s.x A B n c n2 c2 D w (by omega)
end Go.Proofs.Ytgljkadelkglbaa.Cs
