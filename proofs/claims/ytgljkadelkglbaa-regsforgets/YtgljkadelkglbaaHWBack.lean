/- The walk of RegsBack. -/
import Derived.Test.YtgljkadelkglbaaHSrc
namespace Go.Proofs.Ytgljkadelkglbaa.Cs
open Go.RowKit Ps Tl

/-- while it steps -/
structure Lp (w W : World) (b g q : Nat) (s : Re) (x : Xs) (e : Re) (ss : List Int) (m : Nat) (f : Re) : Prop where
  l2 : L2 w W b g q s x e ss m f
  bk : Bck f e ss
section
variable {w W W' : World} {b g q : Nat} {s e f : Re} {x : Xs} {ss : List Int} {m : Nat}
theorem Lp.step (h : Lp w W b g q s x e ss m f) (k : Nat) (d : Int) (k1 : Fi W' g (e.reg k (ad (e.r.getD k 0) d)) (ss.set k (ad (ss.getD k 0) d)) ((m : Int) + 1)) (m1 : Mods (One g) W W') :
    Lp w W' b g q s x (e.reg k (ad (e.r.getD k 0) d)) (ss.set k (ad (ss.getD k 0) d)) (m + 1) f :=
  ⟨h.l2.step k1 m1, h.bk.step h.l2.hd.fi.ok h.l2.hd.fi.sl k d⟩
end

set_option maxHeartbeats 4000000 in
theorem back_short (s : Re) (x : Xs) (A B : Option Addr) (n c n2 c2 : Nat) (ys ds : List Int) (w : World) (hs : s.Ok) (h1 : Src .i64 w A n ys) (h2 : Src .u32 w B n2 ds) (hn : n ≤ 200) (hl : n ≤ n2) :
    Calls Try.prog 4 #[sv s x, .slice A n c, .slice B n2 c2] w fun r w' => r = .returned (.bool true) ∧ Below w.heap.size w w' := by
  have hn' : ¬ (200 : Int) < (n : Int) := by omega
  have hl' : ¬ (n2 : Int) < (n : Int) := by omega
  have HS := Lib.hid hs
  have H1 := Lib.hid h1
  have H2 := Lib.hid h2
  clear hs h1 h2
  go_enter Try.func4, Try.ntmps4
  go_wp2_with (refine wl_box rfl _ _ rfl _ rfl ?_)
  refine (alive_any _).mono ?_
  rintro _ w1 ⟨rfl, b1⟩
  have HT := Lib.hid ((Sb.new w x HS.out).below b1)
  have HB := Lib.hid (below2 ((Below.refl w.heap.size w).alloc (Nat.le_refl _) _) b1)
  clear b1
  have hbl := HT.out.lt
  generalize hb : w.heap.size = b at *
  go_wp2_with fail
  refine (new_any _).mono ?_
  rintro _ w2 ⟨rfl, f2, b2⟩
  have H2' := Lib.hid (Hd.new (hb.symm ▸ HB.out) f2 b2)
  have T2 := Lib.hid (HT.out.below b2)
  have HN : Hid (b ≠ w1.heap.size) := Nat.ne_of_lt hbl
  clear f2 b2 HT HB hbl
  generalize w1.heap.size = g at *
  go_wp2_with (refine wl_state rfl _ rfl b rfl s x T2.out ?_)
  refine (load_any _ g _ s x _ _ H2'.out.fi HS.out).mono ?_
  rintro _ w3 ⟨rfl, f3, m3⟩
  have H3 := Lib.hid (H2'.out.step f3 m3)
  have T3 := Lib.hid (T2.out.mods m3 HN.out)
  clear f3 m3 H2' T2
  go_wp2_with (refine wl_state rfl _ rfl b rfl s x T3.out ?_)
  refine (save_any _ g _ s x _ _ H3.out.fi HS.out).mono ?_
  rintro _ w6 ⟨rfl, b6⟩
  have H6 := Lib.hid (H3.out.below b6)
  have T6 := Lib.hid (T3.out.below b6)
  clear b6 H3 T3
  have H7 := Lib.hid (show Lp w _ b g w6.heap.size s x s zs 0 s from ⟨L2.mk' H6.out T6.out HN.out, Bck.start HS.out⟩)
  go_upto_region 9 with (refine wl_keep rfl _ _ rfl w6 (z26_new w6) rfl s x HS.out rfl ?_)
  clear H6 T6 HN
  generalize w6.alloc (.cells (s.cells x.l).toArray 28) = w7 at *
  generalize w6.heap.size = q at *
  go_wp2_with fail
  go_loopw [9, 33] (fun y i W => ∃ (k m : Nat) (e : Re) (ss : List Int), k ≤ n ∧ m ≤ k ∧ i = .int .i64 k ∧ y = .int .i64 m ∧ Lp w W b g q s x e ss m s) (fun _ i _ => n - (intOf i).toNat)
  case atStart => exact ⟨0, 0, s, zs, Nat.zero_le _, Nat.le_refl _, rfl, rfl, H7.out⟩
  case round =>
    clear H7
    obtain ⟨k, m, e, ss, hk, hm, rfl, rfl, hL⟩ := hrel
    have HL := Lib.hid hL
    clear hL
    by_cases hlt : k < n
    · obtain ⟨ad1, rfl, c1'⟩ := H1.out.at_ HL.out.l2.hd.bel hlt
      obtain ⟨ad2, rfl, c2'⟩ := H2.out.at_ HL.out.l2.hd.bel (show k < n2 by omega)
      have hD := U_of' (H2.out.num k (by omega))
      generalize ys.getD k 0 = N at *
      generalize ds.getD k 0 = D at *
      have HD := Lib.hid hD
      clear hD
      have hlt2 : (k : Int) < (n2 : Int) := by omega
      by_cases hr : N < 0 ∨ 15 < N
      · have HR := Lib.hid hr
        clear hr
        go_wp2_with fail
        refine (step_out _ g N HR.out D).mono ?_
        rintro _ w' ⟨rfl, rfl⟩
        go_wp2_with fail
        go_roundw
        case rel => exact ⟨k + 1, m, e, ss, by omega, by omega, by go_num, rfl, HL.out⟩
        case measure => simp [intOf]; omega
      · obtain ⟨j, rfl⟩ := Int.eq_ofNat_of_zero_le (show 0 ≤ N by omega)
        have hj : j < 16 := by omega
        clear hr
        go_wp2_with fail
        refine (step_in _ g e ss m HL.out.l2.hd.fi j hj D HD.out (by omega) (by omega)).mono ?_
        rintro _ w' ⟨rfl, f1, m1⟩
        have HL2 := Lib.hid (HL.out.step j D f1 m1)
        clear f1 m1 HL
        go_wp2_with fail
        go_roundw
        case rel => exact ⟨k + 1, m + 1, _, _, by omega, by omega, by go_num, by go_num, HL2.out⟩
        case measure => simp [intOf]; omega
    · obtain rfl : k = n := by omega
      go_wp2_with fail
      refine (steps_any _ g _ _ _ HL.out.l2.hd.fi).mono ?_
      rintro _ w' ⟨rfl, rfl⟩
      go_wp2_with fail
      refine (undo_any _ g _ _ _ HL.out.l2.hd.fi).mono ?_
      rintro _ w8 ⟨rfl, f8, m8⟩
      rw [HL.out.bk.undo HL.out.l2.hd.fi.ok HS.out] at f8
      have H8 := Lib.hid (HL.out.l2.step f8 m8)
      clear f8 m8 HL
      go_wp2_with fail
      refine wp_region_later (by kernel_rfl) (by kernel_rfl) ?_
      have S1 := Lib.hid (later_sb H8.out.st)
      have S2 := Lib.hid (later_sb H8.out.wa)
      have HC := Lib.hid (fun p : Later w8 => save_any p.v g s s x _ _ (H8.out.hd.fi.below p.h) HS.out)
      have HZ := Lib.hid (fun p : Later w8 => steps_any p.v g s _ _ (H8.out.hd.fi.below p.h))
      repeat (first
        | (go_big_quiet_want; (first | refine quiet_state _ rfl b (by rfl) s x S1.out ?_ | refine quiet_state _ rfl q (by rfl) s x S2.out ?_ | refine quiet_eql _ _ _ rfl s x HS.out rfl rfl ?_); simp only [Act.put, List.setIfInBounds_toArray, List.set_cons_succ, List.set_cons_zero]; go_big_quiet_on)
        | go_big_quiet_step (first | (go_at_call 29; exact later_of (HC.out _)) | (go_at_call 28; exact later_same (HZ.out _))))
      refine wpQuiet_nil ?_
      rintro _ ⟨⟨w9, hb9⟩, rfl⟩
      go_wp2
      go_ret
      exact ⟨rfl, below2 (hb ▸ H8.out.hd.bel) hb9⟩

set_option maxHeartbeats 1000000 in
theorem back_long (s : Re) (x : Xs) (A B : Option Addr) (n c n2 c2 : Nat) (w : World) (hn : 200 < n ∨ n2 < n) :
    Calls Try.prog 4 #[sv s x, .slice A n c, .slice B n2 c2] w fun r w' => r = .returned (.bool true) ∧ Below w.heap.size w w' := by
  by_cases h : (200 : Int) < n
  · clear hn
    go_enter Try.func4, Try.ntmps4
    go_wp2_with (refine wl_box rfl _ _ rfl _ rfl ?_)
    refine (alive_any _).mono ?_
    rintro _ w1 ⟨rfl, b1⟩
    have HB := Lib.hid (below2 ((Below.refl w.heap.size w).alloc (Nat.le_refl _) _) b1)
    go_wp2_with fail
    go_ret
    exact ⟨rfl, HB.out⟩
  · have h2 : (n2 : Int) < n := by omega
    clear hn
    go_enter Try.func4, Try.ntmps4
    go_wp2_with (refine wl_box rfl _ _ rfl _ rfl ?_)
    refine (alive_any _).mono ?_
    rintro _ w1 ⟨rfl, b1⟩
    have HB := Lib.hid (below2 ((Below.refl w.heap.size w).alloc (Nat.le_refl _) _) b1)
    go_wp2_with fail
    go_ret
    exact ⟨rfl, HB.out⟩

theorem back_walk (s : Sx) (A : Option Addr) (n c : Nat) (zs : List Int) (B : Option Addr) (n2 c2 : Nat) (zs2 : List Int) (w : World) (hs : s.Ok)
    (h : (A = none ∧ n = 0 ∧ c = 0 ∧ zs = []) ∨ ∃ x : Addr, A = some x ∧ n ≤ c ∧ c ≤ maxLen ∧ zs.length = c ∧ (∀ i, i < zs.length → w.cell? (x.add i) = some (.int .i64 (zs.getD i 0))) ∧ ∀ n ∈ zs, (Lit.int .i64 n).wf = true)
    (h2 : (B = none ∧ n2 = 0 ∧ c2 = 0 ∧ zs2 = []) ∨ ∃ x : Addr, B = some x ∧ n2 ≤ c2 ∧ c2 ≤ maxLen ∧ zs2.length = c2 ∧ (∀ i, i < zs2.length → w.cell? (x.add i) = some (.int .u32 (zs2.getD i 0))) ∧ ∀ n ∈ zs2, (Lit.int .u32 n).wf = true) :
    Calls Try.prog 4 #[sv s.e s.x, .slice A n c, .slice B n2 c2] w fun r w' => r = .returned (.bool true) ∧ Below w.heap.size w w' := by
  obtain ⟨ys, k1⟩ := src_of_row h
  obtain ⟨ds, k2⟩ := src_of_row h2
  by_cases hn : n ≤ 200 ∧ n ≤ n2
  · exact back_short s.e s.x A B n c n2 c2 ys ds w hs k1 k2 hn.1 hn.2
  · exact back_long s.e s.x A B n c n2 c2 w (by omega)
end Go.Proofs.Ytgljkadelkglbaa.Cs
