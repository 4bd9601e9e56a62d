/- The walk of TlbTwice. -/
import Derived.Test.YtcbplnodooaeiaaTSrc
namespace Go.Proofs.Ytcbplnodooaeiaa.Cs
open Go.RowKit

set_option maxHeartbeats 400000 in
theorem twice_long (A : Option Addr) (n c : Nat) (at_ x : Int) (w : World) (hn : 60 < n) :
    Calls Try.prog 6 #[.slice A n c, .int .i64 at_, .int .u32 x] w fun e w' => e = .returned (.bool true) ∧ Below w.heap.size w w' := by
  have hn' : (60 : Int) < (n : Int) := by omega
  go_enter Try.func6, Try.ntmps6
  go_wp2_with fail
  refine (alive _).mono ?_
  rintro e w1 ⟨rfl, hb1⟩
  go_wp2
  go_ret
  exact ⟨rfl, hb1⟩

theorem putR_length_pos (xs : Rows) (p x : Int) : 0 < (putR xs p x).length := by
  unfold putR
  split
  · simp; omega
  · simp

/-- A buffer of the call's own. -/
structure Own1 (w : World) (g : Nat) (xs : Rows) (S : Nat → Prop) (wr : World) : Prop where
  tb : Tb wr g S xs
  ab : Ab w.heap.size S
  bel : Below w.heap.size w wr
theorem Own1.below {w wr w' : World} {g : Nat} {xs : Rows} {S : Nat → Prop} (h : Own1 w g xs S wr) (hb : Below wr.heap.size wr w') : Own1 w g xs S w' :=
  ⟨h.tb.below hb, h.ab, bel_trans h.bel hb h.bel.size⟩
theorem Own1.step {w wr w' : World} {g : Nat} {xs ys : Rows} {S S' : Nat → Prop} (h : Own1 w g xs S wr) (ht : Tb w' g S' ys) (hs : Step S S' wr w') : Own1 w g ys S' w' :=
  ⟨ht, hs.ab h.ab h.bel.size, hs.below h.bel h.ab h.bel.size⟩

theorem get_put {xs : Rows} {p x : Int} (hi : pos xs p < xs.length) : pages (putR xs p x) = pages xs ∧ hav (putR xs p x) p = true ∧ ent (putR xs p x) p = x ∧ (putR xs p x).length = xs.length := by
  have hp : putR xs p x = xs.set (pos xs p) (p, x) := if_pos hi
  have hl : (putR xs p x).length = xs.length := by rw [hp, List.length_set]
  have hpg : pages (putR xs p x) = pages xs := by rw [hp, pages_set hi]
  have hpos : ∀ (ys : Rows) (q y : Int), pos ys q < ys.length → pos (ys.set (pos ys q) (q, y)) q = pos ys q := by
    intro ys
    induction ys with
    | nil => intro q y h; simp at h
    | cons r ys ih =>
      intro q y h
      by_cases e : r.1 = q
      · rw [pos_cons_eq e]; simp [pos]
      · rw [pos_cons_ne e] at h ⊢
        rw [List.set_cons_succ, pos_cons_ne e, ih q y (by simpa using h)]
  have h1 : pos (putR xs p x) p = pos xs p := by rw [hp]; exact hpos xs p x hi
  refine ⟨hpg, decide_eq_true (by rw [h1, hl]; exact hi), ?_, hl⟩
  rw [ent, h1, hp, row]
  simp [List.getD, hi]
theorem get_drop {xs : Rows} {p : Int} (hf : Fit xs) (hi : pos xs p < xs.length) : hav (dropR xs p) p = false ∧ ent (dropR xs p) p = 0 ∧ (dropR xs p).length + 1 = xs.length ∧ ¬ pos (dropR xs p) p < (dropR xs p).length := by
  have hn : ¬ pos (dropR xs p) p < (dropR xs p).length := fun h => by
    have := hav_mem.1 h
    rw [drop_filter hf.1] at this
    simp only [pages, List.mem_map, List.mem_filter] at this
    obtain ⟨r, ⟨_, h1⟩, h2⟩ := this
    simp at h1
    exact h1 h2
  refine ⟨decide_eq_false hn, ent_out hn, ?_, hn⟩
  rw [dropR, List.length_eraseIdx, if_pos hi]
  omega
theorem put_last {xs : Rows} {p x : Int} (hn : ¬ pos xs p < xs.length) (h8 : xs.length < 8) : (putR xs p x).length = xs.length + 1 ∧ (pages (putR xs p x)).getD xs.length 0 = p := by
  rw [putR, if_neg hn, if_neg (by omega)]
  refine ⟨by simp, ?_⟩
  rw [pages_getD, row]
  simp [List.getD]

theorem idx_of (a : Int) (m : Nat) (h0 : 0 < m) (h8 : m ≤ 8) : ∃ j : Nat, wrap64 ((IntKind.u64.wrap a).tmod (m : Int)) = (j : Int) ∧ j < m := by
  have h1 : 0 ≤ IntKind.u64.wrap a := by rw [IntKind.wrap_u64]; omega
  rw [Int.tmod_eq_emod_of_nonneg h1]
  have h2 := Int.emod_nonneg (IntKind.u64.wrap a) (by omega : (m : Int) ≠ 0)
  have h3 := Int.emod_lt_of_pos (IntKind.u64.wrap a) (by omega : (0 : Int) < (m : Int))
  refine ⟨(IntKind.u64.wrap a % (m : Int)).toNat, ?_, by omega⟩
  generalize IntKind.u64.wrap a % (m : Int) = z at h2 h3 ⊢
  unfold wrap64
  omega

set_option maxHeartbeats 2000000 in
theorem twice_short (A : Option Addr) (n c : Nat) (at_ x : Int) (ys : List Int) (w : World) (hx : U32 x) (hs : Src w A n ys) (hn : n ≤ 60) :
    Calls Try.prog 6 #[.slice A n c, .int .i64 at_, .int .u32 x] w fun e w' => e = .returned (.bool true) ∧ Below w.heap.size w w' := by
  have hn' : ¬ (60 : Int) < (n : Int) := by omega
  have HS := Lib.hid hs
  have HX := Lib.hid hx
  clear hs hx
  go_enter Try.func6, Try.ntmps6
  go_wp2_with fail
  refine (alive _).mono ?_
  rintro e' w1 ⟨rfl, hb1⟩
  go_wp2_with fail
  refine (new_any _).mono ?_
  rintro e' w2 ⟨g, S, rfl, hg, hg', h2, hab, hb2⟩
  have HL : Hid (Own1 w g [] S w2) := ⟨h2, fun k hk => Nat.le_trans hb1.size (hab k hk), bel_trans hb1 hb2 hb1.size⟩
  clear hb1 h2 hab hb2 hg hg'
  go_wp2
  go_loopw [25] (fun i wr => ∃ k : Nat, k ≤ n ∧ i = .int .i64 k ∧ ∃ xs S, (0 < k → 0 < xs.length) ∧ (k = 0 → xs.length = 0) ∧ Own1 w g xs S wr) (fun i _ => n - (intOf i).toNat)
  case atStart => exact ⟨0, Nat.zero_le _, rfl, _, _, by simp, by simp, HL.out⟩
  case round =>
    clear HL
    obtain ⟨k, hk, rfl, xs, S, hpos, hzero, hL⟩ := hrel
    have HL := Lib.hid hL
    clear hL
    by_cases hlt : k < n
    · obtain ⟨ad, rfl, hx⟩ := HS.out.at_ HL.out.bel hlt
      have HU := Lib.hid (HS.out.num k)
      generalize ys.getD k 0 = p at hx HU
      clear hpos hzero
      go_wp2_with fail
      refine (put_any g S xs p _ _ HL.out.tb HU.out ⟨by omega, by omega⟩).mono ?_
      rintro e' w4 ⟨rfl, S4, h4, s4⟩
      have HE := Lib.hid (HL.out.step h4 s4)
      clear h4 s4
      go_wp2
      go_roundw
      case rel => exact ⟨k + 1, by omega, by go_num, _, _, fun _ => putR_length_pos _ _ _, by omega, HE.out⟩
      case measure => simp [intOf]; omega
    · obtain rfl : k = n := by omega
      by_cases h0 : k = 0
      · have HM := Lib.hid (hzero h0)
        subst h0
        clear hpos hzero
        go_wp2_with fail
        refine (pages_any g S xs 0 _ HL.out.tb HM.out).mono ?_
        rintro e' w5 ⟨b, cap, rfl, hb, hr5, hb5⟩
        have HB5 := Lib.hid (HL.out.below hb5).bel
        clear hr5 hb5
        go_wp2
        go_ret
        exact ⟨rfl, HB5.out⟩
      · obtain ⟨m, hm⟩ : ∃ m, xs.length = m := ⟨_, rfl⟩
        have hm0 : 0 < m := by have := hpos (by omega); omega
        have hm8 : m ≤ 8 := by rw [← hm]; exact HL.out.tb.fit.2.1
        have HM := Lib.hid hm
        clear hpos hzero hm
        go_wp2_with fail
        refine (pages_any g S xs m _ HL.out.tb HM.out).mono ?_
        rintro e' w5 ⟨b, cap, rfl, hb, hr5, hb5⟩
        have HK5 := Lib.hid (HL.out.below hb5)
        have HR5 := Lib.hid hr5
        have hSb : ¬ S b := fun h => by have := HL.out.tb.lo b h; omega
        have hwb : w.heap.size ≤ b := Nat.le_trans HL.out.bel.size hb
        clear hr5 hb5 HL
        have hm' : ((m : Int) == 0) = false := by simp; omega
        obtain ⟨j, hj, hjm⟩ := idx_of at_ m hm0 hm8
        have hcl : w5.cell? ⟨b, j, none⟩ = some (.int .u32 ((pages xs).getD j 0)) := by
          have h' : w5.ownsRow 0 30 1 (.slice (some ⟨b, 0, none⟩) m cap) m (c1 (pages xs)) := by have := HR5.out; rw [R1, pages_length, HM.out] at this; exact this
          rw [h'.cellAt j (by omega), c1_get _ _ (by rw [pages_length, HM.out]; exact hjm)]
        have HU : Hid (U32 ((pages xs).getD j 0)) := by show U32 _; rw [pages_getD]; exact (row_wf HK5.out.tb.fit j).1
        have HI : Hid (pos xs ((pages xs).getD j 0) < xs.length) := hav_mem.2 (by
          rw [List.getD, List.getElem?_eq_getElem (by rw [pages_length, HM.out]; exact hjm)]
          exact List.getElem_mem _)
        generalize (pages xs).getD j 0 = p at hcl HU HI
        go_wp2_with fail
        refine (put_any g S xs p x _ HK5.out.tb HU.out HX.out).mono ?_
        rintro e' w6 ⟨rfl, S6, h6, s6⟩
        have HK6 := Lib.hid (HK5.out.step h6 s6)
        have HR6 : Hid (R1 w6 (.slice (some ⟨b, 0, none⟩) m cap) (pages xs)) := own_mods HR5.out s6.mods (fun i hi e => by
          simp only [Bl, Value.ownBlock, Option.some.injEq] at e
          subst e; exact hSb hi)
        have HG := Lib.hid (get_put (x := x) HI.out)
        have HP6 : Hid ((putR xs p x).length = m) := HG.out.2.2.2.trans HM.out
        have HI6 : Hid (pos (putR xs p x) p < (putR xs p x).length) := by
          show _ < _
          exact of_decide_eq_true HG.out.2.1
        have HPg : Hid (pages (putR xs p x) = pages xs) := HG.out.1
        have HG1 : Hid (ent (putR xs p x) p = x ∧ hav (putR xs p x) p = true) := ⟨HG.out.2.2.1, HG.out.2.1⟩
        generalize putR xs p x = xs6 at h6 HK6 HG HP6 HI6 HPg HG1
        clear h6 s6 HR5 HK5 hcl hj HG
        go_wp2_with fail
        refine (get_as g S6 xs6 p x true _ HK6.out.tb HG1.out.1 HG1.out.2).mono ?_
        rintro e' w7 ⟨rfl, hb7⟩
        have HK7 := Lib.hid (HK6.out.below hb7)
        have HR7 : Hid (R1 w7 (.slice (some ⟨b, 0, none⟩) m cap) (pages xs)) := own_below HR6.out hb7
        clear hb7 HK6 HR6
        go_wp2_with fail
        refine (pages_any g S6 xs6 m _ HK7.out.tb HP6.out).mono ?_
        rintro e' w8 ⟨b8, cap8, rfl, hb8, hr8, hbe8⟩
        have HK8 := Lib.hid (HK7.out.below hbe8)
        have HR8 : Hid (R1 w8 (.slice (some ⟨b, 0, none⟩) m cap) (pages xs)) := own_below HR7.out hbe8
        rw [HPg.out] at hr8
        have HQ8 := Lib.hid hr8
        clear hbe8 hr8 HK7 HR7
        go_wp2_with fail
        refine (same_yes _ _ m _ _ (pages xs) _ (by rw [pages_length, HM.out]) HQ8.out HR8.out).mono ?_
        rintro e' w9 ⟨rfl, hb9⟩
        have HK9 := Lib.hid (HK8.out.below hb9)
        clear hb9 HK8 HR8 HQ8
        go_wp2_with fail
        refine (drop_any g S6 xs6 p _ HK9.out.tb).mono ?_
        rintro e' w10 ⟨rfl, S10, h10, s10⟩
        have HK10 := Lib.hid (HK9.out.step h10 s10)
        have HG := Lib.hid (get_drop HK9.out.tb.fit HI6.out)
        clear h10 s10 HK9
        generalize dropR xs6 p = xs10 at HK10 HG
        go_wp2_with fail
        refine (get_as g S10 xs10 p 0 false _ HK10.out.tb HG.out.2.1 HG.out.1).mono ?_
        rintro e' w11 ⟨rfl, hb11⟩
        have HK11 := Lib.hid (HK10.out.below hb11)
        clear hb11 HK10
        go_wp2_with fail
        refine (put_any g S10 xs10 p x _ HK11.out.tb HU.out HX.out).mono ?_
        rintro e' w12 ⟨rfl, S12, h12, s12⟩
        have HK12 := Lib.hid (HK11.out.step h12 s12)
        have HL10 : Hid (xs10.length + 1 = m) := HG.out.2.2.1.trans HP6.out
        have HPl := Lib.hid (put_last (x := x) HG.out.2.2.2 (by have := HL10.out; omega))
        have HLm : Hid ((putR xs10 p x).length = m) := by show _ = _; rw [HPl.out.1, HL10.out]
        clear h12 s12 HK11
        generalize putR xs10 p x = xs12 at HK12 HPl HLm
        go_wp2_with fail
        refine (pages_any g S12 xs12 m _ HK12.out.tb HLm.out).mono ?_
        rintro e' w13 ⟨b13, cap13, rfl, hb13, hr13, hbe13⟩
        have HB13 := Lib.hid (HK12.out.below hbe13).bel
        have hcl : w13.cell? ⟨b13, m - 1, none⟩ = some (.int .u32 p) := by
          have h' : w13.ownsRow 0 30 1 (.slice (some ⟨b13, 0, none⟩) m cap13) m (c1 (pages xs12)) := by have := hr13; rw [R1, pages_length, HLm.out] at this; exact this
          rw [h'.cellAt (m - 1) (by omega), c1_get _ _ (by rw [pages_length, HLm.out]; omega), show m - 1 = xs10.length by have := HL10.out; omega, HPl.out.2]
        clear hr13 hbe13
        go_wp2
        go_ret
        exact ⟨rfl, HB13.out⟩

theorem twice_walk (A : Option Addr) (n c : Nat) (zs : List Int) (at_ x : Int) (w : World)
    (h : (A = none ∧ n = 0 ∧ c = 0 ∧ zs = []) ∨ ∃ x : Addr, A = some x ∧ n ≤ c ∧ c ≤ maxLen ∧ zs.length = c ∧ (∀ i, i < zs.length → w.cell? (x.add i) = some (.int .u32 (zs.getD i 0))) ∧ ∀ n ∈ zs, (Lit.int .u32 n).wf = true)
    (_ : (Lit.int .i64 at_).wf = true) (hx : (Lit.int .u32 x).wf = true) :
    Calls Try.prog 6 #[.slice A n c, .int .i64 at_, .int .u32 x] w fun e w' => e = .returned (.bool true) ∧ Below w.heap.size w w' := by
  obtain ⟨ys, hs⟩ := src_of_row h
  have b1 := bounds_u32 hx
  by_cases hn : 60 < n
  · exact twice_long A n c at_ x w hn
  · exact twice_short A n c at_ x ys w ⟨by omega, by omega⟩ hs (by omega)

end Go.Proofs.Ytcbplnodooaeiaa.Cs
