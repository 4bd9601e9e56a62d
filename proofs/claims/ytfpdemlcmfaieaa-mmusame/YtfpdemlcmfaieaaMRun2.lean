/- Contracts of package mmu: runs. -/
import Derived.Test.YtfpdemlcmfaieaaMRun
namespace Go.Proofs.Ytfpdemlcmfaieaa.Cs
open Go.RowKit

theorem R3.shape {w : World} {v : Value} {l : List Run} (h : R3 w v l) : ∃ A c, v = .slice A l.length c := by
  rcases Tl.own_shape h with ⟨rfl, h0⟩ | ⟨r, cap, rfl, _⟩
  · exact ⟨none, 0, by rw [h0]⟩
  · exact ⟨_, cap, rfl⟩
theorem set3 {w : World} {i F : Nat} {a b c : Value} (h : i ≠ F) : (((w.setCell ⟨F, 0, none⟩ a).setCell ⟨F, 1, none⟩ b).setCell ⟨F, 2, none⟩ c).heap[i]? = w.heap[i]? := by
  rw [Below.heap_setCell _ _ _ _ h, Below.heap_setCell _ _ _ _ h, Below.heap_setCell _ _ _ _ h]
theorem cnt_low {va : Int} {z : Int} (h : U va) (hz : 0 < z) (h1 : z ≤ 512 - va % 512) : (cnt va z.toNat : Int) = z := by obtain ⟨h0, _⟩ := h; unfold cnt; omega
theorem cnt_high {va : Int} {z : Int} (h : U va) (hz : 0 < z) (h1 : 512 - va % 512 ≤ z) : (cnt va z.toNat : Int) = 512 - va % 512 := by obtain ⟨h0, _⟩ := h; unfold cnt; omega
set_option maxRecDepth 100000 in
set_option maxHeartbeats 2000000 in
theorem runs_any (g rg tg r : Nat) (S : Nat → Prop) (t : Tabs) (rows : Rows) (xs : List Int) (va n : Int) (u wt ah : Bool) (w : World) (h : Mx w g rg tg S t rows) (hm : Rm.Mem w rg r xs) (hv : U va) (hn' : n ≤ 1000000) :
    Calls Try.prog 51 #[(Value.pointer (some ⟨g, 0, none⟩)), .int .u32 va, .int .i64 n, (Value.agg #[Value.bool u, Value.bool wt, Value.bool ah])] w fun e w' =>
      RuE w (walk t xs u wt (!ah) rows [] va n.toNat).1 e w' ∧ ∃ S', Tl.Tb w' tg S' (walk t xs u wt (!ah) rows [] va n.toNat).2 ∧ Tl.Step S S' w w' := by
  have hg := h.glt
  obtain ⟨o, ho⟩ : ∃ o, walk t xs u wt (!ah) rows [] va n.toNat = o := ⟨_, rfl⟩
  rw [ho]
  have HL : Hid (Lp w g rg tg r S S t xs u wt ah o n.toNat (.slice none 0 0) va n [] rows ((w.alloc (.cells #[.bool u, .bool wt, .bool ah] 99)).alloc (.cells #[.int .i64 0, .int .u32 0, .int .u32 0] 50))) :=
    ⟨ho.symm, R3.nil _, fun k hk => by simp [Tl.Bl, Value.ownBlock] at hk, h.below (by go_grown), hm.below_ (by go_grown), Tl.Step.of_below (by go_grown), Fr.new, hv, by simp⟩
  clear h hm hv ho
  go_enter Try.func51, Try.ntmps51
  go_wp2
  go_loopw [10, 1, 2] (fun v a z W => ∃ (va' n' : Int), a = .int .u32 va' ∧ z = .int .i64 n' ∧ n' ≤ n ∧ ∃ S1 l rows', Lp w g rg tg r S S1 t xs u wt ah o n.toNat v va' n' l rows' W) (fun _ _ z _ => (intOf z).toNat)
  case atStart => exact ⟨va, n, rfl, rfl, Int.le_refl _, S, [], rows, HL.out⟩
  case round =>
    clear HL
    obtain ⟨va, z, rfl, rfl, hz', S1, l, rows, hL⟩ := hrel
    obtain ⟨A, cp, rfl⟩ := hL.row.shape
    have HL := Lib.hid hL
    obtain ⟨v0, v1⟩ := hL.hv
    obtain ⟨k0, k1, k2⟩ := hL.fr.uses
    clear hL
    by_cases hz : 0 < z
    · rcases Int.lt_trichotomy z (512 - va % 512) with hlt | heq | hgt
      · have HC : Hid ((cnt va z.toNat : Int) = z) := cnt_low HL.out.hv hz (by omega)
        go_wp2_with fail
        refine (place_any g rg tg r S1 t rows xs va (z) u wt ah _ HL.out.mx HL.out.mem HL.out.hv (by omega) (by omega)).mono ?_
        rintro e w1 ⟨⟨S2, hT, hs⟩, hP⟩
        have hfr := HL.out.fr.mods hs.mods (tb_fr HL.out.mx.tb HL.out.fr).1 (tb_fr HL.out.mx.tb HL.out.fr).2
        have hzF := hfr.lt
        cases hpl : plE t xs rows va (z) u wt with
        | bad k i =>
          rw [hpl] at hP
          subst hP
          have HE : Hid (o = (.bad k va i, plR t xs rows va u wt (!ah))) := by
            show _ = _
            rw [HL.out.eq]
            exact walk_bad (by omega) (by rw [HC.out]; exact hpl)
          have hk := (plE_bad hpl).1
          have hk' : (k != 0) = true := by simp; omega
          obtain ⟨c0, c1, c2, f0, f1, f2⟩ := hfr.flts
          have HT := Lib.hid hT
          have HS := Lib.hid (HL.out.st.trans hs)
          have HNF := Lib.hid ((tb_fr hT hfr).2)
          clear hT hs hfr hpl hk k0 k1 k2
          go_wp2
          go_region
          go_wp2
          refine bodyPost_ret (v := .tuple #[.slice none 0 0, (Value.agg #[Value.int .i64 k, Value.int .u32 va, Value.int .u32 i])]) (by simp [results, Try.results51, go_sem, c0, c1, c2, hzF]) rfl ?_
          rw [HE.out]
          refine ⟨rfl, ?_⟩
          obtain ⟨S', a1, a2⟩ := fin3a (F := w.heap.size + 1) HT.out HS.out (by omega) HNF.out
          exact ⟨S', a1.below (by go_grown), a2.trans (Tl.Step.of_below (by go_grown))⟩
        | ok a =>
          rw [hpl] at hP
          subst hP
          obtain ⟨c, hc⟩ : ∃ c, cnt va z.toNat = c := ⟨_, rfl⟩
          have HCN := Lib.hid hc
          have HPL := Lib.hid hpl
          have hcz : (c : Int) = z := by rw [← hc]; exact HC.out
          have hrow : R3 (w1.alloc (.cells #[.int .i64 0, .int .u32 0, .int .u32 0] 50)) (.slice A l.length cp) l := Tl.own_below (Tl.own_mods HL.out.row hs.mods (row_tb HL.out.row HL.out.mx.tb)) (by go_grown)
          obtain ⟨r', cap', w3, hrun, H3⟩ := run_app3 _ (.slice A l.length cp) l ⟨va, a, c⟩ hrow (by have := HL.out.len; omega)
          have HRun := Lib.hid hrun
          have HN : Hid (Lp w g rg tg r S S2 t xs u wt ah o n.toNat (.slice (some ⟨r', 0, none⟩) (l.length + 1) cap') (nxt va z.toNat) (z - c) (l ++ [⟨va, a, c⟩]) (plR t xs rows va u wt (!ah)) w3) :=
            HL.out.next hT hs (by go_grown) (by omega) hc (by rw [hcz]; exact hpl) H3.out.1 H3.out.2
          have HX : Hid (nxt va z.toNat = (va + (z)) % 4294967296) := by show _ = _; rw [nxt, HC.out]
          clear hT hs hfr hpl hrow hrun H3 hc k0 k1 k2
          simp only [World.size_alloc, hcz] at HRun
          go_wp2_with (at_builtin; refine Tl.wpList_append_run _ rfl _ _ _ _ rfl _ _ rfl rfl HRun.out ?_)
          go_roundw
          case rel =>
            exact ⟨_, z - c, congrArg (Value.int .u32) (by have := HX.out; omega), congrArg (Value.int .i64) (by omega), by omega, _, _, _, HN.out⟩
          case measure => simp [intOf]; omega
      · have h1 : ¬ z < 512 - va % 512 := by omega
        have h2 : ¬ 512 - va % 512 < z := by omega
        clear heq
        have HC : Hid ((cnt va z.toNat : Int) = z) := cnt_low HL.out.hv hz (by omega)
        go_wp2_with fail
        refine (place_any g rg tg r S1 t rows xs va (z) u wt ah _ HL.out.mx HL.out.mem HL.out.hv (by omega) (by omega)).mono ?_
        rintro e w1 ⟨⟨S2, hT, hs⟩, hP⟩
        have hfr := HL.out.fr.mods hs.mods (tb_fr HL.out.mx.tb HL.out.fr).1 (tb_fr HL.out.mx.tb HL.out.fr).2
        have hzF := hfr.lt
        cases hpl : plE t xs rows va (z) u wt with
        | bad k i =>
          rw [hpl] at hP
          subst hP
          have HE : Hid (o = (.bad k va i, plR t xs rows va u wt (!ah))) := by
            show _ = _
            rw [HL.out.eq]
            exact walk_bad (by omega) (by rw [HC.out]; exact hpl)
          have hk := (plE_bad hpl).1
          have hk' : (k != 0) = true := by simp; omega
          obtain ⟨c0, c1, c2, f0, f1, f2⟩ := hfr.flts
          have HT := Lib.hid hT
          have HS := Lib.hid (HL.out.st.trans hs)
          have HNF := Lib.hid ((tb_fr hT hfr).2)
          clear hT hs hfr hpl hk k0 k1 k2
          go_wp2
          go_region
          go_wp2
          refine bodyPost_ret (v := .tuple #[.slice none 0 0, (Value.agg #[Value.int .i64 k, Value.int .u32 va, Value.int .u32 i])]) (by simp [results, Try.results51, go_sem, c0, c1, c2, hzF]) rfl ?_
          rw [HE.out]
          refine ⟨rfl, ?_⟩
          obtain ⟨S', a1, a2⟩ := fin3a (F := w.heap.size + 1) HT.out HS.out (by omega) HNF.out
          exact ⟨S', a1.below (by go_grown), a2.trans (Tl.Step.of_below (by go_grown))⟩
        | ok a =>
          rw [hpl] at hP
          subst hP
          obtain ⟨c, hc⟩ : ∃ c, cnt va z.toNat = c := ⟨_, rfl⟩
          have HCN := Lib.hid hc
          have HPL := Lib.hid hpl
          have hcz : (c : Int) = z := by rw [← hc]; exact HC.out
          have hrow : R3 (w1.alloc (.cells #[.int .i64 0, .int .u32 0, .int .u32 0] 50)) (.slice A l.length cp) l := Tl.own_below (Tl.own_mods HL.out.row hs.mods (row_tb HL.out.row HL.out.mx.tb)) (by go_grown)
          obtain ⟨r', cap', w3, hrun, H3⟩ := run_app3 _ (.slice A l.length cp) l ⟨va, a, c⟩ hrow (by have := HL.out.len; omega)
          have HRun := Lib.hid hrun
          have HN : Hid (Lp w g rg tg r S S2 t xs u wt ah o n.toNat (.slice (some ⟨r', 0, none⟩) (l.length + 1) cap') (nxt va z.toNat) (z - c) (l ++ [⟨va, a, c⟩]) (plR t xs rows va u wt (!ah)) w3) :=
            HL.out.next hT hs (by go_grown) (by omega) hc (by rw [hcz]; exact hpl) H3.out.1 H3.out.2
          have HX : Hid (nxt va z.toNat = (va + (z)) % 4294967296) := by show _ = _; rw [nxt, HC.out]
          clear hT hs hfr hpl hrow hrun H3 hc k0 k1 k2
          simp only [World.size_alloc, hcz] at HRun
          go_wp2_with (at_builtin; refine Tl.wpList_append_run _ rfl _ _ _ _ rfl _ _ rfl rfl HRun.out ?_)
          go_roundw
          case rel =>
            exact ⟨_, z - c, congrArg (Value.int .u32) (by have := HX.out; omega), congrArg (Value.int .i64) (by omega), by omega, _, _, _, HN.out⟩
          case measure => simp [intOf]; omega
      · have HC : Hid ((cnt va z.toNat : Int) = 512 - va % 512) := cnt_high HL.out.hv hz (by omega)
        go_wp2_with fail
        refine (place_any g rg tg r S1 t rows xs va (512 - va % 512) u wt ah _ HL.out.mx HL.out.mem HL.out.hv (by omega) (by omega)).mono ?_
        rintro e w1 ⟨⟨S2, hT, hs⟩, hP⟩
        have hfr := HL.out.fr.mods hs.mods (tb_fr HL.out.mx.tb HL.out.fr).1 (tb_fr HL.out.mx.tb HL.out.fr).2
        have hzF := hfr.lt
        cases hpl : plE t xs rows va (512 - va % 512) u wt with
        | bad k i =>
          rw [hpl] at hP
          subst hP
          have HE : Hid (o = (.bad k va i, plR t xs rows va u wt (!ah))) := by
            show _ = _
            rw [HL.out.eq]
            exact walk_bad (by omega) (by rw [HC.out]; exact hpl)
          have hk := (plE_bad hpl).1
          have hk' : (k != 0) = true := by simp; omega
          obtain ⟨c0, c1, c2, f0, f1, f2⟩ := hfr.flts
          have HT := Lib.hid hT
          have HS := Lib.hid (HL.out.st.trans hs)
          have HNF := Lib.hid ((tb_fr hT hfr).2)
          clear hT hs hfr hpl hk k0 k1 k2
          go_wp2
          go_region
          go_wp2
          refine bodyPost_ret (v := .tuple #[.slice none 0 0, (Value.agg #[Value.int .i64 k, Value.int .u32 va, Value.int .u32 i])]) (by simp [results, Try.results51, go_sem, c0, c1, c2, hzF]) rfl ?_
          rw [HE.out]
          refine ⟨rfl, ?_⟩
          obtain ⟨S', a1, a2⟩ := fin3a (F := w.heap.size + 1) HT.out HS.out (by omega) HNF.out
          exact ⟨S', a1.below (by go_grown), a2.trans (Tl.Step.of_below (by go_grown))⟩
        | ok a =>
          rw [hpl] at hP
          subst hP
          obtain ⟨c, hc⟩ : ∃ c, cnt va z.toNat = c := ⟨_, rfl⟩
          have HCN := Lib.hid hc
          have HPL := Lib.hid hpl
          have hcz : (c : Int) = 512 - va % 512 := by rw [← hc]; exact HC.out
          have hrow : R3 (w1.alloc (.cells #[.int .i64 0, .int .u32 0, .int .u32 0] 50)) (.slice A l.length cp) l := Tl.own_below (Tl.own_mods HL.out.row hs.mods (row_tb HL.out.row HL.out.mx.tb)) (by go_grown)
          obtain ⟨r', cap', w3, hrun, H3⟩ := run_app3 _ (.slice A l.length cp) l ⟨va, a, c⟩ hrow (by have := HL.out.len; omega)
          have HRun := Lib.hid hrun
          have HN : Hid (Lp w g rg tg r S S2 t xs u wt ah o n.toNat (.slice (some ⟨r', 0, none⟩) (l.length + 1) cap') (nxt va z.toNat) (z - c) (l ++ [⟨va, a, c⟩]) (plR t xs rows va u wt (!ah)) w3) :=
            HL.out.next hT hs (by go_grown) (by omega) hc (by rw [hcz]; exact hpl) H3.out.1 H3.out.2
          have HX : Hid (nxt va z.toNat = (va + (512 - va % 512)) % 4294967296) := by show _ = _; rw [nxt, HC.out]
          clear hT hs hfr hpl hrow hrun H3 hc k0 k1 k2
          simp only [World.size_alloc, hcz] at HRun
          go_wp2_with (at_builtin; refine Tl.wpList_append_run _ rfl _ _ _ _ rfl _ _ rfl rfl HRun.out ?_)
          go_roundw
          case rel =>
            exact ⟨_, z - c, congrArg (Value.int .u32) (by have := HX.out; omega), congrArg (Value.int .i64) (by omega), by omega, _, _, _, HN.out⟩
          case measure => simp [intOf]; omega
    · have HE : Hid (o = (.ok l, rows)) := by
        show _ = _
        rw [HL.out.eq, show z.toNat = 0 by omega, walk_end]
      obtain ⟨c0, c1, c2, f0, f1, f2⟩ := HL.out.fr.flts
      clear k0 k1 k2
      go_wp2
      refine bodyPost_ret (v := .tuple #[.slice A l.length cp, (Value.agg #[Value.int .i64 0, Value.int .u32 0, Value.int .u32 0])]) (by simp [results, Try.results51, go_sem, c0, c1, c2]) rfl ?_
      rw [HE.out]
      have hF := (row_fr HL.out.row HL.out.fr).2
      exact ⟨⟨_, rfl, Tl.own_keep HL.out.row (fun i hi => set3 (by rintro rfl; exact hF hi)), HL.out.ab⟩, fin3 HL.out.mx.tb HL.out.st (by omega) (tb_fr HL.out.mx.tb HL.out.fr).2⟩

end Go.Proofs.Ytfpdemlcmfaieaa.Cs
