/- Contracts of the document's buffer: Put; Same. -/
import Derived.Test.YtfpdemlcmfaieaaTRef2
namespace Go.Proofs.Ytfpdemlcmfaieaa.Tl
open Go.RowKit

theorem R1.ne {w : World} {g : Nat} {cs : Array Value} {fr : Nat × Nat} {v : Value} {ys : List Int} (hb : w.heap[g]? = some (.cells cs 62 fr)) (h : R1 w v ys) : ¬ Bl v g := by
  intro e
  obtain ⟨h1, ⟨rfl, _⟩ | ⟨r, cap, cur, rfl, _, hh, _⟩⟩ := h
  · simp [Bl, Value.ownBlock] at e
  · simp only [Bl, Value.ownBlock, Option.some.injEq] at e
    subst e
    have := hb.symm.trans hh
    injection this with this
    injection this with _ ht
    exact absurd ht (by decide)

/-- Put's end: both appends, both stores. -/
theorem rf_push {w0 w : World} {g : Nat} {S0 S : Nat → Prop} {xs : Rows} (n : Nat) (hn : xs.length = n) (p x : Int) (h : Rf w g S xs) (hl : n ≤ 8) (hs : Step S0 S w0 w) :
    ∃ A c B d, w.cell? ⟨g, 0, none⟩ = some (.slice A n c) ∧ w.cell? ⟨g, 1, none⟩ = some (.slice B n d) ∧ g < w.heap.size ∧ ∃ r1 c1 w2 r2 c2 w4,
      (Builtin.append_ #[58, 58] 58 #[.slice A n c, .slice (some ⟨w.heap.size, 0, none⟩) 1 1]).run Try.prog (w.alloc (.cells #[.int .u32 p] 23)) = .ok (.slice (some ⟨r1, 0, none⟩) (n + 1) c1) w2 ∧
      w2.cell? ⟨g, 0, none⟩ = some (.slice A n c) ∧ w2.cell? ⟨g, 1, none⟩ = some (.slice B n d) ∧ w2.frozen? ⟨g, 0, none⟩ = false ∧ g < w2.heap.size ∧
      (Builtin.append_ #[58, 58] 58 #[.slice B n d, .slice (some ⟨w2.heap.size, 0, none⟩) 1 1]).run Try.prog ((w2.setCell ⟨g, 0, none⟩ (.slice (some ⟨r1, 0, none⟩) (n + 1) c1)).alloc (.cells #[.int .u32 x] 23)) = .ok (.slice (some ⟨r2, 0, none⟩) (n + 1) c2) w4 ∧
      w4.cell? ⟨g, 1, none⟩ = some (.slice B n d) ∧ w4.frozen? ⟨g, 1, none⟩ = false ∧
      Hid (∃ S', Rf (w4.setCell ⟨g, 1, none⟩ (.slice (some ⟨r2, 0, none⟩) (n + 1) c2)) g S' (xs ++ [(p, x)]) ∧ Step S0 S' w0 (w4.setCell ⟨g, 1, none⟩ (.slice (some ⟨r2, 0, none⟩) (n + 1) c2))) := by
  obtain ⟨A, c, B, d, hb, hc0, hc1, hv, hu, ha, hS, _, _, _, _, _, _⟩ := h.open_
  rw [hn] at hb hc0 hc1 hv hu ha hS
  have hg := lt_of_heap hb
  have hng := hv.ne hb
  have hng' := hu.ne hb
  obtain ⟨r1, c1, w2, hr1, H1⟩ := run_app1 w _ (pages xs) p hv (by rw [pages_length]; omega)
  rw [pages_length, hn] at hr1 H1
  obtain ⟨h1, s1⟩ := H1.out
  have hb2 := (s1.mods.block g hg hng).trans hb
  have hu2 := own_mods hu s1.mods ha
  have hng1 := h1.ne hb2
  -- behind the first store
  obtain ⟨w3, hw3⟩ : ∃ w3, w3 = w2.setCell ⟨g, 0, none⟩ (.slice (some ⟨r1, 0, none⟩) (n + 1) c1) := ⟨_, rfl⟩
  have hb3 : w3.heap[g]? = some (.cells #[.slice (some ⟨r1, 0, none⟩) (n + 1) c1, .slice B n d] 62 (0, 0)) := by rw [hw3]; exact heap_setCell_same w2 g 0 _ _ _ hb2
  have hk3 : ∀ i, i ≠ g → w3.heap[i]? = w2.heap[i]? := fun i hi => by rw [hw3, Below.heap_setCell _ _ _ _ hi]
  have hsz : w3.heap.size = w2.heap.size := by rw [hw3]; simp [World.setCell]
  have h13 := own_keep h1 (fun i hi => hk3 i (by rintro rfl; exact hng1 hi))
  have hu3 : R1 w3 _ _ := own_keep hu2 (fun i hi => hk3 i (by rintro rfl; exact hng' hi))
  have hm3 : Mods S w w3 := by
    rw [hw3]
    exact (s1.mods.mono (fun i _ e => (hS i).2 (.inr (.inl e)))).set _ (.inl ((hS g).2 (.inl rfl)))
  have hg1 : ∀ k, Bl (.slice (some ⟨r1, 0, none⟩) (n + 1) c1) k → S k ∨ w.heap.size ≤ k := fun k hk => by
    rcases s1.grow k hk with e | e
    · exact .inl ((hS k).2 (.inr (.inl e)))
    · exact .inr e
  have ap1 := s1.apart ha (own_lo hu)
  obtain ⟨r2, c2, w4, hr2, H2⟩ := run_app1 w3 _ (xs.map Prod.snd) x hu3 (by rw [List.length_map]; omega)
  rw [List.length_map, hn] at hr2 H2
  obtain ⟨h2, s2⟩ := H2.out
  have hb4 := (s2.mods.block g (lt_of_heap hb3) hng').trans hb3
  have h14 := own_mods h13 s2.mods ap1.symm
  have hng2 := R1.ne hb4 h2
  refine ⟨A, c, B, d, hc0, hc1, hg, r1, c1, w2, r2, c2, w4, hr1, ?_, ?_, frozen_of_row w2 g 0 _ _ hb2, lt_of_heap hb2, ?_, ?_, frozen_of_row w4 g 1 _ _ hb4, ?_⟩
  · rw [cell_of_row w2 g 0 _ _ _ hb2]; rfl
  · rw [cell_of_row w2 g 1 _ _ _ hb2]; rfl
  · rw [hsz] at hr2; rw [← hw3]; exact hr2
  · rw [cell_of_row w4 g 1 _ _ _ hb4]; rfl
  · have hk5 : ∀ i, i ≠ g → (w4.setCell ⟨g, 1, none⟩ (.slice (some ⟨r2, 0, none⟩) (n + 1) c2)).heap[i]? = w4.heap[i]? := fun i hi => Below.heap_setCell _ _ _ _ hi
    have hg2 : ∀ k, Bl (.slice (some ⟨r2, 0, none⟩) (n + 1) c2) k → S k ∨ w.heap.size ≤ k := fun k hk => by
      rcases s2.grow k hk with e | e
      · exact .inl ((hS k).2 (.inr (.inr e)))
      · exact .inr (Nat.le_trans hm3.size e)
    have hm4 : Mods S w w4 := hm3.trans s2.mods (fun i _ e => (hS i).2 (.inr (.inr e)))
    refine ⟨fun k => k = g ∨ Bl (.slice (some ⟨r1, 0, none⟩) (n + 1) c1) k ∨ Bl (.slice (some ⟨r2, 0, none⟩) (n + 1) c2) k, ⟨⟨_, _, heap_setCell_same w4 g 1 _ _ _ hb4, ?_, ?_, ?_, fun k => Iff.rfl⟩⟩, hs.trans ⟨hm4.set _ (.inl ((hS g).2 (.inl rfl))), ?_⟩⟩
    · rw [pages_app]
      exact own_keep h14 (fun i hi => hk5 i (by rintro rfl; exact hng1 hi))
    · rw [List.map_append]
      exact own_keep h2 (fun i hi => hk5 i (by rintro rfl; exact hng2 hi))
    · exact (s2.apart ap1.symm (own_lo h13)).symm
    · intro k hk
      rcases hk with rfl | hk | hk
      · exact .inl ((hS k).2 (.inl rfl))
      · exact hg1 k hk
      · exact hg2 k hk

set_option maxRecDepth 100000 in
set_option maxHeartbeats 1000000 in
theorem rput_in (g : Nat) (S : Nat → Prop) (xs : Rows) (p x : Int) (w : World) (h : Rf w g S xs) (hl : xs.length ≤ 8) (hp : pos xs p < xs.length) :
    Calls Try.prog 60 #[.pointer (some ⟨g, 0, none⟩), .int .u32 p, .int .u32 x] w fun e w' => e = .returned (.tuple #[]) ∧ ∃ S', Rf w' g S' (putR xs p x) ∧ Step S S' w w' := by
  have H := Lib.hid h
  have HL := Lib.hid hl
  have HK := Lib.hid (plc_in hp)
  have HD : Hid (putR xs p x = xs.set (pos xs p) (p, x)) := if_pos hp
  have HPg := Lib.hid (pages_set (x := x) hp)
  obtain ⟨A, c, B, d, hb, hc0, hc1, hv, hu, ha, hS, _, HB, _, _, hdc, hdm⟩ := h.open_
  obtain ⟨r, rfl, hrl, hx⟩ := HB.out _ hp
  generalize putR xs p x = ys at HD ⊢
  generalize pos xs p = k at hp HK HD HPg hx
  have hu' : w.ownsRow 0 23 1 (.slice (some ⟨r, 0, none⟩) xs.length d) xs.length (c1 (xs.map Prod.snd)) := by
    have hu' := hu
    rw [R1, List.length_map] at hu'
    exact hu'
  have hfx := hu'.frozenAt k
  have hst := hu'.stored k (.int .u32 x)
  have hgr : g ≠ r := by
    rintro rfl
    exact hu.ne hb rfl
  have HE : Hid (∃ S', Rf (w.setCell ⟨r, k, none⟩ (.int .u32 x)) g S' ys ∧ Step S S' w (w.setCell ⟨r, k, none⟩ (.int .u32 x))) := by
    refine ⟨S, ⟨⟨_, _, (Below.heap_setCell _ _ _ _ hgr).trans hb, ?_, ?_, ha, hS⟩⟩, (Mods.refl _ _).set _ (.inl ((hS r).2 (.inr (.inr rfl)))), fun _ h => .inl h⟩
    · rw [HD.out, HPg.out]
      exact own_keep hv (fun i hi => Below.heap_setCell _ _ _ _ (by rintro rfl; exact ha _ hi rfl))
    · show World.ownsRow _ _ _ _ _ _ _
      rw [HD.out, List.length_map, List.length_set]
      have e : c1 ((xs.set k (p, x)).map Prod.snd) = (c1 (xs.map Prod.snd)).set k (.int .u32 x) := by simp [c1, List.map_set]
      rw [e]
      exact hst.1
  generalize hn : xs.length = n at hp hc1 hdc
  clear h hl hb hv hu ha hS HB hu' hst hn hc0
  go_enter Try.func60, Try.ntmps60
  go_wp2_with fail
  refine (rat_as g S xs p k _ H.out HL.out HK.out).mono ?_
  rintro e w' ⟨rfl, rfl⟩
  go_wp2
  first | go_end0 | (refine bodyPost_ret (results_none rfl _ _ _) rfl ?_)
  exact ⟨rfl, HE.out⟩

set_option maxRecDepth 100000 in
set_option maxHeartbeats 1000000 in
theorem rput_less (g : Nat) (S : Nat → Prop) (xs : Rows) (p x : Int) (w : World) (h : Rf w g S xs) (hl : xs.length ≤ 8) (hp : ¬ pos xs p < xs.length) (h8 : xs.length ≠ 8) :
    Calls Try.prog 60 #[.pointer (some ⟨g, 0, none⟩), .int .u32 p, .int .u32 x] w fun e w' => e = .returned (.tuple #[]) ∧ ∃ S', Rf w' g S' (putR xs p x) ∧ Step S S' w w' := by
  have H := Lib.hid h
  have HL := Lib.hid hl
  have HK := Lib.hid (plc_out hp)
  have HD : Hid (putR xs p x = xs ++ [(p, x)]) := by show _ = _; rw [putR, if_neg hp, if_neg h8]
  generalize putR xs p x = ys at HD ⊢
  obtain ⟨n, hn⟩ : ∃ n, xs.length = n := ⟨_, rfl⟩
  rw [hn] at hl h8
  have h8' : ((n : Int) == 8) = false := by simp; omega
  obtain ⟨A, c, B, d, hc0, hc1, hg, r1, c1, w2, r2, c2, w4, hr1, hc02, hc12, hf2, hg2, hr2, hc4, hf4, HE⟩ := rf_push n hn p x h hl (Step.of_below (S := S) (Below.refl _ w))
  rw [← HD.out] at HE
  have HR1 := Lib.hid hr1
  have HR2 := Lib.hid hr2
  clear h hn hp hr1 hr2
  go_enter Try.func60, Try.ntmps60
  go_wp2_with fail
  refine (rat_as g S xs p (-1) _ H.out HL.out HK.out).mono ?_
  rintro e w' ⟨rfl, rfl⟩
  go_wp2_with (first
    | (at_builtin; refine wpList_append_run _ rfl (.tmp 37) (.tmp 39) _ _ rfl _ _ rfl rfl HR1.out ?_)
    | (at_builtin; refine wpList_append_run _ rfl (.tmp 47) (.tmp 49) _ _ rfl _ _ rfl rfl HR2.out ?_))
  first | go_end0 | (refine bodyPost_ret (results_none rfl _ _ _) rfl ?_)
  exact ⟨rfl, HE.out⟩

set_option maxRecDepth 100000 in
set_option maxHeartbeats 1000000 in
theorem rput_full (g : Nat) (S : Nat → Prop) (xs : Rows) (p x : Int) (w : World) (h : Rf w g S xs) (hf : Fit xs) (hp : ¬ pos xs p < xs.length) (h8 : xs.length = 8) :
    Calls Try.prog 60 #[.pointer (some ⟨g, 0, none⟩), .int .u32 p, .int .u32 x] w fun e w' => e = .returned (.tuple #[]) ∧ ∃ S', Rf w' g S' (putR xs p x) ∧ Step S S' w w' := by
  have H := Lib.hid h
  have HL := Lib.hid hf.2.1
  have HF := Lib.hid hf
  have HK := Lib.hid (plc_out hp)
  have HD : Hid (putR xs p x = xs.tail ++ [(p, x)]) := by show _ = _; rw [putR, if_neg hp, if_pos h8]
  have HT : Hid (dropR xs (row xs 0).1 = xs.tail) := drop_head (by omega)
  have HTl : Hid (xs.tail.length = 7) := by show _ = _; simp [h8]
  generalize putR xs p x = ys at HD ⊢
  obtain ⟨A, c, B, d, _, hc0, hc1, _, _, _, _, HA, _, hcc, hcm, _, _⟩ := h.open_
  obtain ⟨r, rfl, hrl, hx⟩ := HA.out 0 (by omega)
  rw [h8] at hc0 hc1 hcc
  clear h hf hp h8 HA hc1
  go_enter Try.func60, Try.ntmps60
  go_wp2_with fail
  refine (rat_as g S xs p (-1) _ H.out HL.out HK.out).mono ?_
  rintro e w' ⟨rfl, rfl⟩
  go_wp2_with fail
  refine (rdrop_any g S xs _ _ H.out HF.out).mono ?_
  rintro e w1 ⟨rfl, S1, h1, s1⟩
  rw [HT.out] at h1
  obtain ⟨A, c', B, d', hc0, hc1, hg, r1, c1, w2, r2, c2, w4, hr1, hc02, hc12, hf2, hg2, hr2, hc4, hf4, HE⟩ := rf_push 7 HTl.out p x h1 (by omega) s1
  rw [← HD.out] at HE
  rw [show 7 + 1 = 8 from rfl] at HE hr1 hr2
  have HR1 := Lib.hid hr1
  have HR2 := Lib.hid hr2
  clear h1 s1 hr1 hr2
  go_wp2_with (first
    | (at_builtin; refine wpList_append_run _ rfl (.tmp 37) (.tmp 39) _ _ rfl _ _ rfl rfl HR1.out ?_)
    | (at_builtin; refine wpList_append_run _ rfl (.tmp 47) (.tmp 49) _ _ rfl _ _ rfl rfl HR2.out ?_))
  first | go_end0 | (refine bodyPost_ret (results_none rfl _ _ _) rfl ?_)
  exact ⟨rfl, HE.out⟩

theorem rput_any (g : Nat) (S : Nat → Prop) (xs : Rows) (p x : Int) (w : World) (h : Rf w g S xs) (hf : Fit xs) :
    Calls Try.prog 60 #[.pointer (some ⟨g, 0, none⟩), .int .u32 p, .int .u32 x] w fun e w' => e = .returned (.tuple #[]) ∧ ∃ S', Rf w' g S' (putR xs p x) ∧ Step S S' w w' := by
  by_cases hi : pos xs p < xs.length
  · exact rput_in g S xs p x w h hf.2.1 hi
  · by_cases h8 : xs.length = 8
    · exact rput_full g S xs p x w h hf hi h8
    · exact rput_less g S xs p x w h hf.2.1 hi h8

end Go.Proofs.Ytfpdemlcmfaieaa.Tl
