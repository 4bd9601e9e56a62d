/- Contracts of package tlb: New, Get, Put, Drop, Clear. -/
import Derived.Test.YtfpdemlcmfaieaaTDel
namespace Go.Proofs.Ytfpdemlcmfaieaa.Tl
open Go.RowKit

theorem new_any (w : World) :
    Calls Try.prog 38 #[] w fun e w' => ∃ g S, e = .returned (.pointer (some ⟨g, 0, none⟩)) ∧ w.heap.size ≤ g ∧ g < w'.heap.size ∧ Tb w' g S [] ∧ Ab w.heap.size S ∧ Below w.heap.size w w' := by
  go_enter Try.func38, Try.ntmps38
  go_wp2
  go_ret
  refine ⟨w.heap.size, fun k => k = w.heap.size, rfl, Nat.le_refl _, by simp, ⟨⟨.slice none 0 0, heap_alloc_new _ _, ⟨by simp [c2], .inl ⟨rfl, rfl⟩⟩, fun k => by simp [Bl, Value.ownBlock]⟩, Fit.nil⟩, fun k h => by omega, (Below.refl _ _).alloc (Nat.le_refl _) _⟩

theorem get_nil (p : Int) (w : World) :
    Calls Try.prog 65 #[.pointer none, .int .u32 p] w fun e w' => e = .returned (.tuple #[.int .u32 0, .bool false]) ∧ Below w.heap.size w w' := by
  go_enter Try.func65, Try.ntmps65
  go_wp2_with (go_at_call 62; refine (place_nil _ _).mono ?_; rintro e w1 ⟨rfl, hb⟩)
  go_ret2
  exact ⟨rfl, hb⟩
theorem put_nil (p x : Int) (w : World) :
    Calls Try.prog 67 #[.pointer none, .int .u32 p, .int .u32 x] w fun e w' => e = .returned (.tuple #[]) ∧ w = w' := by
  go_enter Try.func67, Try.ntmps67
  go_wp2
  first | go_end0 | (refine bodyPost_ret (results_none rfl _ _ _) rfl ?_)
  exact ⟨rfl, rfl⟩
theorem drop_nil (p : Int) (w : World) :
    Calls Try.prog 50 #[.pointer none, .int .u32 p] w fun e w' => e = .returned (.tuple #[]) ∧ Below w.heap.size w w' := by
  go_enter Try.func50, Try.ntmps50
  go_wp2_with (go_at_call 62; refine (place_nil _ _).mono ?_; rintro e w1 ⟨rfl, hb⟩)
  first | go_end0 | (refine bodyPost_ret (results_none rfl _ _ _) rfl ?_)
  exact ⟨rfl, hb⟩
theorem clear_nil (w : World) :
    Calls Try.prog 39 #[.pointer none] w fun e w' => e = .returned (.tuple #[]) ∧ w = w' := by
  go_enter Try.func39, Try.ntmps39
  go_wp2
  first | go_end0 | (refine bodyPost_ret (results_none rfl _ _ _) rfl ?_)
  exact ⟨rfl, rfl⟩

theorem place_as (g : Nat) (S : Nat → Prop) (xs : Rows) (p k : Int) (w : World) (h : Tb w g S xs) (hk : plc xs p = k) :
    Calls Try.prog 62 #[.pointer (some ⟨g, 0, none⟩), .int .u32 p] w fun e w' => e = .returned (.int .i64 k) ∧ Below w.heap.size w w' := by
  subst hk
  exact place_any g S xs p w h

theorem del_as (r n m cap i j : Nat) (xs ys : Rows) (w : World) (h : R2 w (.slice (some ⟨r, 0, none⟩) n cap) xs) (hn : xs.length = n) (hi : i < n) (hj : j = i + 1) (hn8 : n ≤ 8) (hm : n - 1 = m) (hy : xs.eraseIdx i = ys) :
    Calls Try.prog 63 #[.slice (some ⟨r, 0, none⟩) n cap, .int .i64 i, .int .i64 j] w fun e w' => e = .returned (.slice (some ⟨r, 0, none⟩) m cap) ∧
      R2 w' (.slice (some ⟨r, 0, none⟩) m cap) ys ∧ Mods (fun k => k = r) w w' := by
  subst hm hy
  exact del_any r n cap i j xs w h hn hi hj hn8

/-- What a buffer with rows looks like. -/
theorem Tb.open_ {w : World} {g : Nat} {S : Nat → Prop} {xs : Rows} (h : Tb w g S xs) (h0 : 0 < xs.length) : ∃ r cap, w.cell? ⟨g, 0, none⟩ = some (.slice (some ⟨r, 0, none⟩) xs.length cap) ∧ xs.length ≤ cap ∧ cap ≤ 9223372036854775807 ∧
    w.heap[g]? = some (.cells #[.slice (some ⟨r, 0, none⟩) xs.length cap] 105 (0, 0)) ∧ R2 w (.slice (some ⟨r, 0, none⟩) xs.length cap) xs ∧ g ≠ r ∧ (∀ k, S k ↔ (k = g ∨ k = r)) := by
  obtain ⟨v, hb, hr, hS⟩ := h.ex
  have hc : w.cell? ⟨g, 0, none⟩ = some v := by rw [cell_of_row w g 0 _ _ _ hb]; rfl
  have hr0 := hr
  obtain ⟨h1, ⟨_, h2⟩ | ⟨r, cap, cur, rfl, _, hh, hcap, hm, _, _⟩⟩ := hr
  · omega
  · refine ⟨r, cap, hc, hcap, by simpa [maxLen] using hm, hb, hr0, ?_, fun k => by rw [hS k]; simp [Bl, Value.ownBlock, eq_comm]⟩
    rintro rfl
    have := hb.symm.trans hh
    injection this with this
    injection this with _ ht
    exact absurd ht (by decide)
theorem R2.ne {w : World} {g : Nat} {cs : Array Value} {fr : Nat × Nat} {v : Value} {ys : Rows} (hb : w.heap[g]? = some (.cells cs 105 fr)) (h : R2 w v ys) : ¬ Bl v g := by
  intro e
  obtain ⟨h1, ⟨rfl, _⟩ | ⟨r, cap, cur, rfl, _, hh, _⟩⟩ := h
  · simp [Bl, Value.ownBlock] at e
  · simp only [Bl, Value.ownBlock, Option.some.injEq] at e
    subst e
    have := hb.symm.trans hh
    injection this with this
    injection this with _ ht
    exact absurd ht (by decide)
theorem R2.len {w : World} {v : Value} {ys : Rows} (h : R2 w v ys) : (c2 ys).length = ys.length * 2 := h.1

set_option maxHeartbeats 400000 in
theorem get_any (g : Nat) (S : Nat → Prop) (xs : Rows) (p : Int) (w : World) (h : Tb w g S xs) :
    Calls Try.prog 65 #[.pointer (some ⟨g, 0, none⟩), .int .u32 p] w fun e w' => e = .returned (.tuple #[.int .u32 (ent xs p), .bool (hav xs p)]) ∧ Below w.heap.size w w' := by
  by_cases hp : pos xs p < xs.length
  · obtain ⟨r, cap, hc, hcap, hm, hb, hR, _, _⟩ := h.open_ (by omega)
    have H := Lib.hid h
    have HK := Lib.hid (plc_in hp)
    have HE : Hid (hav xs p = true) := decide_eq_true hp
    have hl := h.fit.2.1
    rcases own_shape hR with ⟨e, _⟩ | ⟨r', cap', e, _, _, hrl, hcs, _⟩
    · cases e
    · injection e with e1 _ e3
      injection e1 with e1
      injection e1 with e1
      subst e1 e3
      have he : w.cell? ⟨r, pos xs p * 2 + 1, none⟩ = some (.int .u32 (ent xs p)) := hcs _ _ (c2_get1 xs _ hp)
      have hg := lt_of_heap hb
      generalize ent xs p = x at he ⊢
      generalize hk : pos xs p = k at hp he HK
      generalize hn : xs.length = n at hp hc hcap hl
      have HC := Lib.hid hc
      have HX := Lib.hid he
      clear hb hR h hcs hk hn hc he
      go_enter Try.func65, Try.ntmps65
      go_wp2_with fail
      refine (place_as g S xs p k _ H.out HK.out).mono ?_
      rintro e w1 ⟨rfl, hb1⟩
      have hc1 := (hb1.cell (p := ⟨g, 0, none⟩) hg).trans HC.out
      have hx1 := (hb1.cell (p := ⟨r, k * 2 + 1, none⟩) hrl).trans HX.out
      have HB := Lib.hid hb1
      clear hb1
      go_wp2
      go_ret2
      exact ⟨by rw [HE.out]; rfl, HB.out⟩
  · have H := Lib.hid h
    have HK := Lib.hid (plc_out hp)
    have HE : Hid (hav xs p = false) := decide_eq_false hp
    have HX := Lib.hid (ent_out hp)
    clear h hp
    go_enter Try.func65, Try.ntmps65
    go_wp2_with fail
    refine (place_as g S xs p (-1) _ H.out HK.out).mono ?_
    rintro e w1 ⟨rfl, hb1⟩
    go_wp2
    go_ret2
    exact ⟨by rw [HE.out, HX.out]; rfl, hb1⟩

/-- The field is stored anew. -/
theorem tb_store {w w2 : World} {g : Nat} {u v' : Value} {S : Nat → Prop} {ys : Rows} (hb : w2.heap[g]? = some (.cells #[u] 105 (0, 0))) (hr : R2 w2 v' ys) (hf : Fit ys) (hS : ∀ k, Bl v' k → S k ∨ w.heap.size ≤ k) (hm : Mods S w w2) (hg : S g) :
    ∃ S', Tb (w2.setCell ⟨g, 0, none⟩ v') g S' ys ∧ Step S S' w (w2.setCell ⟨g, 0, none⟩ v') := by
  refine ⟨fun k => k = g ∨ Bl v' k, ⟨⟨v', heap_setCell_same w2 g 0 _ _ v' hb, own_keep hr (fun i hi => ?_), fun k => Iff.rfl⟩, hf⟩, hm.set _ (.inl hg), fun k hk => ?_⟩
  · exact Below.heap_setCell _ _ _ _ (by rintro rfl; exact hr.ne hb hi)
  · rcases hk with rfl | hk
    · exact .inl hg
    · exact hS k hk

set_option maxHeartbeats 400000 in
theorem clear_any (g : Nat) (S : Nat → Prop) (xs : Rows) (w : World) (h : Tb w g S xs) :
    Calls Try.prog 39 #[.pointer (some ⟨g, 0, none⟩)] w fun e w' => e = .returned (.tuple #[]) ∧ ∃ S', Tb w' g S' [] ∧ Step S S' w w' := by
  obtain ⟨v, hb, hr, hS⟩ := h.ex
  have hc : w.cell? ⟨g, 0, none⟩ = some v := by rw [cell_of_row w g 0 _ _ _ hb]; rfl
  have hf := frozen_of_row w g 0 _ _ hb
  have HE := Lib.hid (tb_store (w := w) (v' := .slice none 0 0) (ys := []) hb ⟨by simp [c2], .inl ⟨rfl, rfl⟩⟩ Fit.nil (fun k hk => by simp [Bl, Value.ownBlock] at hk) (Mods.refl S w) h.in_)
  clear hb hr hS h
  go_enter Try.func39, Try.ntmps39
  go_wp2
  first | go_end0 | (refine bodyPost_ret (results_none rfl _ _ _) rfl ?_)
  exact ⟨rfl, HE.out⟩

set_option maxHeartbeats 400000 in
theorem drop_any (g : Nat) (S : Nat → Prop) (xs : Rows) (p : Int) (w : World) (h : Tb w g S xs) :
    Calls Try.prog 50 #[.pointer (some ⟨g, 0, none⟩), .int .u32 p] w fun e w' => e = .returned (.tuple #[]) ∧ ∃ S', Tb w' g S' (dropR xs p) ∧ Step S S' w w' := by
  by_cases hp : pos xs p < xs.length
  · have H := Lib.hid h
    have HK := Lib.hid (plc_in hp)
    have HF := Lib.hid (h.fit.drop p)
    have hl := h.fit.2.1
    have HD : Hid (dropR xs p = xs.eraseIdx (pos xs p)) := rfl
    generalize dropR xs p = ys at HF HD ⊢
    generalize hk : pos xs p = k at hp HK HD
    generalize hn : xs.length = n at hp hl
    have HN := Lib.hid hn
    clear hk hn h
    go_enter Try.func50, Try.ntmps50
    go_wp2_with fail
    refine (place_as g S xs p k _ H.out HK.out).mono ?_
    rintro e w1 ⟨rfl, hb1⟩
    have h1 := H.out.below hb1
    obtain ⟨r, cap, hc, hcap, hm, hb, hR, hne, hS⟩ := h1.open_ (by rw [HN.out]; omega)
    rw [HN.out] at hc hcap hb hR
    have HB := Lib.hid hb
    have HR := Lib.hid hR
    have HS := Lib.hid hS
    have HM := Lib.hid (Mods.of_below (S := S) hb1)
    have hg := lt_of_heap hb
    clear hb hR hS h1 hb1
    have hw : IntKind.i64.wrap ((k : Int) + 1) = ((k + 1 : Nat) : Int) := by rw [IntKind.wrap_i64]; omega
    go_wp2_with fail
    refine (del_any r n cap k (k + 1) xs _ HR.out HN.out (by omega) rfl hl).mono ?_
    rintro e w2 ⟨rfl, hr2, hm2⟩
    have hb2 := (hm2.block g hg hne).trans HB.out
    have hc2 : w2.cell? ⟨g, 0, none⟩ = some (.slice (some ⟨r, 0, none⟩) n cap) := by rw [cell_of_row w2 g 0 _ _ _ hb2]; rfl
    have hf2 := frozen_of_row w2 g 0 _ _ hb2
    rw [← HD.out] at hr2
    have HE := Lib.hid (tb_store (w := w) (v' := .slice (some ⟨r, 0, none⟩) (n - 1) cap) (S := S) hb2 hr2 HF.out (fun k hk => by
      simp only [Bl, Value.ownBlock, Option.some.injEq] at hk
      exact .inl ((HS.out k).2 (.inr hk.symm))) (HM.out.trans hm2 (fun i _ e => (HS.out i).2 (.inr e))) ((HS.out g).2 (.inl rfl)))
    clear hb2 hr2 hm2 hw
    go_wp2
    first | go_end0 | (refine bodyPost_ret (results_none rfl _ _ _) rfl ?_)
    exact ⟨rfl, HE.out⟩
  · have H := Lib.hid h
    have HK := Lib.hid (plc_out hp)
    have HD : Hid (dropR xs p = xs) := List.eraseIdx_of_length_le (by omega)
    clear h hp
    go_enter Try.func50, Try.ntmps50
    go_wp2_with fail
    refine (place_as g S xs p (-1) _ H.out HK.out).mono ?_
    rintro e w1 ⟨rfl, hb1⟩
    go_wp2
    first | go_end0 | (refine bodyPost_ret (results_none rfl _ _ _) rfl ?_)
    exact ⟨rfl, S, by rw [HD.out]; exact H.out.below hb1, Step.of_below hb1⟩

set_option maxHeartbeats 800000 in
theorem put_in (g : Nat) (S : Nat → Prop) (xs : Rows) (p x : Int) (w : World) (h : Tb w g S xs) (hp : pos xs p < xs.length) (hF : Fit (putR xs p x)) :
    Calls Try.prog 67 #[.pointer (some ⟨g, 0, none⟩), .int .u32 p, .int .u32 x] w fun e w' => e = .returned (.tuple #[]) ∧ ∃ S', Tb w' g S' (putR xs p x) ∧ Step S S' w w' := by
  have H := Lib.hid h
  have HK := Lib.hid (plc_in hp)
  have HF := Lib.hid hF
  have hl := h.fit.2.1
  have HD : Hid (putR xs p x = xs.set (pos xs p) (p, x)) := if_pos hp
  have HC := Lib.hid (c2_set1 xs (pos xs p) (p, x) hp (row_pos hp))
  generalize putR xs p x = ys at HF HD ⊢
  have hq := hp
  generalize hk : pos xs p = k at hp HK HD HC
  generalize hn : xs.length = n at hp hl
  have HN := Lib.hid hn
  clear hk hn h hF hq
  go_enter Try.func67, Try.ntmps67
  go_wp2_with fail
  refine (place_as g S xs p k _ H.out HK.out).mono ?_
  rintro e w1 ⟨rfl, hb1⟩
  have h1 := H.out.below hb1
  obtain ⟨r, cap, hc, hcap, hm, hb, hR, hne, hS⟩ := h1.open_ (by rw [HN.out]; omega)
  rw [HN.out] at hc hcap hb hR
  have hR' : w1.ownsRow 0 113 2 (.slice (some ⟨r, 0, none⟩) n cap) n (c2 xs) := by rw [← HN.out] at hR ⊢; exact hR
  have hcx := hR'.cellAt (k * 2 + 1) (by omega)
  rw [c2_get1 xs k (by rw [HN.out]; exact hp)] at hcx
  have hfx := hR'.frozenAt (k * 2 + 1)
  have hst := hR'.stored (k * 2 + 1) (.int .u32 x)
  have HE : Hid (∃ S', Tb (w1.setCell ⟨r, k * 2 + 1, none⟩ (.int .u32 x)) g S' ys ∧ Step S S' w (w1.setCell ⟨r, k * 2 + 1, none⟩ (.int .u32 x))) := by
    refine ⟨S, ⟨⟨.slice (some ⟨r, 0, none⟩) n cap, (Below.heap_setCell _ _ _ _ hne).trans hb, ?_, fun k => by rw [hS k]; simp [Bl, Value.ownBlock, eq_comm]⟩, HF.out⟩, (Mods.of_below hb1).set _ (.inl ((hS r).2 (.inr rfl))), fun _ h => .inl h⟩
    show World.ownsRow _ _ _ _ _ _ _
    rw [HD.out, HC.out, List.length_set, HN.out]
    exact hst.1
  clear hb hR hS h1 hb1 hR' hst
  go_wp2
  first | go_end0 | (refine bodyPost_ret (results_none rfl _ _ _) rfl ?_)
  exact ⟨rfl, HE.out⟩

set_option maxHeartbeats 800000 in
theorem put_less (g : Nat) (S : Nat → Prop) (xs : Rows) (p x : Int) (w : World) (h : Tb w g S xs) (hp : ¬ pos xs p < xs.length) (h8 : xs.length ≠ 8) (hF : Fit (putR xs p x)) :
    Calls Try.prog 67 #[.pointer (some ⟨g, 0, none⟩), .int .u32 p, .int .u32 x] w fun e w' => e = .returned (.tuple #[]) ∧ ∃ S', Tb w' g S' (putR xs p x) ∧ Step S S' w w' := by
  have H := Lib.hid h
  have HK := Lib.hid (plc_out hp)
  have HF := Lib.hid hF
  have hl := h.fit.2.1
  have HD : Hid (putR xs p x = xs ++ [(p, x)]) := by show _ = _; rw [putR, if_neg hp, if_neg h8]
  generalize putR xs p x = ys at HF HD ⊢
  generalize hn : xs.length = n at h8 hl
  have HN := Lib.hid hn
  have h8' : ((n : Int) == 8) = false := by simp; omega
  clear hn h hF hp
  go_enter Try.func67, Try.ntmps67
  go_wp2_with fail
  refine (place_as g S xs p (-1) _ H.out HK.out).mono ?_
  rintro e w1 ⟨rfl, hb1⟩
  have h1 := H.out.below hb1
  obtain ⟨v, hb, hR, hS⟩ := h1.ex
  have hc : w1.cell? ⟨g, 0, none⟩ = some v := by rw [cell_of_row w1 g 0 _ _ _ hb]; rfl
  have hg := lt_of_heap hb
  have hgv := hR.ne hb
  obtain ⟨r', cap', w2, hrun, H2⟩ := run_app2 w1 v xs p x hR (by rw [HN.out]; exact hl)
  rw [HN.out] at hrun H2
  have hb2 := (H2.out.2.mods.block g hg hgv).trans hb
  have hc2 : w2.cell? ⟨g, 0, none⟩ = some v := by rw [cell_of_row w2 g 0 _ _ _ hb2]; rfl
  have hf2 := frozen_of_row w2 g 0 _ _ hb2
  have HE := Lib.hid (tb_store (w := w) (S := S) (ys := ys) hb2 (by rw [HD.out]; exact H2.out.1) HF.out (fun k hk => by
    rcases H2.out.2.grow k hk with e | e
    · exact .inl ((hS k).2 (.inr e))
    · exact .inr (Nat.le_trans hb1.size e)) ((Mods.of_below hb1).trans H2.out.2.mods (fun i _ e => (hS i).2 (.inr e))) ((hS g).2 (.inl rfl)))
  have HR := Lib.hid hrun
  rcases own_shape hR with ⟨rfl, h0⟩ | ⟨r, cap, rfl, hcap, hm, hrl, _, _⟩
  · rw [HN.out] at h0
    subst h0
    clear hb hR hS h1 hb1 hb2 hrun hgv
    go_wp2_with (at_builtin; refine wpList_append_run _ rfl _ _ _ _ rfl _ _ rfl rfl HR.out ?_)
    first | go_end0 | (refine bodyPost_ret (results_none rfl _ _ _) rfl ?_)
    exact ⟨rfl, HE.out⟩
  · rw [HN.out] at hc hcap HR hc2
    clear hb hR hS h1 hb1 hb2 hrun hgv
    go_wp2_with (at_builtin; refine wpList_append_run _ rfl _ _ _ _ rfl _ _ rfl rfl HR.out ?_)
    first | go_end0 | (refine bodyPost_ret (results_none rfl _ _ _) rfl ?_)
    exact ⟨rfl, HE.out⟩

set_option maxHeartbeats 800000 in
theorem put_full (g : Nat) (S : Nat → Prop) (xs : Rows) (p x : Int) (w : World) (h : Tb w g S xs) (hp : ¬ pos xs p < xs.length) (h8 : xs.length = 8) (hF : Fit (putR xs p x)) :
    Calls Try.prog 67 #[.pointer (some ⟨g, 0, none⟩), .int .u32 p, .int .u32 x] w fun e w' => e = .returned (.tuple #[]) ∧ ∃ S', Tb w' g S' (putR xs p x) ∧ Step S S' w w' := by
  have H := Lib.hid h
  have HK := Lib.hid (plc_out hp)
  have HF := Lib.hid hF
  have HN := Lib.hid h8
  have HD : Hid (putR xs p x = xs.tail ++ [(p, x)]) := by show _ = _; rw [putR, if_neg hp, if_pos h8]
  have HT : Hid (xs.eraseIdx 0 = xs.tail) := by show _ = _; simp
  have HTl : Hid (xs.tail.length = 7) := by show _ = _; simp [h8]
  generalize putR xs p x = ys at HF HD ⊢
  clear h hF hp h8
  go_enter Try.func67, Try.ntmps67
  go_wp2_with fail
  refine (place_as g S xs p (-1) _ H.out HK.out).mono ?_
  rintro e w1 ⟨rfl, hb1⟩
  have h1 := H.out.below hb1
  obtain ⟨r, cap, hc, hcap, hm, hb, hR, hne, hS⟩ := h1.open_ (by rw [HN.out]; omega)
  rw [HN.out] at hc hcap hb hR
  have HB := Lib.hid hb
  have HR := Lib.hid hR
  have HS := Lib.hid hS
  have HM := Lib.hid (Mods.of_below (S := S) hb1)
  have hg := lt_of_heap hb
  clear hb hR hS h1 hb1
  go_wp2_with fail
  refine (del_as r 8 7 cap 0 1 xs xs.tail _ HR.out HN.out (by omega) rfl (by omega) rfl HT.out).mono ?_
  rintro e w2 ⟨rfl, hr2, hm2⟩
  have hb2 := (hm2.block g hg hne).trans HB.out
  have hc2 : w2.cell? ⟨g, 0, none⟩ = some (.slice (some ⟨r, 0, none⟩) 8 cap) := by rw [cell_of_row w2 g 0 _ _ _ hb2]; rfl
  have hf2 := frozen_of_row w2 g 0 _ _ hb2
  obtain ⟨w3, hw3⟩ : ∃ w3, w3 = w2.setCell ⟨g, 0, none⟩ (.slice (some ⟨r, 0, none⟩) 7 cap) := ⟨_, rfl⟩
  have hb3 : w3.heap[g]? = some (.cells #[.slice (some ⟨r, 0, none⟩) 7 cap] 105 (0, 0)) := by rw [hw3]; exact heap_setCell_same w2 g 0 _ _ _ hb2
  have hr3 : R2 w3 (.slice (some ⟨r, 0, none⟩) 7 cap) xs.tail := by
    rw [hw3]
    refine own_keep hr2 (fun i hi => Below.heap_setCell _ _ _ _ ?_)
    rintro rfl
    exact hr2.ne hb2 hi
  have hm3 : Mods S w w3 := by
    rw [hw3]
    exact (HM.out.trans hm2 (fun i _ e => (HS.out i).2 (.inr e))).set _ (.inl ((HS.out g).2 (.inl rfl)))
  have hc3 : w3.cell? ⟨g, 0, none⟩ = some (.slice (some ⟨r, 0, none⟩) 7 cap) := by rw [cell_of_row w3 g 0 _ _ _ hb3]; rfl
  obtain ⟨r', cap', w4, hrun, H4⟩ := run_app2 w3 _ xs.tail p x hr3 (by rw [HTl.out]; omega)
  have hsz : w3.heap.size = w2.heap.size := by rw [hw3]; simp [World.setCell]
  rw [HTl.out, show 7 + 1 = 8 from rfl] at hrun H4
  rw [hsz] at hrun
  have hb4 := (H4.out.2.mods.block g (lt_of_heap hb3) (hr3.ne hb3)).trans hb3
  have hc4 : w4.cell? ⟨g, 0, none⟩ = some (.slice (some ⟨r, 0, none⟩) 7 cap) := by rw [cell_of_row w4 g 0 _ _ _ hb4]; rfl
  have hf4 := frozen_of_row w4 g 0 _ _ hb4
  have HE := Lib.hid (tb_store (w := w) (S := S) (ys := ys) hb4 (by rw [HD.out]; exact H4.out.1) HF.out (fun k hk => by
    rcases H4.out.2.grow k hk with e | e
    · simp only [Bl, Value.ownBlock, Option.some.injEq] at e
      exact .inl ((HS.out k).2 (.inr e.symm))
    · exact .inr (Nat.le_trans hm3.size e)) (hm3.trans H4.out.2.mods (fun i _ e => by
      simp only [Bl, Value.ownBlock, Option.some.injEq] at e
      exact (HS.out i).2 (.inr e.symm))) ((HS.out g).2 (.inl rfl)))
  rw [hw3] at hrun
  have HRun := Lib.hid hrun
  clear hb2 hr2 hm2 hb3 hr3 hm3 hb4 hrun hw3 hsz
  go_wp2_with (at_builtin; refine wpList_append_run _ rfl _ _ _ _ rfl _ _ rfl rfl HRun.out ?_)
  first | go_end0 | (refine bodyPost_ret (results_none rfl _ _ _) rfl ?_)
  exact ⟨rfl, HE.out⟩

theorem put_any (g : Nat) (S : Nat → Prop) (xs : Rows) (p x : Int) (w : World) (h : Tb w g S xs) (hp : 0 ≤ p ∧ p < 4294967296) (hx : 0 ≤ x ∧ x < 4294967296) :
    Calls Try.prog 67 #[.pointer (some ⟨g, 0, none⟩), .int .u32 p, .int .u32 x] w fun e w' => e = .returned (.tuple #[]) ∧ ∃ S', Tb w' g S' (putR xs p x) ∧ Step S S' w w' := by
  have hF := h.fit.put hp hx
  by_cases hi : pos xs p < xs.length
  · exact put_in g S xs p x w h hi hF
  · by_cases h8 : xs.length = 8
    · exact put_full g S xs p x w h hi h8 hF
    · exact put_less g S xs p x w h hi h8 hF

end Go.Proofs.Ytfpdemlcmfaieaa.Tl
