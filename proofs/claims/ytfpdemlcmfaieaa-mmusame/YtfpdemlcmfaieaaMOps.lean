/- Contracts of package mmu: New, Tables, Set, Clear, Drop, Buffered, Probe. -/
import Derived.Test.YtfpdemlcmfaieaaMMark
namespace Go.Proofs.Ytfpdemlcmfaieaa.Cs
open Go.RowKit


theorem mnew_any (rg : Nat) (w : World) :
    Calls Try.prog 15 #[(Value.pointer (some ⟨rg, 0, none⟩))] w fun e w' => ∃ g tg S, e = .returned (Value.pointer (some ⟨g, 0, none⟩)) ∧ w.heap.size ≤ g ∧ g < w'.heap.size ∧ Mx w' g rg tg S noTabs [] ∧ Tl.Ab w.heap.size S ∧ Below w.heap.size w w' := by
  go_enter Try.func15, Try.ntmps15
  go_wp2_with fail
  refine (Tl.new_any _).mono ?_
  rintro e w1 ⟨tg, S, rfl, h1, h2, hT, hA, hb⟩
  have hz := hb.size
  go_wp2
  go_ret
  exact ⟨w1.heap.size, tg, S, rfl, hz, by simp, ⟨heap_alloc_new _ _, hT.below (by go_grown), noTabs_ok⟩, hA, by go_grown⟩

/-- The tables are stored anew. -/
theorem mx_tabs {w : World} {g rg tg : Nat} {S : Nat → Prop} {t t' : Tabs} {rows : Rows} (h : Mx w g rg tg S t rows) (ht : t'.Ok) :
    Mx (((((w.setCell ⟨g, 1, none⟩ (.int .u32 t'.pb)).setCell ⟨g, 2, none⟩ (.int .u32 t'.pn)).setCell ⟨g, 3, none⟩ (.int .u32 t'.sb)).setCell ⟨g, 4, none⟩ (.int .u32 t'.sn)).setCell ⟨g, 5, none⟩ (.int .u32 t'.me)) g rg tg S t' rows ∧
    Tl.Mods (Rg S g) w (((((w.setCell ⟨g, 1, none⟩ (.int .u32 t'.pb)).setCell ⟨g, 2, none⟩ (.int .u32 t'.pn)).setCell ⟨g, 3, none⟩ (.int .u32 t'.sb)).setCell ⟨g, 4, none⟩ (.int .u32 t'.sn)).setCell ⟨g, 5, none⟩ (.int .u32 t'.me)) := by
  refine ⟨⟨?_, ?_, ht⟩, ?_⟩
  · exact heap_setCell_same _ g 5 _ _ _ (heap_setCell_same _ g 4 _ _ _ (heap_setCell_same _ g 3 _ _ _ (heap_setCell_same _ g 2 _ _ _ (heap_setCell_same w g 1 _ _ _ h.box))))
  · refine h.tb.keep fun k hk => ?_
    have hne : k ≠ g := by rintro rfl; exact h.not hk
    rw [Below.heap_setCell _ _ _ _ hne, Below.heap_setCell _ _ _ _ hne, Below.heap_setCell _ _ _ _ hne, Below.heap_setCell _ _ _ _ hne, Below.heap_setCell _ _ _ _ hne]
  · exact (((((Tl.Mods.refl _ _).set _ (.inl (.inr rfl))).set _ (.inl (.inr rfl))).set _ (.inl (.inr rfl))).set _ (.inl (.inr rfl))).set _ (.inl (.inr rfl))

set_option maxHeartbeats 400000 in
theorem set_any (g rg tg : Nat) (S : Nat → Prop) (t t' : Tabs) (rows : Rows) (w : World) (h : Mx w g rg tg S t rows) (ht : t'.Ok) :
    Calls Try.prog 17 #[(Value.pointer (some ⟨g, 0, none⟩)), (Value.agg #[Value.int .u32 (Tabs.pb t'), Value.int .u32 (Tabs.pn t'), Value.int .u32 (Tabs.sb t'), Value.int .u32 (Tabs.sn t'), Value.int .u32 (Tabs.me t')])] w fun e w' => e = .returned (.tuple #[]) ∧ ∃ S', Mx w' g rg tg S' t' [] ∧ Tl.Step (Rg S g) (Rg S' g) w w' := by
  have c1 := h.c1
  have c2 := h.c2
  have c3 := h.c3
  have c4 := h.c4
  have c5 := h.c5
  have c6 := h.c6
  have f1 := frozen_of_row w g 1 _ _ h.box
  have f2 := frozen_of_row w g 2 _ _ h.box
  have f3 := frozen_of_row w g 3 _ _ h.box
  have f4 := frozen_of_row w g 4 _ _ h.box
  have f5 := frozen_of_row w g 5 _ _ h.box
  have hg := h.glt
  have H := Lib.hid h
  have HT := Lib.hid ht
  clear h ht
  go_enter Try.func17, Try.ntmps17
  go_wp2_with fail
  obtain ⟨hm, hs⟩ := mx_tabs H.out HT.out
  have HM := Lib.hid hm
  have HS := Lib.hid hs
  clear hm hs
  refine (Tl.clear_any tg S rows _ (HM.out.tb.below (by go_grown))).mono ?_
  rintro e w1 ⟨rfl, S1, hT, hs⟩
  have HE : Hid (Mx w1 g rg tg S1 t' [] ∧ Tl.Step (Rg S g) (Rg S1 g) w w1) :=
    ⟨(HM.out.below (by go_grown)).turn hT hs, Tl.Step.trans ⟨HS.out, fun _ h => .inl h⟩ ((Tl.Step.of_below (by go_grown)).trans (step_rg hs))⟩
  clear hT hs
  go_wp2
  first | go_end0 | (refine bodyPost_ret (results_none rfl _ _ _) rfl ?_)
  exact ⟨rfl, S1, HE.out⟩

theorem clear_any (g rg tg : Nat) (S : Nat → Prop) (t : Tabs) (rows : Rows) (w : World) (h : Mx w g rg tg S t rows) :
    Calls Try.prog 20 #[(Value.pointer (some ⟨g, 0, none⟩))] w fun e w' => e = .returned (.tuple #[]) ∧ ∃ S', Mx w' g rg tg S' t [] ∧ Tl.Step S S' w w' := by
  have c6 := h.c6
  have H := Lib.hid h
  clear h
  go_enter Try.func20, Try.ntmps20
  go_wp2_with fail
  refine (Tl.clear_any tg S rows _ H.out.tb).mono ?_
  rintro e w1 ⟨rfl, S1, hT, hs⟩
  have HE : Hid (Mx w1 g rg tg S1 t [] ∧ Tl.Step S S1 w w1) := ⟨H.out.turn hT hs, hs⟩
  clear hT hs
  go_wp2
  first | go_end0 | (refine bodyPost_ret (results_none rfl _ _ _) rfl ?_)
  exact ⟨rfl, S1, HE.out⟩

theorem drop_any (g rg tg : Nat) (S : Nat → Prop) (t : Tabs) (rows : Rows) (va : Int) (w : World) (h : Mx w g rg tg S t rows) (hv : U va) :
    Calls Try.prog 21 #[(Value.pointer (some ⟨g, 0, none⟩)), .int .u32 va] w fun e w' => e = .returned (.tuple #[]) ∧ ∃ S', Mx w' g rg tg S' t (Tl.dropR rows (va / 512)) ∧ Tl.Step S S' w w' := by
  have c6 := h.c6
  have H := Lib.hid h
  obtain ⟨v0, v1⟩ := hv
  clear h
  go_enter Try.func21, Try.ntmps21
  go_wp2_with fail
  refine (Tl.drop_any tg S rows (va / 512) _ H.out.tb).mono ?_
  rintro e w1 ⟨rfl, S1, hT, hs⟩
  have HE : Hid (Mx w1 g rg tg S1 t (Tl.dropR rows (va / 512)) ∧ Tl.Step S S1 w w1) := ⟨H.out.turn hT hs, hs⟩
  clear hT hs
  go_wp2
  first | go_end0 | (refine bodyPost_ret (results_none rfl _ _ _) rfl ?_)
  exact ⟨rfl, S1, HE.out⟩

theorem buffered_any (g rg tg n : Nat) (S : Nat → Prop) (t : Tabs) (rows : Rows) (w : World) (h : Mx w g rg tg S t rows) (hn : rows.length = n) :
    Calls Try.prog 27 #[(Value.pointer (some ⟨g, 0, none⟩))] w fun e w' => ∃ b cap, e = .returned (.slice (some ⟨b, 0, none⟩) n cap) ∧ w.heap.size ≤ b ∧ Tl.R1 w' (.slice (some ⟨b, 0, none⟩) n cap) (Tl.pages rows) ∧ Below w.heap.size w w' := by
  have c6 := h.c6
  have H := Lib.hid h
  have HN := Lib.hid hn
  clear h hn
  go_enter Try.func27, Try.ntmps27
  go_wp2_with fail
  refine (Tl.pages_any tg S rows n _ H.out.tb HN.out).mono ?_
  rintro e w1 ⟨b, cap, rfl, h1, h2, h3⟩
  go_wp2
  go_ret
  exact ⟨b, cap, rfl, h1, h2, h3⟩

set_option maxHeartbeats 400000 in
theorem tables_any (g rg tg : Nat) (S : Nat → Prop) (t : Tabs) (rows : Rows) (w : World) (h : Mx w g rg tg S t rows) :
    Calls Try.prog 26 #[(Value.pointer (some ⟨g, 0, none⟩))] w fun e w' => e = .returned (Value.agg #[Value.int .u32 (Tabs.pb t), Value.int .u32 (Tabs.pn t), Value.int .u32 (Tabs.sb t), Value.int .u32 (Tabs.sn t), Value.int .u32 (Tabs.me t)]) ∧ Below w.heap.size w w' := by
  have c1 := h.c1
  have c2 := h.c2
  have c3 := h.c3
  have c4 := h.c4
  have c5 := h.c5
  have hg := h.glt
  clear h
  go_enter Try.func26, Try.ntmps26
  go_wp2
  go_returns
  exact ⟨rfl, by go_grown⟩

/-! of none -/
theorem set_nil (t : Value) (t' : Tabs) (h : t = (Value.agg #[Value.int .u32 (Tabs.pb t'), Value.int .u32 (Tabs.pn t'), Value.int .u32 (Tabs.sb t'), Value.int .u32 (Tabs.sn t'), Value.int .u32 (Tabs.me t')])) (w : World) :
    Calls Try.prog 17 #[.pointer none, t] w fun e w' => e = .returned (.tuple #[]) ∧ Below w.heap.size w w' := by
  subst h
  go_enter Try.func17, Try.ntmps17
  go_wp2
  first | go_end0 | (refine bodyPost_ret (results_none rfl _ _ _) rfl ?_)
  exact ⟨rfl, by go_grown⟩
theorem clear_nil (w : World) :
    Calls Try.prog 20 #[.pointer none] w fun e w' => e = .returned (.tuple #[]) ∧ w = w' := by
  go_enter Try.func20, Try.ntmps20
  go_wp2
  first | go_end0 | (refine bodyPost_ret (results_none rfl _ _ _) rfl ?_)
  exact ⟨rfl, rfl⟩
theorem drop_nil (va : Int) (w : World) :
    Calls Try.prog 21 #[.pointer none, .int .u32 va] w fun e w' => e = .returned (.tuple #[]) ∧ w = w' := by
  go_enter Try.func21, Try.ntmps21
  go_wp2
  first | go_end0 | (refine bodyPost_ret (results_none rfl _ _ _) rfl ?_)
  exact ⟨rfl, rfl⟩
theorem buffered_nil (w : World) :
    Calls Try.prog 27 #[.pointer none] w fun e w' => e = .returned (.slice none 0 0) ∧ w = w' := by
  go_enter Try.func27, Try.ntmps27
  go_wp2
  go_ret
  exact ⟨rfl, rfl⟩
theorem tables_nil (w : World) :
    Calls Try.prog 26 #[.pointer none] w fun e w' => e = .returned (.agg #[.int .u32 0, .int .u32 0, .int .u32 0, .int .u32 0, .int .u32 0]) ∧ Below w.heap.size w w' := by
  go_enter Try.func26, Try.ntmps26
  go_wp2
  go_returns
  exact ⟨rfl, by go_grown⟩
theorem runs_nil (va n : Int) (u wr ah : Bool) (w : World) :
    Calls Try.prog 51 #[.pointer none, .int .u32 va, .int .i64 n, (Value.agg #[Value.bool u, Value.bool wr, Value.bool ah])] w fun e w' => e = .returned (.tuple #[.slice none 0 0, (Value.agg #[Value.int .i64 1, Value.int .u32 va, Value.int .u32 0])]) ∧ Below w.heap.size w w' := by
  go_enter Try.func51, Try.ntmps51
  go_wp2
  go_returns
  exact ⟨rfl, by go_grown⟩

/-- What is answered for a fault alone. -/
def FlE (a : Acc) (e : Ending) : Prop :=
  match a with
  | .ok _ => e = .returned ((Value.agg #[Value.int .i64 0, Value.int .u32 0, Value.int .u32 0]))
  | .bad k va i => e = .returned ((Value.agg #[Value.int .i64 k, Value.int .u32 va, Value.int .u32 i]))
theorem probe_nil (va n : Int) (u wr : Bool) (w : World) :
    Calls Try.prog 24 #[.pointer none, .int .u32 va, .int .i64 n, .bool u, .bool wr] w fun e w' => e = .returned ((Value.agg #[Value.int .i64 1, Value.int .u32 va, Value.int .u32 0])) ∧ Below w.heap.size w w' := by
  go_enter Try.func24, Try.ntmps24
  go_wp2_with fail
  refine (runs_nil va n u wr false _).mono ?_
  rintro e w1 ⟨rfl, hb1⟩
  have hb := Tl.bel2 (a := w) (by go_grown) hb1
  obtain ⟨hc, hf⟩ := bcell hb1
  have hz : w.heap.size < w1.heap.size := by have := hb1.size; simp at this; omega
  clear hb1
  go_wp2
  exact bodyPost_ret (v := (Value.agg #[Value.int .i64 1, Value.int .u32 va, Value.int .u32 0])) (by simp [results, Try.results24, go_sem, hc, hz]) rfl ⟨rfl, by go_grown⟩

/-- A fault's block, new. -/
theorem new_flt (w : World) : (w.alloc (.cells #[.int .i64 0, .int .u32 0, .int .u32 0] 50)).heap[w.heap.size]? = some (.cells #[.int .i64 0, .int .u32 0, .int .u32 0] 50 (0, 0)) := heap_alloc_new _ _
def Ft (W : World) (F : Nat) : Prop := W.heap[F]? = some (.cells #[.int .i64 0, .int .u32 0, .int .u32 0] 50 (0, 0))
section
variable {W W' : World} {F tg : Nat} {S : Nat → Prop} {rows : Rows}
theorem Ft.lt (h : Ft W F) : F < W.heap.size := Tl.lt_of_heap h
theorem Ft.cells (h : Ft W F) : W.cell? ⟨F, 0, none⟩ = some (.int .i64 0) ∧ W.cell? ⟨F, 1, none⟩ = some (.int .u32 0) ∧ W.cell? ⟨F, 2, none⟩ = some (.int .u32 0) ∧
    W.frozen? ⟨F, 0, none⟩ = false ∧ W.frozen? ⟨F, 1, none⟩ = false ∧ W.frozen? ⟨F, 2, none⟩ = false := by
  unfold Ft at h
  rw [cell_of_row W _ 0 _ _ _ h, cell_of_row W _ 1 _ _ _ h, cell_of_row W _ 2 _ _ _ h]
  exact ⟨rfl, rfl, rfl, frozen_of_row W _ 0 _ _ h, frozen_of_row W _ 1 _ _ h, frozen_of_row W _ 2 _ _ h⟩
theorem Ft.typ (h : Ft W F) : Typ W F 50 := ⟨_, _, h⟩
theorem Ft.below (h : Ft W F) (b : Below W.heap.size W W') : Ft W' F := (b.block _ h.lt).trans h
theorem Ft.mods (h : Ft W F) (b : Tl.Mods S W W') (hS : ¬ S F) : Ft W' F := (b.block _ h.lt hS).trans h
theorem Ft.tb (h : Ft W F) (b : Tl.Tb W tg S rows) : ¬ S F := tb_not b h.typ (by decide) (by decide)
end

set_option maxHeartbeats 400000 in
theorem probe_any (g rg tg r : Nat) (S : Nat → Prop) (t : Tabs) (rows : Rows) (xs : List Int) (va n : Int) (u wr : Bool) (w : World) (h : Mx w g rg tg S t rows) (hm : Rm.Mem w rg r xs) (hv : U va) (hn' : n ≤ 1000000) (a : Acc) (rows' : Rows) (hW : walk t xs u wr true rows [] va n.toNat = (a, rows')) :
    Calls Try.prog 24 #[(Value.pointer (some ⟨g, 0, none⟩)), .int .u32 va, .int .i64 n, .bool u, .bool wr] w fun e w' =>
      FlE a e ∧ ∃ S', Tl.Tb w' tg S' rows' ∧ Tl.Step S S' w w' := by
  have H := Lib.hid h
  have HM := Lib.hid hm
  have HV := Lib.hid hv
  have HF := Lib.hid (new_flt w)
  have HW := Lib.hid hW
  clear h hm hv hW
  go_enter Try.func24, Try.ntmps24
  go_wp2_with fail
  refine (runs_any g rg tg r S t rows xs va n u wr false _ (H.out.below (by go_grown)) (HM.out.below_ (by go_grown)) HV.out hn').mono ?_
  rintro e w1 ⟨hE, S1, hT, hs⟩
  simp only [Bool.not_false, HW.out] at hE hT
  have hF1 := Ft.mods HF.out hs.mods (Ft.tb HF.out (H.out.tb.below (by go_grown)))
  obtain ⟨c0, c1, c2, f0, f1, f2⟩ := hF1.cells
  have hz := hF1.lt
  have HT := Lib.hid hT
  have HS := Lib.hid ((Tl.Step.of_below (S := S) (w := w) (by go_grown)).trans hs)
  have HN := Lib.hid (hF1.tb hT)
  clear hT hs hF1
  cases a with
  | ok l =>
    obtain ⟨v, rfl, hr, ha⟩ := hE
    obtain ⟨A, cp, rfl⟩ := hr.shape
    clear hr ha
    go_wp2
    refine bodyPost_ret (v := (Value.agg #[Value.int .i64 0, Value.int .u32 0, Value.int .u32 0])) (by simp [results, Try.results24, go_sem, c0, c1, c2, hz]) rfl ⟨rfl, ?_⟩
    exact fin3a HT.out HS.out (Nat.le_refl _) HN.out
  | bad k va' i =>
    subst hE
    go_wp2
    refine bodyPost_ret (v := (Value.agg #[Value.int .i64 k, Value.int .u32 va', Value.int .u32 i])) (by simp [results, Try.results24, go_sem, c0, c1, c2, hz]) rfl ⟨rfl, ?_⟩
    exact fin3a HT.out HS.out (Nat.le_refl _) HN.out

end Go.Proofs.Ytfpdemlcmfaieaa.Cs
