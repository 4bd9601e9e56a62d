import Derived.Test.YteohkobdmkbcpaaGreatDoorGMmu
import Derived.StillTailTactics
import Derived.Deep.RegionWith
import Derived.Deep.RegionHeld3

/- Contracts of package mmu: New, Tables, Set, Clear, Drop, Buffered, Probe. -/
namespace Go.Proofs.YteohkobdmkbcpaaGreatDoor.Mm
open Go.RowKit


theorem mnew_any (rg : Nat) (w : World) :
    Calls Tryz.prog 46 #[(Value.pointer (some ⟨rg, 0, none⟩))] w fun e w' => ∃ g tg S, e = .returned (Value.pointer (some ⟨g, 0, none⟩)) ∧ w.heap.size ≤ g ∧ g < w'.heap.size ∧ Mx w' g rg tg S noTabs [] ∧ Tl.Ab w.heap.size S ∧ Below w.heap.size w w' := by
  go_enter Tryz.func46, Tryz.ntmps46
  go_wp2_with fail
  refine (Tl.new_any _).mono ?_
  rintro e w1 ⟨tg, S, rfl, h1, h2, hT, hA, hb⟩
  have hz := hb.size
  go_wp2
  go_ret
  exact ⟨w1.heap.size, tg, S, rfl, hz, by simp, ⟨heap_alloc_new _ _, hT.below (by go_grown), noTabs_ok⟩, hA, by go_grown⟩

/-- The tables are stored anew. -/
theorem mx_tabs {w : World} {g rg tg : Nat} {S : Nat → Prop} {t t' : Tabs} {rows : Rows} (h : Mx w g rg tg S t rows) (ht : t'.Ok) :
    Mx (((((w.setCell ⟨g, 1, none⟩ (.int .u32 t'.pb)).setCell ⟨g, 2, none⟩ (.int .u32 t'.pn)).setCell ⟨g, 3, none⟩ (.int .u32 t'.sb)).setCell ⟨g, 4, none⟩ (.int .u32 t'.sn)).setCell ⟨g, 5, none⟩ (.int .u32 t'.me)) g rg tg S t' rows ∧
    Tl.Mods (Rg S g) w (((((w.setCell ⟨g, 1, none⟩ (.int .u32 t'.pb)).setCell ⟨g, 2, none⟩ (.int .u32 t'.pn)).setCell ⟨g, 3, none⟩ (.int .u32 t'.sb)).setCell ⟨g, 4, none⟩ (.int .u32 t'.sn)).setCell ⟨g, 5, none⟩ (.int .u32 t'.me)) := by
  refine ⟨⟨?_, ?_, ht⟩, ?_⟩
  · exact heap_setCell_same _ g 5 _ _ _ (heap_setCell_same _ g 4 _ _ _ (heap_setCell_same _ g 3 _ _ _ (heap_setCell_same _ g 2 _ _ _ (heap_setCell_same w g 1 _ _ _ h.box))))
  · refine h.tb.keep fun k hk => ?_
    have hne : k ≠ g := by rintro rfl; exact h.not hk
    rw [Below.heap_setCell _ _ _ _ hne, Below.heap_setCell _ _ _ _ hne, Below.heap_setCell _ _ _ _ hne, Below.heap_setCell _ _ _ _ hne, Below.heap_setCell _ _ _ _ hne]
  · exact (((((Tl.Mods.refl _ _).set _ (.inl (.inr rfl))).set _ (.inl (.inr rfl))).set _ (.inl (.inr rfl))).set _ (.inl (.inr rfl))).set _ (.inl (.inr rfl))

set_option maxHeartbeats 400000 in
set_option maxRecDepth 100000 in
theorem set_any (g rg tg : Nat) (S : Nat → Prop) (t t' : Tabs) (rows : Rows) (w : World) (h : Mx w g rg tg S t rows) (ht : t'.Ok) :
    Calls Tryz.prog 45 #[(Value.pointer (some ⟨g, 0, none⟩)), (Value.agg #[Value.int .u32 (Tabs.pb t'), Value.int .u32 (Tabs.pn t'), Value.int .u32 (Tabs.sb t'), Value.int .u32 (Tabs.sn t'), Value.int .u32 (Tabs.me t')])] w fun e w' => e = .returned (.tuple #[]) ∧ ∃ S', Mx w' g rg tg S' t' [] ∧ Tl.Step (Rg S g) (Rg S' g) w w' := by
  have c1 := h.c1
  have c2 := h.c2
  have c3 := h.c3
  have c4 := h.c4
  have c5 := h.c5
  have c6 := h.c6
  have f1 := frozen_of_row w g 1 _ _ h.box
  have f2 := frozen_of_row w g 2 _ _ h.box
  have f3 := frozen_of_row w g 3 _ _ h.box
  have f4 := frozen_of_row w g 4 _ _ h.box
  have f5 := frozen_of_row w g 5 _ _ h.box
  have hg := h.glt
  have H := Lib.hid h
  have HT := Lib.hid ht
  clear h ht
  go_enter Tryz.func45, Tryz.ntmps45
  go_wp2_with fail
  obtain ⟨hm, hs⟩ := mx_tabs H.out HT.out
  have HM := Lib.hid hm
  have HS := Lib.hid hs
  clear hm hs
  refine (Tl.clear_any tg S rows _ (HM.out.tb.below (by go_grown))).mono ?_
  rintro e w1 ⟨rfl, S1, hT, hs⟩
  have HE : Hid (Mx w1 g rg tg S1 t' [] ∧ Tl.Step (Rg S g) (Rg S1 g) w w1) :=
    ⟨(HM.out.below (by go_grown)).turn hT hs, Tl.Step.trans ⟨HS.out, fun _ h => .inl h⟩ ((Tl.Step.of_below (by go_grown)).trans (step_rg hs))⟩
  clear hT hs
  go_wp2
  first | go_end0 | (refine bodyPost_ret (results_none rfl _ _ _) rfl ?_)
  exact ⟨rfl, S1, HE.out⟩

theorem clear_any (g rg tg : Nat) (S : Nat → Prop) (t : Tabs) (rows : Rows) (w : World) (h : Mx w g rg tg S t rows) :
    Calls Tryz.prog 70 #[(Value.pointer (some ⟨g, 0, none⟩))] w fun e w' => e = .returned (.tuple #[]) ∧ ∃ S', Mx w' g rg tg S' t [] ∧ Tl.Step S S' w w' := by
  have c6 := h.c6
  have H := Lib.hid h
  clear h
  go_enter Tryz.func70, Tryz.ntmps70
  go_wp2_with fail
  refine (Tl.clear_any tg S rows _ H.out.tb).mono ?_
  rintro e w1 ⟨rfl, S1, hT, hs⟩
  have HE : Hid (Mx w1 g rg tg S1 t [] ∧ Tl.Step S S1 w w1) := ⟨H.out.turn hT hs, hs⟩
  clear hT hs
  go_wp2
  first | go_end0 | (refine bodyPost_ret (results_none rfl _ _ _) rfl ?_)
  exact ⟨rfl, S1, HE.out⟩





set_option maxHeartbeats 400000 in
set_option maxRecDepth 100000 in
theorem tables_any (g rg tg : Nat) (S : Nat → Prop) (t : Tabs) (rows : Rows) (w : World) (h : Mx w g rg tg S t rows) :
    Calls Tryz.prog 29 #[(Value.pointer (some ⟨g, 0, none⟩))] w fun e w' => e = .returned (Value.agg #[Value.int .u32 (Tabs.pb t), Value.int .u32 (Tabs.pn t), Value.int .u32 (Tabs.sb t), Value.int .u32 (Tabs.sn t), Value.int .u32 (Tabs.me t)]) ∧ Below w.heap.size w w' := by
  have c1 := h.c1
  have c2 := h.c2
  have c3 := h.c3
  have c4 := h.c4
  have c5 := h.c5
  have hg := h.glt
  clear h
  go_enter Tryz.func29, Tryz.ntmps29
  go_wp2
  go_returns
  exact ⟨rfl, by go_grown⟩

/-! of none -/
theorem set_nil (t : Value) (t' : Tabs) (h : t = (Value.agg #[Value.int .u32 (Tabs.pb t'), Value.int .u32 (Tabs.pn t'), Value.int .u32 (Tabs.sb t'), Value.int .u32 (Tabs.sn t'), Value.int .u32 (Tabs.me t')])) (w : World) :
    Calls Tryz.prog 45 #[.pointer none, t] w fun e w' => e = .returned (.tuple #[]) ∧ Below w.heap.size w w' := by
  subst h
  go_enter Tryz.func45, Tryz.ntmps45
  go_wp2
  first | go_end0 | (refine bodyPost_ret (results_none rfl _ _ _) rfl ?_)
  exact ⟨rfl, by go_grown⟩
theorem clear_nil (w : World) :
    Calls Tryz.prog 70 #[.pointer none] w fun e w' => e = .returned (.tuple #[]) ∧ w = w' := by
  go_enter Tryz.func70, Tryz.ntmps70
  go_wp2
  first | go_end0 | (refine bodyPost_ret (results_none rfl _ _ _) rfl ?_)
  exact ⟨rfl, rfl⟩
theorem tables_nil (w : World) :
    Calls Tryz.prog 29 #[.pointer none] w fun e w' => e = .returned (.agg #[.int .u32 0, .int .u32 0, .int .u32 0, .int .u32 0, .int .u32 0]) ∧ Below w.heap.size w w' := by
  go_enter Tryz.func29, Tryz.ntmps29
  go_wp2
  go_returns
  exact ⟨rfl, by go_grown⟩
theorem runs_nil (va n : Int) (u wr ah : Bool) (w : World) :
    Calls Tryz.prog 71 #[.pointer none, .int .u32 va, .int .i64 n, (Value.agg #[Value.bool u, Value.bool wr, Value.bool ah])] w fun e w' => e = .returned (.tuple #[.slice none 0 0, (Value.agg #[Value.int .i64 1, Value.int .u32 va, Value.int .u32 0])]) ∧ Below w.heap.size w w' := by
  go_enter Tryz.func71, Tryz.ntmps71
  go_wp2
  go_returns
  exact ⟨rfl, by go_grown⟩

/-- What is answered for a fault alone. -/
def FlE (a : Acc) (e : Ending) : Prop :=
  match a with
  | .ok _ => e = .returned ((Value.agg #[Value.int .i64 0, Value.int .u32 0, Value.int .u32 0]))
  | .bad k va i => e = .returned ((Value.agg #[Value.int .i64 k, Value.int .u32 va, Value.int .u32 i]))
theorem probe_nil (va n : Int) (u wr : Bool) (w : World) :
    Calls Tryz.prog 230 #[.pointer none, .int .u32 va, .int .i64 n, .bool u, .bool wr] w fun e w' => e = .returned ((Value.agg #[Value.int .i64 1, Value.int .u32 va, Value.int .u32 0])) ∧ Below w.heap.size w w' := by
  go_enter Tryz.func230, Tryz.ntmps230
  go_wp2_with fail
  refine (runs_nil va n u wr false _).mono ?_
  rintro e w1 ⟨rfl, hb1⟩
  have hb := Tl.bel2 (a := w) (by go_grown) hb1
  obtain ⟨hc, hf⟩ := bcell hb1
  have hz : w.heap.size < w1.heap.size := by have := hb1.size; simp at this; omega
  clear hb1
  go_wp2
  exact bodyPost_ret (v := (Value.agg #[Value.int .i64 1, Value.int .u32 va, Value.int .u32 0])) (by simp [results, Tryz.results230, go_sem, hc, hz]) rfl ⟨rfl, by go_grown⟩

/-- A fault's block, new. -/
theorem new_flt (w : World) : (w.alloc (.cells #[.int .i64 0, .int .u32 0, .int .u32 0] 100)).heap[w.heap.size]? = some (.cells #[.int .i64 0, .int .u32 0, .int .u32 0] 100 (0, 0)) := heap_alloc_new _ _
def Ft (W : World) (F : Nat) : Prop := W.heap[F]? = some (.cells #[.int .i64 0, .int .u32 0, .int .u32 0] 100 (0, 0))
section
variable {W W' : World} {F tg : Nat} {S : Nat → Prop} {rows : Rows}
theorem Ft.lt (h : Ft W F) : F < W.heap.size := Tl.lt_of_heap h
theorem Ft.cells (h : Ft W F) : W.cell? ⟨F, 0, none⟩ = some (.int .i64 0) ∧ W.cell? ⟨F, 1, none⟩ = some (.int .u32 0) ∧ W.cell? ⟨F, 2, none⟩ = some (.int .u32 0) ∧
    W.frozen? ⟨F, 0, none⟩ = false ∧ W.frozen? ⟨F, 1, none⟩ = false ∧ W.frozen? ⟨F, 2, none⟩ = false := by
  unfold Ft at h
  rw [cell_of_row W _ 0 _ _ _ h, cell_of_row W _ 1 _ _ _ h, cell_of_row W _ 2 _ _ _ h]
  exact ⟨rfl, rfl, rfl, frozen_of_row W _ 0 _ _ h, frozen_of_row W _ 1 _ _ h, frozen_of_row W _ 2 _ _ h⟩
theorem Ft.typ (h : Ft W F) : Typ W F 100 := ⟨_, _, h⟩
theorem Ft.below (h : Ft W F) (b : Below W.heap.size W W') : Ft W' F := (b.block _ h.lt).trans h
theorem Ft.mods (h : Ft W F) (b : Tl.Mods S W W') (hS : ¬ S F) : Ft W' F := (b.block _ h.lt hS).trans h
theorem Ft.tb (h : Ft W F) (b : Tl.Tb W tg S rows) : ¬ S F := tb_not b h.typ (by decide) (by decide)
end

set_option maxHeartbeats 400000 in
set_option maxRecDepth 100000 in
theorem probe_any (g rg tg r : Nat) (S : Nat → Prop) (t : Tabs) (rows : Rows) (xs : List Int) (va n : Int) (u wr : Bool) (w : World) (h : Mx w g rg tg S t rows) (hm : Rm.Mem w rg r xs) (hv : U va) (hn' : n ≤ 1000000) (a : Acc) (rows' : Rows) (hW : walk t xs u wr true rows [] va n.toNat = (a, rows')) :
    Calls Tryz.prog 230 #[(Value.pointer (some ⟨g, 0, none⟩)), .int .u32 va, .int .i64 n, .bool u, .bool wr] w fun e w' =>
      FlE a e ∧ ∃ S', Tl.Tb w' tg S' rows' ∧ Tl.Step S S' w w' := by
  have H := Lib.hid h
  have HM := Lib.hid hm
  have HV := Lib.hid hv
  have HF := Lib.hid (new_flt w)
  have HW := Lib.hid hW
  clear h hm hv hW
  go_enter Tryz.func230, Tryz.ntmps230
  go_wp2_with fail
  refine (runs_any g rg tg r S t rows xs va n u wr false _ (H.out.below (by go_grown)) (HM.out.below_ (by go_grown)) HV.out hn').mono ?_
  rintro e w1 ⟨hE, S1, hT, hs⟩
  simp only [Bool.not_false, HW.out] at hE hT
  have hF1 := Ft.mods HF.out hs.mods (Ft.tb HF.out (H.out.tb.below (by go_grown)))
  obtain ⟨c0, c1, c2, f0, f1, f2⟩ := hF1.cells
  have hz := hF1.lt
  have HT := Lib.hid hT
  have HS := Lib.hid ((Tl.Step.of_below (S := S) (w := w) (by go_grown)).trans hs)
  have HN := Lib.hid (hF1.tb hT)
  clear hT hs hF1
  cases a with
  | ok l =>
    obtain ⟨v, rfl, hr, ha⟩ := hE
    obtain ⟨A, cp, rfl⟩ := hr.shape
    clear hr ha
    go_wp2
    refine bodyPost_ret (v := (Value.agg #[Value.int .i64 0, Value.int .u32 0, Value.int .u32 0])) (by simp [results, Tryz.results230, go_sem, c0, c1, c2, hz]) rfl ⟨rfl, ?_⟩
    exact fin3a HT.out HS.out (Nat.le_refl _) HN.out
  | bad k va' i =>
    subst hE
    go_wp2
    refine bodyPost_ret (v := (Value.agg #[Value.int .i64 k, Value.int .u32 va', Value.int .u32 i])) (by simp [results, Tryz.results230, go_sem, c0, c1, c2, hz]) rfl ⟨rfl, ?_⟩
    exact fin3a HT.out HS.out (Nat.le_refl _) HN.out

end Go.Proofs.YteohkobdmkbcpaaGreatDoor.Mm

/- Contracts of package mmu: Load. -/
namespace Go.Proofs.YteohkobdmkbcpaaGreatDoor.Mm
open Go.RowKit

/-- What holds of every run. -/
theorem walk_all {t : Tabs} {xs : List Int} {u wr keep : Bool} {P : Run → Prop} (hP : ∀ rows va n a, U va → n ≠ 0 → plE t xs rows va (cnt va n) u wr = .ok a → P ⟨va, a, cnt va n⟩) :
    ∀ n rows acc va l rows', U va → (∀ x ∈ acc, P x) → walk t xs u wr keep rows acc va n = (.ok l, rows') → ∀ x ∈ l, P x := by
  intro n
  induction n using Nat.strongRecOn with
  | ind n ih =>
    intro rows acc va l rows' hv ha hw
    by_cases hn : n = 0
    · subst hn
      rw [walk_end] at hw
      injection hw with h1 _
      injection h1 with h1
      subst h1
      exact ha
    · cases hp : plE t xs rows va (cnt va n) u wr with
      | bad k i => rw [walk_bad hn hp] at hw; injection hw with h1 _; cases h1
      | ok a =>
        rw [walk_ok hn hp] at hw
        have := cnt_pos va n hn
        refine ih (n - cnt va n) (by omega) _ _ _ _ _ (nxt_U _ _) (fun x hx => ?_) hw
        rcases List.mem_append.1 hx with hx | hx
        · exact ha x hx
        · simp at hx; subst hx; exact hP rows va n a hv hn hp
/-- A run lies within the memory. -/
def Good (m : Nat) (x : Run) : Prop := U x.va ∧ U x.pa ∧ x.pa + x.n ≤ m ∧ 0 < x.n ∧ x.n ≤ 512
theorem walk_good {t : Tabs} {xs : List Int} {u wr keep : Bool} {rows rows' : Rows} {va : Int} {n : Nat} {l : List Run} (hv : U va) (h : walk t xs u wr keep rows [] va n = (.ok l, rows')) : ∀ x ∈ l, Good xs.length x :=
  walk_all (P := Good xs.length) (fun rows va n a hv hn hp => ⟨hv, (plE_ok hv hp).2, (plE_ok hv hp).1, cnt_pos va n hn, by show cnt va n ≤ 512; unfold cnt; omega⟩) n rows [] va l rows' hv (by simp) h
theorem walk_bad_kd {t : Tabs} {xs : List Int} {u wr keep : Bool} : ∀ n rows acc va k va' i rows', U va → walk t xs u wr keep rows acc va n = (.bad k va' i, rows') → Kd k i ∧ U va' := by
  intro n
  induction n using Nat.strongRecOn with
  | ind n ih =>
    intro rows acc va k va' i rows' hv hw
    by_cases hn : n = 0
    · subst hn; rw [walk_end] at hw; injection hw with h1 _; cases h1
    · cases hp : plE t xs rows va (cnt va n) u wr with
      | bad k' i' =>
        rw [walk_bad hn hp] at hw
        injection hw with h1 _
        injection h1 with e1 e2 e3
        subst e1 e2 e3
        exact ⟨plE_bad hp, hv⟩
      | ok a =>
        rw [walk_ok hn hp] at hw
        have := cnt_pos va n hn
        exact ih (n - cnt va n) (by omega) _ _ _ _ _ _ _ (nxt_U _ _) hw

theorem walk_len {t : Tabs} {xs : List Int} {u wr keep : Bool} {rows rows' : Rows} {va : Int} {n : Nat} {l : List Run} (h : walk t xs u wr keep rows [] va n = (.ok l, rows')) : l.length ≤ n := by
  have key : ∀ n rows acc va, walk t xs u wr keep rows acc va n = (.ok l, rows') → l.length ≤ acc.length + n := by
    intro n
    induction n using Nat.strongRecOn with
    | ind n ih =>
      intro rows acc va hw
      by_cases hn : n = 0
      · subst hn; rw [walk_end] at hw; injection hw with h1 _; injection h1 with h1; subst h1; omega
      · cases hp : plE t xs rows va (cnt va n) u wr with
        | bad k i => rw [walk_bad hn hp] at hw; injection hw with h1 _; cases h1
        | ok a =>
          rw [walk_ok hn hp] at hw
          have h1 := cnt_pos va n hn
          have h2 := cnt_le va n
          have := ih (n - cnt va n) (by omega) _ _ _ hw
          simp at this
          omega
  simpa using key n rows [] va h

/-- The bytes of runs. -/
def gat (xs : List Int) (l : List Run) : List Int := l.flatMap fun x => (xs.drop x.pa.toNat).take x.n
theorem gat_nil (xs : List Int) : gat xs [] = [] := rfl
theorem gat_take (xs : List Int) (l : List Run) (k : Nat) (x : Run) (h : l[k]? = some x) : gat xs (l.take k) ++ (xs.drop x.pa.toNat).take x.n = gat xs (l.take (k + 1)) := by
  have hk := (List.getElem?_eq_some_iff.1 h).1
  rw [List.take_succ_eq_append_getElem hk, (List.getElem?_eq_some_iff.1 h).2]
  simp [gat]
theorem byt_gat {xs : List Int} (h : Rm.Byt xs) (l : List Run) : Rm.Byt (gat xs l) := by
  intro y hy
  simp only [gat, List.mem_flatMap] at hy
  obtain ⟨x, _, hy⟩ := hy
  exact (h.drop _).take _ y hy
theorem gat_len (xs : List Int) (l : List Run) (h : ∀ x ∈ l, Good xs.length x) : (gat xs l).length ≤ l.length * 512 := by
  induction l with
  | nil => simp [gat]
  | cons x l ih =>
    have := ih (fun y hy => h y (List.mem_cons_of_mem _ hy))
    have hx := (h x List.mem_cons_self).2.2.2.2
    simp only [gat, List.flatMap_cons, List.length_append, List.length_take, List.length_cons] at this ⊢
    omega

/-- A row of bytes of one's own. -/
def R8 (w : World) (v : Value) (ys : List Int) : Prop := w.ownsRow 0 5 1 v ys.length (Rm.cel ys)
theorem R8.nil (w : World) : R8 w (.slice none 0 0) [] := ⟨by simp [Rm.cel], .inl ⟨rfl, rfl⟩⟩
theorem R8.typ {w : World} {v : Value} {l : List Int} (h : R8 w v l) {i : Nat} (hi : Tl.Bl v i) : Typ w i 5 := own_typ h hi
theorem R8.shape {w : World} {v : Value} {l : List Int} (h : R8 w v l) : ∃ A c, v = .slice A l.length c := by
  rcases Tl.own_shape h with ⟨rfl, h0⟩ | ⟨r, cap, rfl, _⟩
  · exact ⟨none, 0, by rw [h0]⟩
  · exact ⟨_, cap, rfl⟩
theorem run_app8 (w : World) (v : Value) (ys zs : List Int) (ad : Addr) (m c : Nat) (h : R8 w v ys) (hs : Rm.Src w (some ad) zs) (hm : zs.length = m) (hl : ys.length + m ≤ 1000000000) :
    ∃ v' w', (Builtin.append_ #[22, 22] 22 #[v, .slice (some ad) m c]).run Tryz.prog w = .ok v' w' ∧ Hid (R8 w' v' (ys ++ zs) ∧ Tl.Step (Tl.Bl v) (Tl.Bl v') w w') := by
  obtain ⟨i, hi, hz, hsz, hb⟩ := info_parts Rm.u8_info
  obtain ⟨v', w', hrun, ho, hg, _, hat⟩ := run_append_own_at (P := Tryz.prog) w 0 22 22 5 i (.int .u8 0) 1 1 Rm.under_slice hi hz hsz hb rfl (by omega) v ys.length (Rm.cel ys) h ad m c (Rm.cel zs)
    (by rw [Rm.cel_length, hm]; omega) (fun j u hj => by
      obtain ⟨ad', e, _, hc⟩ := hs (by
        have := (List.getElem?_eq_some_iff.1 hj).1
        rw [Rm.cel_length] at this
        omega)
      rw [Option.some.inj e]
      exact hc j u hj) (Rm.cel_one _) (by simp only [maxLen]; omega) (by omega) (by simp)
  refine ⟨v', w', hrun, ?_, ?_, ?_⟩
  · show w'.ownsRow _ _ _ _ _ _
    have e : Rm.cel (ys ++ zs) = Rm.cel ys ++ Rm.cel zs := by simp [Rm.cel]
    rw [List.length_append, e, hm]; exact ho
  · exact Tl.Mods.of_grown hg (fun k e => e)
  · intro k hk
    rcases hat with e | e
    · exact .inl (by rw [Tl.Bl, ← e]; exact hk)
    · right
      rw [Tl.Bl, e] at hk
      injection hk with hk
      omega
/-- A run that the list holds, as it is read. -/
theorem R3.at_ {w : World} {v : Value} {l : List Run} (h : R3 w v l) {k : Nat} {x : Run} (hx : l[k]? = some x) : ∃ b cap, v = .slice (some ⟨b, 0, none⟩) l.length cap ∧ b < w.heap.size ∧
    w.cell? ⟨b, k * 3, none⟩ = some (.int .u32 x.va) ∧ w.cell? ⟨b, k * 3 + 1, none⟩ = some (.int .u32 x.pa) ∧ w.cell? ⟨b, k * 3 + 2, none⟩ = some (.int .i64 x.n) := by
  rcases Tl.own_shape h with ⟨_, h0⟩ | ⟨b, cap, rfl, _, _, hb, hc, _⟩
  · rw [List.eq_nil_of_length_eq_zero h0] at hx; simp at hx
  · obtain ⟨h1, h2, h3⟩ := c3_get l k x hx
    exact ⟨b, cap, rfl, hb, hc _ _ h1, hc _ _ h2, hc _ _ h3⟩

/-- The state of Load's loop. -/
structure Ll (w : World) (g rg tg r : Nat) (S0 S : Nat → Prop) (t : Tabs) (xs : List Int) (rows : Rows) (l : List Run) (v vb : Value) (k : Nat) (W : World) : Prop where
  list : R3 W v l
  abl : Tl.Ab w.heap.size (Tl.Bl v)
  row : R8 W vb (gat xs (l.take k))
  ab : Tl.Ab w.heap.size (Tl.Bl vb)
  ms : Ms W g rg r tg S t rows xs
  st : Tl.Step S0 S w W
  ft : Ft W w.heap.size
  rlt : r < w.heap.size
section
variable {w W W1 W2 W3 : World} {g rg tg r : Nat} {S0 S : Nat → Prop} {t : Tabs} {xs : List Int} {rows : Rows} {l : List Run} {v vb vb' : Value} {k : Nat}
theorem Ll.below (h : Ll w g rg tg r S0 S t xs rows l v vb k W) (b : Below W.heap.size W W1) : Ll w g rg tg r S0 S t xs rows l v vb k W1 :=
  ⟨Tl.own_below h.list b, h.abl, Tl.own_below h.row b, h.ab, h.ms.below b, h.st.trans (Tl.Step.of_below b), h.ft.below b, h.rlt⟩
theorem Ll.next (h : Ll w g rg tg r S0 S t xs rows l v vb k W) {x : Run} (hx : l[k]? = some x) (hr : R8 W1 vb' (gat xs (l.take k) ++ (xs.drop x.pa.toNat).take x.n)) (s : Tl.Step (Tl.Bl vb) (Tl.Bl vb') W W1) :
    Ll w g rg tg r S0 S t xs rows l v vb' (k + 1) W1 := by
  have ty := fun i (e : Tl.Bl vb i) => R8.typ h.row e
  have hS : Tl.Apart (Tl.Bl vb) S := fun i e e' => tb_not h.ms.mx.tb (ty i e) (by decide) (by decide) e'
  refine ⟨Tl.own_mods h.list s.mods (fun i e e' => absurd ((ty i e).ne (h.list.typ e')) (by decide)), h.abl, by rw [gat_take xs l k x hx] at hr; exact hr, fun i e => ?_, ⟨h.ms.mx.mods s.mods (fun e => absurd ((ty _ e).ne h.ms.mx.typ) (by decide)) hS, mem_mods h.ms.mem s.mods (fun e => absurd ((ty _ e).ne (mem_typ h.ms.mem).1) (by decide)) (fun e => by have := h.ab _ e; have := h.rlt; omega)⟩, ⟨h.st.mods.trans s.mods (fun i hi e => by have := h.ab i e; omega), h.st.grow⟩, h.ft.mods s.mods (fun e => absurd ((ty _ e).ne h.ft.typ) (by decide)), h.rlt⟩
  rcases s.grow i e with e | e
  · exact h.ab i e
  · have := h.st.mods.size; omega
end

end Go.Proofs.YteohkobdmkbcpaaGreatDoor.Mm

/- Contracts of package mmu: Load. -/
namespace Go.Proofs.YteohkobdmkbcpaaGreatDoor.Mm
open Go.RowKit

theorem bytes_at (g r : Nat) (xs ys : List Int) (a : Int) (p n : Nat) (ha : a = p) (w : World) (h : Rm.Mem w g r xs) (hf : p + n ≤ xs.length) (hy : (xs.drop p).take n = ys) :
    Calls Tryz.prog 17 #[(Value.pointer (some ⟨g, 0, none⟩)), .int .u32 a, .int .i64 n] w fun e w' => ∃ b, e = .returned (.tuple #[.slice (some ⟨b, 0, none⟩) n n, .int .i64 0]) ∧ w.heap.size ≤ b ∧ w'.heap[b]? = some (.cells (Rm.cel ys).toArray 5 (0, 0)) ∧ Below w.heap.size w w' := by
  subst ha hy
  refine (Rm.bytes_ok g r xs p n w h hf).mono ?_
  rintro e w' ⟨b, rfl, h1, h2, h3⟩
  have e : ((xs.drop p).take n).length = n := by simp; omega
  exact ⟨b, by rw [e], h1, h2, h3⟩

set_option maxRecDepth 100000 in
set_option maxHeartbeats 1000000 in
set_option maxRecDepth 100000 in
theorem load_bad (g rg tg r : Nat) (S : Nat → Prop) (t : Tabs) (rows rows' : Rows) (xs : List Int) (va n k va' i : Int) (u : Bool) (w : World) (h : Ms w g rg r tg S t rows xs) (hv : U va) (hn' : n ≤ 1000000) (hW : walk t xs u false true rows [] va n.toNat = (.bad k va' i, rows')) :
    Calls Tryz.prog 202 #[(Value.pointer (some ⟨g, 0, none⟩)), .int .u32 va, .int .i64 n, .bool u] w fun e w' => e = .returned (.tuple #[.slice none 0 0, (Value.agg #[Value.int .i64 k, Value.int .u32 va', Value.int .u32 i])]) ∧ ∃ S', Tl.Tb w' tg S' rows' ∧ Tl.Step S S' w w' := by
  have H := Lib.hid h
  have HV := Lib.hid hv
  have HF := Lib.hid (new_flt w)
  have HW := Lib.hid hW
  have hk := (walk_bad_kd _ _ _ _ _ _ _ _ hv hW).1.1
  have hk' : (k != 0) = true := by simp; omega
  clear h hv hW hk
  go_enter Tryz.func202, Tryz.ntmps202
  go_wp2_with fail
  refine (runs_any g rg tg r S t rows xs va n u false false _ (H.out.mx.below (by go_grown)) (H.out.mem.below_ (by go_grown)) HV.out hn').mono ?_
  rintro e w1 ⟨hE, S1, hT, hs⟩
  simp only [Bool.not_false, HW.out] at hE hT
  have hF1 := Ft.mods HF.out hs.mods (Ft.tb HF.out (H.out.mx.tb.below (by go_grown)))
  obtain ⟨c0, c1, c2, f0, f1, f2⟩ := hF1.cells
  have hz := hF1.lt
  have HT := Lib.hid hT
  have HS := Lib.hid ((Tl.Step.of_below (S := S) (w := w) (by go_grown)).trans hs)
  have HN := Lib.hid (hF1.tb hT)
  clear hT hs hF1
  obtain rfl := hE
  go_wp2
  go_region
  go_wp2
  refine bodyPost_ret (v := .tuple #[.slice none 0 0, (Value.agg #[Value.int .i64 k, Value.int .u32 va', Value.int .u32 i])]) (by simp [results, Tryz.results202, go_sem, c0, c1, c2, hz]) rfl ⟨rfl, ?_⟩
  obtain ⟨S', a1, a2⟩ := fin3a (F := w.heap.size) HT.out HS.out (by omega) HN.out
  exact ⟨S', a1.below (by go_grown), a2.trans (Tl.Step.of_below (by go_grown))⟩

set_option maxRecDepth 100000 in
set_option maxHeartbeats 2000000 in
set_option maxRecDepth 100000 in
theorem load_ok (g rg tg r : Nat) (S : Nat → Prop) (t : Tabs) (rows rows' : Rows) (xs : List Int) (l : List Run) (va n : Int) (u : Bool) (w : World) (h : Ms w g rg r tg S t rows xs) (hv : U va) (hn' : n ≤ 1000000) (hW : walk t xs u false true rows [] va n.toNat = (.ok l, rows')) :
    Calls Tryz.prog 202 #[(Value.pointer (some ⟨g, 0, none⟩)), .int .u32 va, .int .i64 n, .bool u] w fun e w' => (∃ v, e = .returned (.tuple #[v, (Value.agg #[Value.int .i64 0, Value.int .u32 0, Value.int .u32 0])]) ∧ R8 w' v (gat xs l) ∧ Tl.Ab w.heap.size (Tl.Bl v)) ∧ ∃ S', Tl.Tb w' tg S' rows' ∧ Tl.Step S S' w w' := by
  have H := Lib.hid h
  have HV := Lib.hid hv
  have HF := Lib.hid (new_flt w)
  have HW := Lib.hid hW
  have HG := Lib.hid (walk_good hv hW)
  have HLen := Lib.hid (walk_len hW)
  clear h hv hW
  go_enter Tryz.func202, Tryz.ntmps202
  go_wp2_with fail
  refine (runs_any g rg tg r S t rows xs va n u false false _ (H.out.mx.below (by go_grown)) (H.out.mem.below_ (by go_grown)) HV.out hn').mono ?_
  rintro e w1 ⟨hE, S1, hT, hs⟩
  simp only [Bool.not_false, HW.out] at hE hT
  have hF1 := Ft.mods HF.out hs.mods (Ft.tb HF.out (H.out.mx.tb.below (by go_grown)))
  obtain ⟨v, rfl, hr, ha⟩ := hE
  obtain ⟨A, cp, rfl⟩ := hr.shape
  have HL : Hid (Ll w g rg tg r S S1 t xs rows' l (.slice A l.length cp) (.slice none 0 0) 0 (w1.alloc (.cells #[.int .i64 0, .int .u32 0, .int .u32 0] 100))) := by
    refine Ll.below (W := w1) ⟨hr, fun k hk => ?_, R8.nil _, fun k hk => by simp [Tl.Bl, Value.ownBlock] at hk, Ms.turn (H.out.below (by go_grown)) hT hs, (Tl.Step.of_below (S := S) (w := w) (by go_grown)).trans hs, hF1, H.out.mem.rlt⟩ (by go_grown)
    have := ha k hk
    simp at this
    omega
  have hln := HLen.out
  generalize hL : l.length = ln at HL hln
  have HLn := Lib.hid hL
  clear hT hs hF1 hr ha hL
  go_wp2
  go_loopw [12, 32] (fun vb i W => ∃ k : Nat, k ≤ ln ∧ i = .int .i64 k ∧ Ll w g rg tg r S S1 t xs rows' l (.slice A ln cp) vb k W) (fun _ i _ => ln - (intOf i).toNat)
  case atStart => exact ⟨0, Nat.zero_le _, rfl, HL.out⟩
  case round =>
    clear HL
    obtain ⟨k, hk, rfl, hL⟩ := hrel
    by_cases hlt : k < ln
    · obtain ⟨zs, hzs⟩ : ∃ zs, gat xs (l.take k) = zs := ⟨_, rfl⟩
      have hrow := hL.row
      rw [hzs] at hrow
      obtain ⟨B, bc, rfl⟩ := hrow.shape
      clear hrow
      obtain ⟨x, hx⟩ : ∃ x, l[k]? = some x := ⟨_, List.getElem?_eq_getElem (by rw [HLn.out]; exact hlt)⟩
      have hgx := HG.out x (List.mem_of_getElem? hx)
      obtain ⟨b, cap, e, hb, x0, x1, x2⟩ := hL.list.at_ hx
      have e1 : A = some ⟨b, 0, none⟩ := by injection e
      subst e1
      have c0 := hL.ms.mx.c0
      have hg := hL.ms.mx.glt
      obtain ⟨hv, ⟨p0, p1⟩, hfit, hn0, hn1⟩ := hgx
      obtain ⟨p, hp⟩ : ∃ p : Nat, x.pa = p := ⟨x.pa.toNat, by omega⟩
      have HX := Lib.hid hx
      have HL := Lib.hid hL
      have HG1 := Lib.hid (gat_len xs (l.take k) (fun y hy => HG.out y (List.mem_of_mem_take hy)))
      have HPN : Hid (x.pa.toNat = p) := by show _ = _; omega
      have HFit : Hid (p + x.n ≤ xs.length) := by show _ ≤ _; omega
      have HP := Lib.hid hp
      obtain ⟨ys, hy⟩ : ∃ ys, (xs.drop p).take x.n = ys := ⟨_, rfl⟩
      have HY := Lib.hid hy
      have HYl : Hid (ys.length = x.n) := by show _ = _; rw [← hy]; simp; omega
      have HGN : Hid (gat xs (l.take k) ++ ys = gat xs (l.take k) ++ (xs.drop x.pa.toNat).take x.n) := by show _ = _; rw [HPN.out, hy]
      rw [hzs] at HGN HG1
      have HZ := Lib.hid hzs
      clear hy hzs
      generalize hpa : x.pa = pa at *
      have HPA := Lib.hid hpa
      clear hpa
      generalize hxn : x.n = xn at *
      have HXN := Lib.hid hxn
      clear hxn
      clear hL hv hx e hp
      go_wp2_with fail
      have d0 : (wr.alloc (.cells #[.int .u32 x.va, .int .u32 pa, .int .i64 xn] 137)).cell? ⟨g, 0, none⟩ = some (Value.pointer (some ⟨rg, 0, none⟩)) := by rw [World.cell?_alloc_lt _ _ _ hg]; exact c0
      go_region_held3 (fun w' => w'.cell? ⟨g, 0, none⟩ = some (Value.pointer (some ⟨rg, 0, none⟩)) ∧ w'.cell? ⟨wr.heap.size, 1, none⟩ = some (.int .u32 pa) ∧ w'.cell? ⟨wr.heap.size, 2, none⟩ = some (.int .i64 xn))
        (first | go_keep | exact ⟨(hb5.cell (by simp; omega)).trans (by simpa using d0), (hb5.cell (by simp)).trans (by simp), (hb5.cell (by simp)).trans (by simp)⟩)
        (first | (go_at_call 17; refine (bytes_at rg r xs ys pa p xn HP.out _ (HL.out.ms.mem.below_ (by go_grown)) HFit.out HY.out).mono ?_; rintro e w5 ⟨b5, rfl, h5, h5', hb5⟩))
      have HL5 := Lib.hid ((HL.out.below (by go_grown)).below hb5)
      have hzl : zs.length + xn ≤ 1000000000 := by have := HG1.out; have : (l.take k).length ≤ k := by simp; omega
                                                   omega
      obtain ⟨v6, w6, hrun, H6⟩ := run_app8 w5 (.slice B zs.length bc) zs ys ⟨b5, 0, none⟩ xn xn (HZ.out ▸ HL5.out.row) (Rm.Src.of_row h5') HYl.out hzl
      have HRun := Lib.hid hrun
      have HN : Hid (Ll w g rg tg r S S1 t xs rows' l (.slice (some ⟨b, 0, none⟩) ln cp) v6 (k + 1) w6) := HL5.out.next HX.out (by
        have := H6.out.1
        rw [HGN.out] at this
        rw [HPA.out, HXN.out, HZ.out]
        exact this) H6.out.2
      clear hrun H6 hb5 h5 h5' hzl
      go_wp2_with (at_builtin; refine Tl.wpList_append_run _ rfl _ _ _ _ rfl _ _ rfl rfl HRun.out ?_)
      go_roundw
      case rel => exact ⟨k + 1, by omega, by go_num, HN.out⟩
      case measure => simp [intOf]; omega
    · obtain rfl : k = ln := by omega
      have HL := Lib.hid hL
      obtain ⟨c0, c1, c2, f0, f1, f2⟩ := hL.ft.cells
      have hz := hL.ft.lt
      have HG1 : Hid (gat xs (l.take k) = gat xs l) := by show _ = _; rw [List.take_of_length_le (by rw [HLn.out]; exact Nat.le_refl _)]
      obtain ⟨B, bc, rfl⟩ := hL.row.shape
      generalize (gat xs (l.take k)).length = zl at HL ⊢
      clear hL
      go_wp2
      refine bodyPost_ret (v := .tuple #[.slice B zl bc, (Value.agg #[Value.int .i64 0, Value.int .u32 0, Value.int .u32 0])]) (by simp [results, Tryz.results202, go_sem, c0, c1, c2]) rfl ⟨⟨_, rfl, ?_, HL.out.ab⟩, ?_⟩
      · have hr := HL.out.row
        rw [HG1.out] at hr
        exact Tl.own_keep hr (fun i hi => set3 (by rintro rfl; exact absurd ((HL.out.row.typ hi).ne HL.out.ft.typ) (by decide)))
      · exact fin3 HL.out.ms.mx.tb HL.out.st (Nat.le_refl _) (HL.out.ft.tb HL.out.ms.mx.tb)

end Go.Proofs.YteohkobdmkbcpaaGreatDoor.Mm

/- Contracts of package mmu: Load in one, Get, Peek. -/
namespace Go.Proofs.YteohkobdmkbcpaaGreatDoor.Mm
open Go.RowKit

/-- An access's bytes, and its fault. -/
def accY (xs : List Int) : Acc → List Int
  | .ok l => gat xs l
  | .bad _ _ _ => []
def fk : Acc → Int
  | .ok _ => 0
  | .bad k _ _ => k
def fa : Acc → Int
  | .ok _ => 0
  | .bad _ va _ => va
def fi : Acc → Int
  | .ok _ => 0
  | .bad _ _ i => i
theorem FlE.eq {a : Acc} {e : Ending} (h : FlE a e) : e = .returned (Value.agg #[Value.int .i64 (fk a), Value.int .u32 (fa a), Value.int .u32 (fi a)]) := by cases a <;> exact h

theorem walk_sum {t : Tabs} {xs : List Int} {u wr keep : Bool} {l : List Run} {rows' : Rows} : ∀ n rows acc va, walk t xs u wr keep rows acc va n = (.ok l, rows') → (l.map Run.n).sum = (acc.map Run.n).sum + n := by
  intro n
  induction n using Nat.strongRecOn with
  | ind n ih =>
    intro rows acc va hw
    by_cases hn : n = 0
    · subst hn; rw [walk_end] at hw; injection hw with h1 _; injection h1 with h1; subst h1; omega
    · cases hp : plE t xs rows va (cnt va n) u wr with
      | bad k i => rw [walk_bad hn hp] at hw; injection hw with h1 _; cases h1
      | ok a =>
        rw [walk_ok hn hp] at hw
        have h1 := cnt_pos va n hn
        have h2 := cnt_le va n
        have := ih (n - cnt va n) (by omega) _ _ _ hw
        simp at this
        omega
theorem gat_sum (xs : List Int) (l : List Run) (h : ∀ x ∈ l, Good xs.length x) : (gat xs l).length = (l.map Run.n).sum := by
  induction l with
  | nil => rfl
  | cons x l ih =>
    have := ih (fun y hy => h y (List.mem_cons_of_mem _ hy))
    obtain ⟨_, ⟨h0, _⟩, h1, _⟩ := h x List.mem_cons_self
    simp only [gat, List.flatMap_cons, List.length_append, List.length_take, List.length_drop, List.map_cons, List.sum_cons] at this ⊢
    omega
theorem accY_len {t : Tabs} {xs : List Int} {u wr keep : Bool} {rows rows' : Rows} {va : Int} {n : Nat} {a : Acc} (hv : U va) (h : walk t xs u wr keep rows [] va n = (a, rows')) : (accY xs a).length ≤ n ∧ (∀ l, a = .ok l → (accY xs a).length = n) := by
  cases a with
  | bad k va i => exact ⟨Nat.zero_le _, fun l e => by cases e⟩
  | ok l =>
    have := gat_sum xs l (walk_good hv h)
    have h2 := walk_sum n rows [] va h
    simp at h2
    exact ⟨by show (gat xs l).length ≤ n; omega, fun _ _ => by show (gat xs l).length = n; omega⟩
theorem byt_accY {xs : List Int} (h : Rm.Byt xs) (a : Acc) : Rm.Byt (accY xs a) := by
  cases a with
  | ok l => exact byt_gat h l
  | bad k va i => intro x hx; simp [accY] at hx

theorem load_any (g rg tg r : Nat) (S : Nat → Prop) (t : Tabs) (rows rows' : Rows) (xs : List Int) (a : Acc) (va n : Int) (u : Bool) (w : World) (h : Ms w g rg r tg S t rows xs) (hv : U va) (hn' : n ≤ 1000000) (hW : walk t xs u false true rows [] va n.toNat = (a, rows')) :
    Calls Tryz.prog 202 #[(Value.pointer (some ⟨g, 0, none⟩)), .int .u32 va, .int .i64 n, .bool u] w fun e w' => (∃ v, e = .returned (.tuple #[v, (Value.agg #[Value.int .i64 (fk a), Value.int .u32 (fa a), Value.int .u32 (fi a)])]) ∧ R8 w' v (accY xs a) ∧ Tl.Ab w.heap.size (Tl.Bl v)) ∧ ∃ S', Ms w' g rg r tg S' t rows' xs ∧ Tl.Step S S' w w' := by
  cases a with
  | ok l =>
    refine (load_ok g rg tg r S t rows rows' xs l va n u w h hv hn' hW).mono ?_
    rintro e w' ⟨h1, S', hT, hs⟩
    exact ⟨h1, S', h.turn hT hs, hs⟩
  | bad k va' i =>
    refine (load_bad g rg tg r S t rows rows' xs va n k va' i u w h hv hn' hW).mono ?_
    rintro e w' ⟨rfl, S', hT, hs⟩
    exact ⟨⟨_, rfl, R8.nil _, fun k hk => by simp [Tl.Bl, Value.ownBlock] at hk⟩, S', h.turn hT hs, hs⟩

/-- A row of bytes, as it is read. -/
theorem R8.open_ {w : World} {v : Value} {ys : List Int} (h : R8 w v ys) : ∃ A c, v = .slice A ys.length c ∧ Hid (∀ j, j < ys.length → ∃ r, A = some ⟨r, 0, none⟩ ∧ r < w.heap.size ∧ w.cell? ⟨r, j, none⟩ = some (.int .u8 (ys.getD j 0))) := by
  rcases Tl.own_shape h with ⟨rfl, h0⟩ | ⟨r, cap, rfl, hc, hm, hrl, hcs, _⟩
  · exact ⟨none, 0, by rw [h0], fun j hj => by omega⟩
  · exact ⟨_, cap, rfl, fun j hj => ⟨r, rfl, hrl, hcs j _ (Rm.cel_get ys j hj)⟩⟩
theorem R8.src {w : World} {A : Option Addr} {n c : Nat} {ys : List Int} (h : R8 w (.slice A n c) ys) : Rm.Src w A ys := fun h0 => by
  rcases Tl.own_shape h with ⟨_, h1⟩ | ⟨r, cap, e, hc, hm, hrl, hcs, _⟩
  · omega
  · injection e with e1 _ _
    subst e1
    exact ⟨_, rfl, hrl, fun j v hv => by rw [Addr.add_lit]; simpa using hcs j v hv⟩

theorem ms_set {w W : World} {g rg r tg F : Nat} {S S1 : Nat → Prop} {t : Tabs} {rows : Rows} {xs : List Int} {a b c : Value} (h : Ms W g rg r tg S1 t rows xs) (hs : Tl.Step S S1 w W) (hF : w.heap.size ≤ F) (hf : Ft W F) :
    Ms (((W.setCell ⟨F, 0, none⟩ a).setCell ⟨F, 1, none⟩ b).setCell ⟨F, 2, none⟩ c) g rg r tg S1 t rows xs ∧ Tl.Step S S1 w (((W.setCell ⟨F, 0, none⟩ a).setCell ⟨F, 1, none⟩ b).setCell ⟨F, 2, none⟩ c) := by
  have n1 : g ≠ F := by rintro rfl; exact absurd (h.mx.typ.ne hf.typ) (by decide)
  have n2 : rg ≠ F := by rintro rfl; exact absurd ((mem_typ h.mem).1.ne hf.typ) (by decide)
  have n3 : r ≠ F := by rintro rfl; exact absurd ((mem_typ h.mem).2.ne hf.typ) (by decide)
  exact ⟨⟨h.mx.keep (set3 n1) (fun k hk => set3 (by rintro rfl; exact hf.tb h.mx.tb hk)), h.mem.keep (set3 n2) (set3 n3)⟩, ⟨((hs.mods.set _ (.inr hF)).set _ (.inr hF)).set _ (.inr hF), hs.grow⟩⟩
theorem fin3s {w W : World} {g rg r tg F : Nat} {S S1 : Nat → Prop} {t : Tabs} {rows : Rows} {xs : List Int} {a b c : Value} {o : Obj} (h : Ms W g rg r tg S1 t rows xs) (hs : Tl.Step S S1 w W) (hF : w.heap.size ≤ F) (hf : Ft W F) :
    Ms ((((W.setCell ⟨F, 0, none⟩ a).setCell ⟨F, 1, none⟩ b).setCell ⟨F, 2, none⟩ c).alloc o).drew g rg r tg S1 t rows xs ∧ Tl.Step S S1 w ((((W.setCell ⟨F, 0, none⟩ a).setCell ⟨F, 1, none⟩ b).setCell ⟨F, 2, none⟩ c).alloc o).drew := by
  obtain ⟨h1, h2⟩ := ms_set (a := a) (b := b) (c := c) h hs hF hf
  exact ⟨h1.below (by go_grown), h2.trans (Tl.Step.of_below (by go_grown))⟩

set_option maxRecDepth 100000 in
set_option maxHeartbeats 1000000 in
set_option maxRecDepth 100000 in
theorem get_any (g rg tg r : Nat) (S : Nat → Prop) (t : Tabs) (rows rows' : Rows) (xs : List Int) (a : Acc) (va z : Int) (u : Bool) (w : World) (h : Ms w g rg r tg S t rows xs) (hv : U va) (hW : walk t xs u false true rows [] va (min z 4).toNat = (a, rows')) :
    Calls Tryz.prog 137 #[(Value.pointer (some ⟨g, 0, none⟩)), .int .u32 va, .int .i64 z, .bool u] w fun e w' => e = .returned (.tuple #[.int .u32 (Rm.num (accY xs a)), (Value.agg #[Value.int .i64 (fk a), Value.int .u32 (fa a), Value.int .u32 (fi a)])]) ∧ ∃ S', Ms w' g rg r tg S' t rows' xs ∧ Tl.Step S S' w w' := by
  have H := Lib.hid h
  have HV := Lib.hid hv
  have HF := Lib.hid (new_flt w)
  have HY := Lib.hid (accY_len hv hW).1
  have HB := Lib.hid (byt_accY h.mem.byt a)
  have key : ∀ m : Int, m ≤ 4 → min z 4 = m → Calls Tryz.prog 202 #[(Value.pointer (some ⟨g, 0, none⟩)), .int .u32 va, .int .i64 m, .bool u] (w.alloc (.cells #[.int .i64 0, .int .u32 0, .int .u32 0] 100)) fun e w' => (∃ v, e = .returned (.tuple #[v, (Value.agg #[Value.int .i64 (fk a), Value.int .u32 (fa a), Value.int .u32 (fi a)])]) ∧ R8 w' v (accY xs a) ∧ Tl.Ab (w.alloc (.cells #[.int .i64 0, .int .u32 0, .int .u32 0] 100)).heap.size (Tl.Bl v)) ∧ ∃ S', Ms w' g rg r tg S' t rows' xs ∧ Tl.Step S S' (w.alloc (.cells #[.int .i64 0, .int .u32 0, .int .u32 0] 100)) w' := by
    intro m hm e
    rw [e] at hW
    exact load_any g rg tg r S t rows rows' xs a va m u _ (h.below (by go_grown)) hv (by omega) hW
  have HK := Lib.hid key
  clear h hv hW key
  have hk : Hid (∃ m : Int, m ≤ 4 ∧ min z 4 = m) := ⟨_, by omega, rfl⟩
  rcases Int.lt_trichotomy z 4 with hz | hz | hz
  all_goals
    go_enter Tryz.func137, Tryz.ntmps137
    go_wp2_with fail
    refine (HK.out _ (by omega) (by omega)).mono ?_
    rintro e w1 ⟨⟨v, rfl, hr, hab⟩, S1, hMs, hs⟩
    have hF1 := Ft.mods HF.out hs.mods (Ft.tb HF.out (H.out.mx.tb.below (by go_grown)))
    have hzF := hF1.lt
    have HMs := Lib.hid hMs
    have HS := Lib.hid ((Tl.Step.of_below (S := S) (w := w) (by go_grown)).trans hs)
    have HFt := Lib.hid hF1
    obtain ⟨A, c, rfl, HC⟩ := hr.open_
    have hyl := HY.out
    generalize hyn : (accY xs a).length = yn at HC hyl
    have HYN := Lib.hid hyn
    generalize hys : accY xs a = ys at HB HC HYN
    have HYS := Lib.hid hys
    clear hr hab hMs hs hF1 hyn hys
    go_wp2
    go_loop [12, 26] (fun x i => ∃ k : Nat, k ≤ yn ∧ i = .int .i64 k ∧ x = .int .u32 (Rm.val ys 0 k)) (fun _ i => yn - (intOf i).toNat)
    case atStart => exact ⟨0, Nat.zero_le _, rfl, rfl⟩
    case round =>
      obtain ⟨k, hk, rfl, rfl⟩ := hrel
      by_cases hlt : k < yn
      · have hb := Rm.val_bound ys 0 HB.out k (by rw [HYN.out]; omega)
        obtain ⟨b, rfl, hbl, hcl⟩ := HC.out k hlt
        have hx := HB.out.at_ k
        have hk4 : k < 4 := by omega
        have ho := Rm.or_byte _ _ k hk4 hb hx
        have hvs := Rm.val_succ ys 0 k (by rw [HYN.out]; omega)
        rw [Nat.zero_add] at hvs
        rw [← hvs] at ho
        have HO := Lib.hid ho
        generalize hv1 : Rm.val ys 0 (k + 1) = v1 at HO
        have HV1 := Lib.hid hv1
        clear hv1
        generalize Rm.val ys 0 k = v0 at *
        generalize ys.getD k 0 = y at *
        clear ho hvs
        go_wp2
        go_round
        case rel =>
          exact ⟨k + 1, by omega, by go_num, by rw [HV1.out, ← HO.out, Int.emod_eq_of_lt hx.1 (by omega)]⟩
        case measure => simp [intOf]; omega
      · obtain rfl : k = yn := by omega
        have HE : Hid (Rm.val ys 0 k = Rm.num ys) := by show _ = _; rw [Rm.val, List.drop_zero, ← HYN.out, List.take_length]
        rw [HE.out]
        obtain ⟨c0, c1, c2, f0, f1, f2⟩ := HFt.out.cells
        go_wp2
        go_region
        go_wp2
        refine bodyPost_ret (v := .tuple #[.int .u32 (Rm.num ys), (Value.agg #[Value.int .i64 (fk a), Value.int .u32 (fa a), Value.int .u32 (fi a)])]) (by simp [results, Tryz.results137, go_sem, c0, c1, c2, hzF]) rfl ⟨by rw [HYS.out], S1, ?_⟩
        exact fin3s HMs.out HS.out (Nat.le_refl _) HFt.out

theorem plR_false (t : Tabs) (xs : List Int) (rows : Rows) (va : Int) (u wr : Bool) : plR t xs rows va u wr false = rows := by
  unfold plR enR
  split
  · rfl
  · split
    · simp
    · rfl
theorem cnt_one (va : Int) : cnt va 1 = 1 := by unfold cnt; omega
theorem walk_one_ok {t : Tabs} {xs : List Int} {u wr keep : Bool} {rows : Rows} {va a : Int} (h : plE t xs rows va 1 u wr = .ok a) : walk t xs u wr keep rows [] va 1 = (.ok [⟨va, a, 1⟩], plR t xs rows va u wr keep) := by
  have c := cnt_one va
  rw [walk_ok (by omega) (by rw [c]; exact h), c, walk_end]
  rfl
theorem walk_one_bad {t : Tabs} {xs : List Int} {u wr keep : Bool} {rows : Rows} {va k i : Int} (h : plE t xs rows va 1 u wr = .bad k i) : walk t xs u wr keep rows [] va 1 = (.bad k va i, plR t xs rows va u wr keep) := by
  have c := cnt_one va
  rw [walk_bad (by omega) (by rw [c]; exact h)]





end Go.Proofs.YteohkobdmkbcpaaGreatDoor.Mm
