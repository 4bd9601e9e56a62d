/- What a law holds of a memory behind tables that it made itself; what each law asks first. -/
import Derived.Test.YtfpdemlcmfaieaaMPut
namespace Go.Proofs.Ytfpdemlcmfaieaa.Cs
open Go.RowKit

structure Tp (w : World) (g rg r tg : Nat) (S : Nat → Prop) (t : Tabs) (rows : Rows) (xs : List Int) (W : World) : Prop where
  ms : Ms W g rg r tg S t rows xs
  ab : Tl.Ab w.heap.size (Rg S r)
  ag : w.heap.size ≤ g
  bel : Below w.heap.size w W
section
variable {w W W' : World} {g rg r tg : Nat} {S S' : Nat → Prop} {t t' : Tabs} {rows rows' : Rows} {xs ys : List Int}
theorem Tp.below (h : Tp w g rg r tg S t rows xs W) (b : Below W.heap.size W W') : Tp w g rg r tg S t rows xs W' := ⟨h.ms.below b, h.ab, h.ag, Tl.bel_trans h.bel b h.bel.size⟩
theorem Tp.step (h : Tp w g rg r tg S t rows xs W) (m : Ms W' g rg r tg S' t rows' ys) (s : Tl.Step (Rg S r) (Rg S' r) W W') : Tp w g rg r tg S' t rows' ys W' :=
  ⟨m, s.ab h.ab h.bel.size, h.ag, s.below h.bel h.ab h.bel.size⟩
theorem Tp.turn (h : Tp w g rg r tg S t rows xs W) (m : Tl.Tb W' tg S' rows') (s : Tl.Step S S' W W') : Tp w g rg r tg S' t rows' xs W' := h.step (h.ms.turn m s) (step_rg s)
theorem Tp.turn' (h : Tp w g rg r tg S t rows xs W) (m : Ms W' g rg r tg S' t rows' ys) (s : Tl.Step S S' W W') : Tp w g rg r tg S' t rows' ys W' := h.step m (step_rg s)
/-- Set. -/
theorem Tp.set (h : Tp w g rg r tg S t rows xs W) (m : Mx W' g rg tg S' t' []) (s : Tl.Step (Rg S g) (Rg S' g) W W') : Tp w g rg r tg S' t' [] xs W' := by
  have hn : ¬ Rg S g rg ∧ ¬ Rg S g r := by
    refine ⟨fun e => ?_, fun e => ?_⟩
    · rcases e with e | e
      · exact tb_not h.ms.mx.tb (mem_typ h.ms.mem).1 (by decide) (by decide) e
      · rw [e] at h; exact absurd (h.ms.mx.typ.ne (mem_typ h.ms.mem).1) (by decide)
    · rcases e with e | e
      · exact tb_not h.ms.mx.tb (mem_typ h.ms.mem).2 (by decide) (by decide) e
      · rw [e] at h; exact absurd (h.ms.mx.typ.ne (mem_typ h.ms.mem).2) (by decide)
  have ha : Tl.Ab w.heap.size (Rg S g) := fun k hk => by
    rcases hk with hk | rfl
    · exact h.ab k (.inl hk)
    · exact h.ag
  refine ⟨⟨m, mem_mods h.ms.mem s.mods hn.1 hn.2⟩, fun k hk => ?_, h.ag, s.below h.bel ha h.bel.size⟩
  rcases hk with hk | rfl
  · exact s.ab ha h.bel.size k (.inl hk)
  · exact h.ab k (.inr rfl)
/-- Made. -/
theorem Tp.make (hm : Rm.Mem W rg r xs) (hr : w.heap.size ≤ r) (b : Below w.heap.size w W) (hg : W.heap.size ≤ g) (m : Mx W' g rg tg S noTabs []) (a : Tl.Ab W.heap.size S) (b' : Below W.heap.size W W') : Tp w g rg r tg S noTabs [] xs W' :=
  ⟨⟨m, hm.below_ b'⟩, fun k hk => by
    rcases hk with hk | rfl
    · exact Nat.le_trans b.size (a k hk)
    · exact hr, Nat.le_trans b.size hg, Tl.bel_trans b b' b.size⟩
end

/-- A fault in a block. -/
def Fv (W : World) (F : Nat) (k va i : Int) : Prop := W.heap[F]? = some (.cells #[.int .i64 k, .int .u32 va, .int .u32 i] 50 (0, 0))
section
variable {w W W' : World} {F g rg r tg : Nat} {S T : Nat → Prop} {t : Tabs} {rows : Rows} {xs : List Int} {k va i : Int}
theorem Fv.new : Fv (W.alloc (.cells #[.int .i64 k, .int .u32 va, .int .u32 i] 50)) W.heap.size k va i := heap_alloc_new _ _
theorem Fv.lt (h : Fv W F k va i) : F < W.heap.size := Tl.lt_of_heap h
theorem Fv.typ (h : Fv W F k va i) : Typ W F 50 := ⟨_, _, h⟩
theorem Fv.below (h : Fv W F k va i) (b : Below W.heap.size W W') : Fv W' F k va i := (b.block _ h.lt).trans h
theorem Fv.mods (h : Fv W F k va i) (m : Ms W g rg r tg S t rows xs) (b : Tl.Mods (Rg S r) W W') : Fv W' F k va i :=
  (b.block _ h.lt (fun e => by
    rcases e with e | e
    · exact tb_not m.mx.tb h.typ (by decide) (by decide) e
    · rw [e] at h; exact absurd (h.typ.ne (mem_typ m.mem).2) (by decide))).trans h
theorem Fv.cells (h : Fv W F k va i) : W.cell? ⟨F, 0, none⟩ = some (.int .i64 k) ∧ W.cell? ⟨F, 1, none⟩ = some (.int .u32 va) ∧ W.cell? ⟨F, 2, none⟩ = some (.int .u32 i) ∧
    W.frozen? ⟨F, 0, none⟩ = false ∧ W.frozen? ⟨F, 1, none⟩ = false ∧ W.frozen? ⟨F, 2, none⟩ = false := by
  unfold Fv at h
  rw [cell_of_row W _ 0 _ _ _ h, cell_of_row W _ 1 _ _ _ h, cell_of_row W _ 2 _ _ _ h]
  exact ⟨rfl, rfl, rfl, frozen_of_row W _ 0 _ _ h, frozen_of_row W _ 1 _ _ h, frozen_of_row W _ 2 _ _ h⟩
theorem Fv.set (h : Fv W F k va i) (k' va' i' : Int) : Fv (((W.setCell ⟨F, 0, none⟩ (.int .i64 k')).setCell ⟨F, 1, none⟩ (.int .u32 va')).setCell ⟨F, 2, none⟩ (.int .u32 i')) F k' va' i' :=
  heap_setCell_same _ F 2 _ _ _ (heap_setCell_same _ F 1 _ _ _ (heap_setCell_same W F 0 _ _ _ h))
theorem Tp.fv {g rg r tg : Nat} (h : Tp w g rg r tg S t rows xs W) (f : Fv W F k va i) (hF : w.heap.size ≤ F) (k' va' i' : Int) : Tp w g rg r tg S t rows xs (((W.setCell ⟨F, 0, none⟩ (.int .i64 k')).setCell ⟨F, 1, none⟩ (.int .u32 va')).setCell ⟨F, 2, none⟩ (.int .u32 i')) := by
  have n1 : g ≠ F := by rintro rfl; exact absurd (h.ms.mx.typ.ne f.typ) (by decide)
  have n2 : rg ≠ F := by rintro rfl; exact absurd ((mem_typ h.ms.mem).1.ne f.typ) (by decide)
  have n3 : r ≠ F := by rintro rfl; exact absurd ((mem_typ h.ms.mem).2.ne f.typ) (by decide)
  refine ⟨⟨h.ms.mx.keep (set3 n1) (fun k hk => set3 (by rintro rfl; exact tb_not h.ms.mx.tb f.typ (by decide) (by decide) hk)), h.ms.mem.keep (set3 n2) (set3 n3)⟩, h.ab, h.ag, ((h.bel.setCell hF _).setCell hF _).setCell hF _⟩
end

/-! what the document tells -/
def aT : Tabs := ⟨512, 1, 0, 0, 1⟩
def aX : List Int := splice (splice (List.replicate 1024 0) 512 (Rm.low 2550136832 4)) 3 (Rm.low 77 1)
theorem a_ok : aT.Ok := by simp [Tabs.Ok, aT, U, Pt.U]
theorem a_one : plE aT aX [] 3 1 true false = .ok 3 := by kernel_rfl
theorem a_rows : plR aT aX [] 3 true false true = [(0, 2550136832)] := by kernel_rfl
theorem a_two : plE aT aX [(0, 2550136832)] 512 1 false true = .bad 2 5 := by kernel_rfl
theorem a_num : Rm.num (accY aX (.ok [⟨3, 3, 1⟩])) = 77 := by kernel_rfl
theorem a_get : walk aT aX true false true [] [] 3 (min 1 4 : Int).toNat = (.ok [⟨3, 3, 1⟩], [(0, 2550136832)]) := by
  rw [← a_rows]; exact walk_one_ok a_one
theorem a_probe : walk aT aX false true true [(0, 2550136832)] [] 512 (1 : Int).toNat = (.bad 2 512 5, plR aT aX [(0, 2550136832)] 512 false true true) := walk_one_bad a_two

set_option maxHeartbeats 1000000 in
theorem alive (w : World) : Calls Try.prog 9 #[] w fun e w' => e = .returned (.bool true) ∧ Below w.heap.size w w' := by
  go_enter Try.func9, Try.ntmps9
  go_wp2_with fail
  refine (Rm.new_any 1024 _).mono ?_
  rintro e w1 ⟨rg, r, rfl, h1, h2, hm, hb⟩
  have HM := Lib.hid hm
  have HB := Lib.hid hb
  rw [show Rm.sized 1024 = 1024 from rfl] at HM
  clear hm hb
  go_wp2_with fail
  refine (Rm.put_at rg r _ 512 4 512 4 rfl rfl 2550136832 _ HM.out (by omega) (by rw [List.length_replicate]; omega)).mono ?_
  rintro e w2 ⟨rfl, hm2, hg2⟩
  have HM2 := Lib.hid hm2
  have HB2 := Lib.hid (Rm.below_of_grown HB.out hg2 HB.out.size h2)
  clear hm2 hg2 HM HB
  go_wp2_with fail
  refine (Rm.put_at rg r _ 3 1 3 1 rfl rfl 77 _ HM2.out (by omega) (by rw [length_splice _ _ _ (by rw [Rm.low_length, List.length_replicate]; omega), List.length_replicate]; omega)).mono ?_
  rintro e w3 ⟨rfl, hm3, hg3⟩
  have HM3 : Hid (Rm.Mem w3 rg r aX) := hm3
  have HB3 := Lib.hid (Rm.below_of_grown HB2.out hg3 HB2.out.size h2)
  clear hm3 hg3 HM2 HB2
  go_wp2_with fail
  refine (mnew_any rg _).mono ?_
  rintro e w4 ⟨g, tg, S, rfl, h4, _, hx, ha, hb⟩
  have HT := Lib.hid (Tp.make HM3.out h2 HB3.out h4 hx ha hb)
  clear h4 hx ha hb HM3 HB3
  go_wp2_with fail
  refine (set_any g rg tg S noTabs aT [] _ HT.out.ms.mx a_ok).mono ?_
  rintro e w5 ⟨rfl, S5, hx5, hs5⟩
  have HT5 := Lib.hid (HT.out.set hx5 hs5)
  clear hx5 hs5 HT
  go_wp2_with fail
  refine (get_any g rg tg r S5 aT [] _ aX _ 3 1 true _ HT5.out.ms (by simp [U, Pt.U]) a_get).mono ?_
  rintro e w6 ⟨rfl, S6, hm6, hs6⟩
  have HT6 := Lib.hid (HT5.out.turn' hm6 hs6)
  rw [a_num]
  clear hm6 hs6 HT5
  go_wp2_with fail
  refine (probe_any g rg tg r S6 aT _ aX 512 1 false true _ (HT6.out.ms.mx.below (by go_grown)) (HT6.out.ms.mem.below_ (by go_grown)) (by simp [U, Pt.U]) (by omega) _ _ a_probe).mono ?_
  rintro e w7 ⟨hE, S7, hT7, hs7⟩
  obtain rfl := hE
  have HF := Lib.hid (Fv.mods (Fv.new (W := w6)) (HT6.out.ms.below (by go_grown)) (step_rg hs7).mods)
  have HT7 := Lib.hid ((HT6.out.below (by go_grown)).turn hT7 hs7)
  clear hT7 hs7 HT6
  obtain ⟨c0, c1, c2, _, _, _⟩ := HF.out.cells
  have hz := HF.out.lt
  go_wp2
  go_ret
  exact ⟨rfl, (HT7.out.below (by go_grown)).bel⟩

end Go.Proofs.Ytfpdemlcmfaieaa.Cs
