/- Contracts of package mmu: Store in one, Put; of none. -/
import Derived.Test.YtfpdemlcmfaieaaMStore2
namespace Go.Proofs.Ytfpdemlcmfaieaa.Cs
open Go.RowKit

/-- What a write leaves. -/
def stM (t : Tabs) (xs : List Int) (rows : Rows) (ys : List Int) : Acc → List Int
  | .ok l => pts l (mks t l (xs, rows)).1 ys
  | .bad _ _ _ => xs
def stR (t : Tabs) (xs : List Int) (rows : Rows) : Acc → Rows
  | .ok l => (mks t l (xs, rows)).2
  | .bad _ _ _ => rows

theorem store_any (g rg tg r : Nat) (S : Nat → Prop) (t : Tabs) (rows rows' : Rows) (xs ys : List Int) (a : Acc) (va : Int) (u : Bool) (A : Option Addr) (m c : Nat) (w : World) (h : Ms w g rg r tg S t rows xs) (hv : U va) (hm : ys.length = m) (hn' : m ≤ 1000000) (hS : Sl w (Rg S r) A c ys) (hW : walk t xs u true true rows [] va m = (a, rows')) :
    Calls Try.prog 25 #[(Value.pointer (some ⟨g, 0, none⟩)), .int .u32 va, .bool u, .slice A m c] w fun e w' => e = .returned (Value.agg #[Value.int .i64 (fk a), Value.int .u32 (fa a), Value.int .u32 (fi a)]) ∧ ∃ S', Ms w' g rg r tg S' t (stR t xs rows' a) (stM t xs rows' ys a) ∧ Tl.Step (Rg S r) (Rg S' r) w w' := by
  cases a with
  | ok l => exact store_ok g rg tg r S t rows rows' xs ys l va u A m c w h hv hm hn' hS hW
  | bad k va' i =>
    refine (store_bad g rg tg r S t rows rows' xs va k va' i u A m c w h hv hn' hW).mono ?_
    rintro e w' ⟨rfl, S', hM, hs⟩
    exact ⟨rfl, S', hM, step_rg hs⟩

theorem new_four (w : World) (x : Int) : Rm.Four ((w.alloc (.cells #[.int .i64 0, .int .u32 0, .int .u32 0] 50)).alloc (.cells #[.int .u8 0, .int .u8 0, .int .u8 0, .int .u8 0] 102)) (w.heap.size + 1) (Rm.laid x 0) := by
  have e : (w.alloc (.cells #[.int .i64 0, .int .u32 0, .int .u32 0] 50)).heap.size = w.heap.size + 1 := by simp
  have := heap_alloc_new (w.alloc (.cells #[.int .i64 0, .int .u32 0, .int .u32 0] 50)) (.cells #[.int .u8 0, .int .u8 0, .int .u8 0, .int .u8 0] 102)
  rw [e] at this
  exact this
theorem four_src {w : World} {b n : Nat} {x : Int} (h : Rm.Four w b (Rm.laid x 4)) (hn : n ≤ 4) : Rm.Src w (some ⟨b, 0, none⟩) (Rm.low x n) := fun _ =>
  ⟨_, rfl, Tl.lt_of_heap h, fun j v hv => by
    have hj : j < n := by
      have := (List.getElem?_eq_some_iff.1 hv).1
      rw [Rm.cel_length, Rm.low_length] at this
      exact this
    rw [Addr.add_lit, Nat.zero_add, h.cell (by rw [Rm.laid_length x 4 (by omega)]; omega), ← hv, Rm.cel_get _ j (by rw [Rm.low_length]; exact hj), Rm.laid_low x 4 j (by omega)]
    simp [Rm.low, List.getD, hj, show j < 4 by omega]⟩

set_option maxRecDepth 100000 in
set_option maxHeartbeats 1000000 in
theorem put_any (g rg tg r : Nat) (S : Nat → Prop) (t : Tabs) (rows rows' : Rows) (xs : List Int) (a : Acc) (va x z : Int) (n : Nat) (u : Bool) (w : World) (h : Ms w g rg r tg S t rows xs) (hv : U va) (hn : max 0 (min z 4) = n) (hW : walk t xs u true true rows [] va n = (a, rows')) :
    Calls Try.prog 34 #[(Value.pointer (some ⟨g, 0, none⟩)), .int .u32 va, .int .u32 x, .int .i64 z, .bool u] w fun e w' => e = .returned (Value.agg #[Value.int .i64 (fk a), Value.int .u32 (fa a), Value.int .u32 (fi a)]) ∧ ∃ S', Ms w' g rg r tg S' t (stR t xs rows' a) (stM t xs rows' (Rm.low x n) a) ∧ Tl.Step (Rg S r) (Rg S' r) w w' := by
  have H := Lib.hid h
  have HV := Lib.hid hv
  have HF := Lib.hid (new_flt w)
  have HW := Lib.hid hW
  have hn4 : n ≤ 4 := by omega
  have HZ := Lib.hid hn
  clear h hv hW
  go_enter Try.func34, Try.ntmps34
  go_wp2
  go_loopw [13] (fun i wr => ∃ k : Nat, k ≤ 4 ∧ i = .int .i64 k ∧ Rm.Four wr (w.heap.size + 1) (Rm.laid x k) ∧ Below w.heap.size w wr ∧ Ft wr w.heap.size) (fun i _ => 4 - (intOf i).toNat)
  case atStart => exact ⟨0, Nat.zero_le _, rfl, new_four w x, by go_grown, Ft.below HF.out (by go_grown)⟩
  case round =>
    obtain ⟨k, hk, rfl, h4, hb, hF⟩ := hrel
    by_cases hlt : k < 4
    · have hcl := h4.cell (i := k) (by rw [Rm.laid_length x k (by omega)]; omega)
      have hfr := h4.free k
      have H4 := Lib.hid h4
      have HB := Lib.hid hb
      have HFt := Lib.hid hF
      have hz := hF.lt
      clear h4 hb hF hn
      go_wp2
      go_roundw
      case rel =>
        have hs := H4.out.set k (x / 256 ^ k % 256)
        rw [Rm.laid_set x k (by omega), ← Rm.pow_256 k] at hs
        exact ⟨k + 1, by omega, by go_num, hs, HB.out.setCell (by simp) _, (Below.heap_setCell _ _ _ _ (by simp)).trans HFt.out⟩
      case measure => simp [intOf]; omega
    · obtain rfl : k = 4 := by omega
      have H4 := Lib.hid h4
      have HB := Lib.hid hb
      have HFt := Lib.hid hF
      clear h4 hb hF
      have key : Calls Try.prog 25 #[(Value.pointer (some ⟨g, 0, none⟩)), .int .u32 va, .bool u, .slice (some ⟨w.heap.size + 1, 0, none⟩) n 4] wr fun e w' => e = .returned (Value.agg #[Value.int .i64 (fk a), Value.int .u32 (fa a), Value.int .u32 (fi a)]) ∧ ∃ S', Ms w' g rg r tg S' t (stR t xs rows' a) (stM t xs rows' (Rm.low x n) a) ∧ Tl.Step (Rg S r) (Rg S' r) wr w' := by
        have hMs := H.out.below HB.out
        refine store_any g rg tg r S t rows rows' xs (Rm.low x n) a va u _ n 4 wr hMs HV.out (Rm.low_length x n) (by omega) ⟨four_src H4.out hn4, Rm.low_byt x n, by rw [Rm.low_length]; exact hn4, by omega, fun _ ad e => ?_⟩ HW.out
        injection e with e
        subst e
        refine ⟨fun hT => ?_, Tl.lt_of_heap H4.out⟩
        have ty : Typ wr (w.heap.size + 1) 102 := ⟨_, _, H4.out⟩
        rcases hT with hT | hT
        · exact tb_not hMs.mx.tb ty (by decide) (by decide) hT
        · subst hT
          exact absurd (ty.ne (mem_typ hMs.mem).2) (by decide)
      have HK := Lib.hid key
      have hE : (z < 0 ∧ n = 0) ∨ (z = 0 ∧ n = 0) ∨ (0 < z ∧ z < 4 ∧ (n : Int) = z) ∨ (z = 4 ∧ n = 4) ∨ (4 < z ∧ n = 4) := by omega
      clear key hn
      rcases hE with ⟨hz, rfl⟩ | ⟨rfl, rfl⟩ | ⟨hz, hz4, hnz⟩ | ⟨rfl, rfl⟩ | ⟨hz, rfl⟩
      · have hz4 : z < 4 := by omega
        go_wp2_with fail
        refine HK.out.mono ?_
        rintro e w5 ⟨rfl, S5, hM5, hs5⟩
        have HFt5 := Lib.hid (HFt.out.mods hs5.mods (ft_rg HFt.out (H.out.below HB.out)))
        have HMs5 := Lib.hid hM5
        have HS5 := Lib.hid ((Tl.Step.of_below (S := Rg S r) HB.out).trans hs5)
        obtain ⟨c0, c1, c2, f0, f1, f2⟩ := HFt5.out.cells
        clear hM5 hs5
        go_wp2
        refine bodyPost_ret (v := (Value.agg #[Value.int .i64 (fk a), Value.int .u32 (fa a), Value.int .u32 (fi a)])) (by simp [results, Try.results34, go_sem, c0, c1, c2]) rfl ⟨rfl, S5, ?_⟩
        exact ms_set_rg HMs5.out HS5.out (Nat.le_refl _) HFt5.out
      · go_wp2_with fail
        refine HK.out.mono ?_
        rintro e w5 ⟨rfl, S5, hM5, hs5⟩
        have HFt5 := Lib.hid (HFt.out.mods hs5.mods (ft_rg HFt.out (H.out.below HB.out)))
        have HMs5 := Lib.hid hM5
        have HS5 := Lib.hid ((Tl.Step.of_below (S := Rg S r) HB.out).trans hs5)
        obtain ⟨c0, c1, c2, f0, f1, f2⟩ := HFt5.out.cells
        clear hM5 hs5
        go_wp2
        refine bodyPost_ret (v := (Value.agg #[Value.int .i64 (fk a), Value.int .u32 (fa a), Value.int .u32 (fi a)])) (by simp [results, Try.results34, go_sem, c0, c1, c2]) rfl ⟨rfl, S5, ?_⟩
        exact ms_set_rg HMs5.out HS5.out (Nat.le_refl _) HFt5.out
      · obtain rfl := hnz
        have hk1 : (n : Int) ≤ 4 := by omega
        have hk2 : n < 5 := by omega
        have hk3 : ¬ 4 < n := by omega
        go_wp2_with fail
        refine HK.out.mono ?_
        rintro e w5 ⟨rfl, S5, hM5, hs5⟩
        have HFt5 := Lib.hid (HFt.out.mods hs5.mods (ft_rg HFt.out (H.out.below HB.out)))
        have HMs5 := Lib.hid hM5
        have HS5 := Lib.hid ((Tl.Step.of_below (S := Rg S r) HB.out).trans hs5)
        obtain ⟨c0, c1, c2, f0, f1, f2⟩ := HFt5.out.cells
        clear hM5 hs5
        go_wp2
        refine bodyPost_ret (v := (Value.agg #[Value.int .i64 (fk a), Value.int .u32 (fa a), Value.int .u32 (fi a)])) (by simp [results, Try.results34, go_sem, c0, c1, c2]) rfl ⟨rfl, S5, ?_⟩
        exact ms_set_rg HMs5.out HS5.out (Nat.le_refl _) HFt5.out
      · go_wp2_with fail
        refine HK.out.mono ?_
        rintro e w5 ⟨rfl, S5, hM5, hs5⟩
        have HFt5 := Lib.hid (HFt.out.mods hs5.mods (ft_rg HFt.out (H.out.below HB.out)))
        have HMs5 := Lib.hid hM5
        have HS5 := Lib.hid ((Tl.Step.of_below (S := Rg S r) HB.out).trans hs5)
        obtain ⟨c0, c1, c2, f0, f1, f2⟩ := HFt5.out.cells
        clear hM5 hs5
        go_wp2
        refine bodyPost_ret (v := (Value.agg #[Value.int .i64 (fk a), Value.int .u32 (fa a), Value.int .u32 (fi a)])) (by simp [results, Try.results34, go_sem, c0, c1, c2]) rfl ⟨rfl, S5, ?_⟩
        exact ms_set_rg HMs5.out HS5.out (Nat.le_refl _) HFt5.out
      · go_wp2_with fail
        refine HK.out.mono ?_
        rintro e w5 ⟨rfl, S5, hM5, hs5⟩
        have HFt5 := Lib.hid (HFt.out.mods hs5.mods (ft_rg HFt.out (H.out.below HB.out)))
        have HMs5 := Lib.hid hM5
        have HS5 := Lib.hid ((Tl.Step.of_below (S := Rg S r) HB.out).trans hs5)
        obtain ⟨c0, c1, c2, f0, f1, f2⟩ := HFt5.out.cells
        clear hM5 hs5
        go_wp2
        refine bodyPost_ret (v := (Value.agg #[Value.int .i64 (fk a), Value.int .u32 (fa a), Value.int .u32 (fi a)])) (by simp [results, Try.results34, go_sem, c0, c1, c2]) rfl ⟨rfl, S5, ?_⟩
        exact ms_set_rg HMs5.out HS5.out (Nat.le_refl _) HFt5.out

set_option maxHeartbeats 400000 in
theorem load_nil (va n : Int) (u : Bool) (w : World) :
    Calls Try.prog 22 #[.pointer none, .int .u32 va, .int .i64 n, .bool u] w fun e w' => e = .returned (.tuple #[.slice none 0 0, (Value.agg #[Value.int .i64 1, Value.int .u32 va, Value.int .u32 0])]) ∧ Below w.heap.size w w' := by
  go_enter Try.func22, Try.ntmps22
  go_wp2_with fail
  refine (runs_nil va _ u _ _ _).mono ?_
  rintro e w1 ⟨rfl, hb1⟩
  have hb := Tl.bel2 (a := w) (by go_grown) hb1
  obtain ⟨c0, c1, c2, f0, f1, f2⟩ := Ft.cells (Ft.below (new_flt w) hb1)
  have hz := Ft.lt (Ft.below (new_flt w) hb1)
  clear hb1
  go_wp2
  go_region
  go_wp2
  exact bodyPost_ret (v := .tuple #[.slice none 0 0, (Value.agg #[Value.int .i64 1, Value.int .u32 va, Value.int .u32 0])]) (by simp [results, Try.results22, go_sem, c0, c1, c2, hz]) rfl ⟨rfl, by go_grown⟩

set_option maxHeartbeats 400000 in
theorem peek_nil (va : Int) (u : Bool) (w : World) :
    Calls Try.prog 23 #[.pointer none, .int .u32 va, .bool u] w fun e w' => e = .returned (.tuple #[.int .u8 0, (Value.agg #[Value.int .i64 1, Value.int .u32 va, Value.int .u32 0])]) ∧ Below w.heap.size w w' := by
  go_enter Try.func23, Try.ntmps23
  go_wp2_with fail
  refine (runs_nil va _ u _ _ _).mono ?_
  rintro e w1 ⟨rfl, hb1⟩
  have hb := Tl.bel2 (a := w) (by go_grown) hb1
  obtain ⟨c0, c1, c2, f0, f1, f2⟩ := Ft.cells (Ft.below (new_flt w) hb1)
  have hz := Ft.lt (Ft.below (new_flt w) hb1)
  clear hb1
  go_wp2
  go_region
  go_wp2
  exact bodyPost_ret (v := .tuple #[.int .u8 0, (Value.agg #[Value.int .i64 1, Value.int .u32 va, Value.int .u32 0])]) (by simp [results, Try.results23, go_sem, c0, c1, c2, hz]) rfl ⟨rfl, by go_grown⟩

set_option maxHeartbeats 400000 in
theorem store_nil (va : Int) (u : Bool) (A : Option Addr) (m c : Nat) (w : World) :
    Calls Try.prog 25 #[.pointer none, .int .u32 va, .bool u, .slice A m c] w fun e w' => e = .returned ((Value.agg #[Value.int .i64 1, Value.int .u32 va, Value.int .u32 0])) ∧ Below w.heap.size w w' := by
  go_enter Try.func25, Try.ntmps25
  go_wp2_with fail
  refine (runs_nil va _ u _ _ _).mono ?_
  rintro e w1 ⟨rfl, hb1⟩
  have hb := Tl.bel2 (a := w) (by go_grown) hb1
  obtain ⟨c0, c1, c2, f0, f1, f2⟩ := Ft.cells (Ft.below (new_flt w) hb1)
  have hz := Ft.lt (Ft.below (new_flt w) hb1)
  clear hb1
  go_wp2
  exact bodyPost_ret (v := (Value.agg #[Value.int .i64 1, Value.int .u32 va, Value.int .u32 0])) (by simp [results, Try.results25, go_sem, c0, c1, c2, hz]) rfl ⟨rfl, by go_grown⟩

end Go.Proofs.Ytfpdemlcmfaieaa.Cs
