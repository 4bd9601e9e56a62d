/- Contracts of the document's translation: Fault, Entry, Find. -/
import Derived.Test.YtfpdemlcmfaieaaRRam
namespace Go.Proofs.Ytfpdemlcmfaieaa.Cs
open Go.RowKit

/-- Block h is the document's, over the memory in block rh, its buffer in block th, made of the blocks T. -/
structure Rx (w : World) (h rh th : Nat) (T : Nat → Prop) (t : Tabs) (pl : Bool) (rows : Rows) : Prop where
  box : w.heap[h]? = some (.cells #[(Value.pointer (some ⟨rh, 0, none⟩)), (Value.pointer (some ⟨th, 0, none⟩)), .int .u32 t.pb, .int .u32 t.pn, .int .u32 t.sb, .int .u32 t.sn, .int .u32 t.me, .bool pl] 43 (0, 0))
  rf : Tl.Rf w th T rows
  fit : Tl.Fit rows
  ok : t.Ok
section
variable {w w' : World} {h rh th : Nat} {T T' Q : Nat → Prop} {t : Tabs} {pl : Bool} {rows rows' : Rows}
theorem Rx.glt (x : Rx w h rh th T t pl rows) : h < w.heap.size := Tl.lt_of_heap x.box
theorem Rx.typ (x : Rx w h rh th T t pl rows) : Typ w h 43 := ⟨_, _, x.box⟩
theorem Rx.not (x : Rx w h rh th T t pl rows) : ¬ T h := rf_not x.rf x.typ (by decide) (by decide)
theorem Rx.c0 (x : Rx w h rh th T t pl rows) : w.cell? ⟨h, 0, none⟩ = some (Value.pointer (some ⟨rh, 0, none⟩)) := by rw [cell_of_row w h 0 _ _ _ x.box]; rfl
theorem Rx.c1 (x : Rx w h rh th T t pl rows) : w.cell? ⟨h, 1, none⟩ = some (Value.pointer (some ⟨th, 0, none⟩)) := by rw [cell_of_row w h 1 _ _ _ x.box]; rfl
theorem Rx.c2 (x : Rx w h rh th T t pl rows) : w.cell? ⟨h, 2, none⟩ = some (.int .u32 t.pb) := by rw [cell_of_row w h 2 _ _ _ x.box]; rfl
theorem Rx.c3 (x : Rx w h rh th T t pl rows) : w.cell? ⟨h, 3, none⟩ = some (.int .u32 t.pn) := by rw [cell_of_row w h 3 _ _ _ x.box]; rfl
theorem Rx.c4 (x : Rx w h rh th T t pl rows) : w.cell? ⟨h, 4, none⟩ = some (.int .u32 t.sb) := by rw [cell_of_row w h 4 _ _ _ x.box]; rfl
theorem Rx.c5 (x : Rx w h rh th T t pl rows) : w.cell? ⟨h, 5, none⟩ = some (.int .u32 t.sn) := by rw [cell_of_row w h 5 _ _ _ x.box]; rfl
theorem Rx.c6 (x : Rx w h rh th T t pl rows) : w.cell? ⟨h, 6, none⟩ = some (.int .u32 t.me) := by rw [cell_of_row w h 6 _ _ _ x.box]; rfl
theorem Rx.c7 (x : Rx w h rh th T t pl rows) : w.cell? ⟨h, 7, none⟩ = some (.bool pl) := by rw [cell_of_row w h 7 _ _ _ x.box]; rfl
theorem Rx.keep (x : Rx w h rh th T t pl rows) (hg : w'.heap[h]? = w.heap[h]?) (hk : ∀ k, T k → w'.heap[k]? = w.heap[k]?) : Rx w' h rh th T t pl rows := ⟨hg.trans x.box, x.rf.keep hk, x.fit, x.ok⟩
theorem Rx.below (x : Rx w h rh th T t pl rows) (m : Below w.heap.size w w') : Rx w' h rh th T t pl rows := x.keep (m.block h x.glt) (fun k hk => m.block k (x.rf.lo k hk))
theorem Rx.mods (x : Rx w h rh th T t pl rows) (m : Tl.Mods Q w w') (hg : ¬ Q h) (a : Tl.Apart Q T) : Rx w' h rh th T t pl rows := x.keep (m.block h x.glt hg) (fun k hk => m.block k (x.rf.lo k hk) (fun hq => a k hq hk))
theorem Rx.turn (x : Rx w h rh th T t pl rows) (hb : Tl.Rf w' th T' rows') (hf : Tl.Fit rows') (s : Tl.Step T T' w w') : Rx w' h rh th T' t pl rows' := ⟨(s.mods.block h x.glt x.not).trans x.box, hb, hf, x.ok⟩
end
/-- With the memory. -/
structure Rs (w : World) (h rh hr th : Nat) (T : Nat → Prop) (t : Tabs) (pl : Bool) (rows : Rows) (xs : List Int) : Prop where
  mx : Rx w h rh th T t pl rows
  mem : Rb w rh hr xs
section
variable {w w' : World} {h rh hr th : Nat} {T T' : Nat → Prop} {t : Tabs} {pl : Bool} {rows rows' : Rows} {xs ys : List Int}
theorem Rs.below (x : Rs w h rh hr th T t pl rows xs) (b : Below w.heap.size w w') : Rs w' h rh hr th T t pl rows xs := ⟨x.mx.below b, x.mem.below b⟩
theorem rb_rf (b : Rb w rh hr xs) (r : Tl.Rf w th T rows) (m : Tl.Mods T w w') : Rb w' rh hr xs :=
  b.mods m (rf_not r b.typ.1 (by decide) (by decide)) (rf_not r b.typ.2 (by decide) (by decide))
theorem Rs.turn (x : Rs w h rh hr th T t pl rows xs) (hb : Tl.Rf w' th T' rows') (hf : Tl.Fit rows') (s : Tl.Step T T' w w') : Rs w' h rh hr th T' t pl rows' xs := ⟨x.mx.turn hb hf s, rb_rf x.mem x.mx.rf s.mods⟩
theorem Rs.wrote (x : Rs w h rh hr th T t pl rows xs) (b : Rb w' rh hr ys) (m : Tl.Mods (fun k => k = hr) w w') : Rs w' h rh hr th T t pl rows ys ∧ Tl.Step (Rg T hr) (Rg T hr) w w' :=
  ⟨⟨x.mx.mods m (fun e => by rw [e] at x; exact absurd (x.mx.typ.ne x.mem.typ.2) (by decide)) (fun k e e' => by subst e; exact rf_not x.mx.rf x.mem.typ.2 (by decide) (by decide) e'), b⟩, ⟨m.mono (fun _ _ e => .inr e), fun _ h => .inl h⟩⟩
theorem Rs.lo (x : Rs w h rh hr th T t pl rows xs) : Tl.Lo w.heap.size (Rg T hr) := fun k hk => by
  rcases hk with hk | rfl
  · exact x.mx.rf.lo k hk
  · exact x.mem.rlt
end

set_option maxHeartbeats 400000 in
theorem rfault_any (k va i j : Int) (wr : Bool) (w : World) (h : (i = 0 ∨ i = 1) ∧ inf i wr = j) :
    Calls Try.prog 58 #[.int .i64 k, .int .u32 va, .int .u32 i, .bool wr] w fun e w' => e = .returned ((Value.agg #[Value.int .i64 k, Value.int .u32 va, Value.int .u32 j])) ∧ Below w.heap.size w w' := by
  obtain ⟨h, rfl⟩ := h
  rcases h with rfl | rfl <;> cases wr
  all_goals
    go_enter Try.func58, Try.ntmps58
    go_wp2
    go_returns
    exact ⟨rfl, by go_grown⟩

theorem sys_iff {va : Int} (h : U va) : sys va = decide (2147483648 ≤ va) := by
  obtain ⟨h0, h1⟩ := h
  unfold sys
  by_cases e : 2147483648 ≤ va
  · rw [decide_eq_true e, show va / 2147483648 % 2 = 1 by omega]; rfl
  · rw [decide_eq_false e, show va / 2147483648 % 2 = 0 by omega]; rfl

set_option maxHeartbeats 400000 in
theorem rentry_any (h rh th : Nat) (T : Nat → Prop) (t : Tabs) (pl : Bool) (rows : Rows) (va a : Int) (b : Bool) (w : World) (x : Rx w h rh th T t pl rows) (hv : U va) (ha : epl t va = a) (hb : ein t va = b) :
    Calls Try.prog 28 #[(Value.pointer (some ⟨h, 0, none⟩)), .int .u32 va] w fun e w' => e = .returned (.tuple #[.int .u32 a, .bool b]) ∧ w = w' := by
  subst ha hb
  have h1 := x.c2
  have h2 := x.c3
  have h3 := x.c4
  have h4 := x.c5
  have C := Lib.hid (Pt.rbit_as va 30 hv (by omega) (va / 1073741824 % 2 == 1) rfl)
  have hsi := sys_iff hv
  obtain ⟨v0, v1⟩ := hv
  obtain ⟨⟨b0, b1⟩, ⟨b2, b3⟩, ⟨b4, b5⟩, ⟨b6, b7⟩, _⟩ := x.ok
  have hnot : (va / 1073741824 % 2 == 0) = !(va / 1073741824 % 2 == 1) := by
    have : va / 1073741824 % 2 = 0 ∨ va / 1073741824 % 2 = 1 := by omega
    rcases this with e | e <;> rw [e] <;> rfl
  have HS : Hid (epl t va = ((if sys va then t.sb else t.pb) + 4 * (va / 512 % 2097152)) % 4294967296) := rfl
  have HN : Hid (ein t va = (va / 1073741824 % 2 == 0 && decide (va / 512 % 2097152 < (if sys va then t.sn else t.pn)))) := rfl
  rw [hnot] at HN
  generalize epl t va = E at HS ⊢
  generalize ein t va = I at HN ⊢
  clear x hnot
  by_cases hS : 2147483648 ≤ va
  · rw [hsi, decide_eq_true hS] at HS HN
    simp only [if_true] at HS HN
    cases hN : (va / 1073741824 % 2 == 1)
    all_goals
      rw [hN] at HN C
      clear hN hsi
      go_enter Try.func28, Try.ntmps28
      go_wp2_with fail
      refine (C.out _).mono ?_
      rintro e w' ⟨rfl, rfl⟩
      go_wp2
      go_ret2
      refine ⟨?_, rfl⟩
      rw [HS.out, HN.out, Int.mul_comm 4]
      rfl
  · rw [hsi, decide_eq_false hS] at HS HN
    simp only [Bool.false_eq_true, if_false] at HS HN
    cases hN : (va / 1073741824 % 2 == 1)
    all_goals
      rw [hN] at HN C
      clear hN hsi
      go_enter Try.func28, Try.ntmps28
      go_wp2_with fail
      refine (C.out _).mono ?_
      rintro e w' ⟨rfl, rfl⟩
      go_wp2
      go_ret2
      refine ⟨?_, rfl⟩
      rw [HS.out, HN.out, Int.mul_comm 4]
      rfl

end Go.Proofs.Ytfpdemlcmfaieaa.Cs
