/- Contracts of sum of package alu. -/
import Derived.Test.YtfninhgjejdafaaAAns
namespace Go.Proofs.Ytfninhgjejdafaa.Cs
open Go.RowKit

/-- an answer without the word whether it can be done -/
def An.pair (A : An) : Value := .tuple #[.int .u32 A.x, .agg #[.bool A.n, .bool A.z, .bool A.v, .bool A.c]]

/-- codes in a block of their own -/
def Fb (W : World) (b : Nat) (l : List Value) : Prop := W.heap[b]? = some (.cells l.toArray 26 (0, 0))

theorem Fb.cell {W : World} {b : Nat} {l : List Value} (h : Fb W b l) (i : Nat) (v : Value) (hv : l[i]? = some v) : W.cell? ⟨b, i, none⟩ = some v := by
  unfold Fb at h; simp [World.cell?, h, hv]
theorem Fb.set {W : World} {b : Nat} {l : List Value} (h : Fb W b l) (i : Nat) (v : Value) : Fb (W.setCell ⟨b, i, none⟩ v) b (l.set i v) := by
  unfold Fb at h ⊢
  simp [World.setCell, Array.getElem?_modify, h]
theorem fb_new {w w1 : World} {l : List Value} (h : Below (w.alloc (.cells l.toArray 26)).heap.size (w.alloc (.cells l.toArray 26)) w1) : Fb w1 w.heap.size l := by
  unfold Fb
  rw [h.block _ (by simp)]
  show (w.heap.push _)[w.heap.size]? = _
  simp

set_option maxHeartbeats 400000 in
theorem sum_neg (a b s : Int) (c : Bool) (hs : Sz s) (ha : U a) (_ : U b) (w : World) :
    Calls Try.prog 25 #[.int .i64 3, .int .u32 a, .int .u32 b, .bool c, .int .i64 s] w fun e w' => e = .returned (dfA 0 a false s).val ∧ Below w.heap.size w w' := by
  have h0 : U 0 := ⟨by omega, by omega⟩
  have h1 : U 1 := ⟨by omega, by omega⟩
  have k : ∀ w, Calls Try.prog 43 #[.int .u32 0, .int .u32 a, .bool false, .int .i64 s] w fun e w' => e = .returned (dfA 0 a false s).pair ∧ Below w.heap.size w w' := sub_any 0 a s false hs h0 ha
  have hk : (dfA 0 a false s).k = true := rfl
  clear h0 h1
  generalize dfA 0 a false s = A at *
  obtain ⟨x, n, z, v, cc, ok⟩ := A
  obtain rfl : ok = true := hk
  have K := Lib.hid k
  clear k
  unfold An.pair at K
  go_enter Try.func25, Try.ntmps25
  go_wp2_with fail
  refine (K.out _).mono ?_
  rintro e w1 ⟨rfl, hb1⟩
  obtain ⟨hc, hf⟩ := bcell hb1
  have hz : w.heap.size < w1.heap.size := by have := hb1.size; simp at this; omega
  go_wp2
  go_region
  go_wp2
  have hB := (((((((((fb_new (l := [.bool false, .bool false, .bool false, .bool false]) hb1).set 0 (.bool n)).set 1 (.bool z)).set 2 (.bool v)).set 3 (.bool cc)).set 0 (.bool n)).set 1 (.bool z)).set 2 (.bool v)).set 3 (.bool cc))
  have hX : Below w.heap.size w (((((((((w1.setCell ⟨w.heap.size, 0, none⟩ (.bool n)).setCell ⟨w.heap.size, 1, none⟩ (.bool z)).setCell ⟨w.heap.size, 2, none⟩ (.bool v)).setCell ⟨w.heap.size, 3, none⟩ (.bool cc)).setCell ⟨w.heap.size, 0, none⟩ (.bool n)).setCell ⟨w.heap.size, 1, none⟩ (.bool z)).setCell ⟨w.heap.size, 2, none⟩ (.bool v)).setCell ⟨w.heap.size, 3, none⟩ (.bool cc))) := by
    iterate 8 refine Below.setCell ?_ (by simp) _
    exact ((Below.refl _ _).alloc (Nat.le_refl _) _).trans (hb1.mono (by simp))
  generalize ((((((((w1.setCell ⟨w.heap.size, 0, none⟩ (.bool n)).setCell ⟨w.heap.size, 1, none⟩ (.bool z)).setCell ⟨w.heap.size, 2, none⟩ (.bool v)).setCell ⟨w.heap.size, 3, none⟩ (.bool cc)).setCell ⟨w.heap.size, 0, none⟩ (.bool n)).setCell ⟨w.heap.size, 1, none⟩ (.bool z)).setCell ⟨w.heap.size, 2, none⟩ (.bool v)).setCell ⟨w.heap.size, 3, none⟩ (.bool cc)) = W at hB hX ⊢
  have r0 := hB.cell 0 _ rfl
  have r1 := hB.cell 1 _ rfl
  have r2 := hB.cell 2 _ rfl
  have r3 := hB.cell 3 _ rfl
  exact bodyPost_ret (v := .tuple #[.int .u32 x, .agg #[.bool n, .bool z, .bool v, .bool cc], .bool true]) (by simp [results, Try.results25, go_sem, r0, r1, r2, r3]) rfl ⟨rfl, hX.drew⟩

set_option maxHeartbeats 400000 in
theorem sum_inc (a b s : Int) (c : Bool) (hs : Sz s) (ha : U a) (_ : U b) (w : World) :
    Calls Try.prog 25 #[.int .i64 4, .int .u32 a, .int .u32 b, .bool c, .int .i64 s] w fun e w' => e = .returned (smA a 1 false s).val ∧ Below w.heap.size w w' := by
  have h0 : U 0 := ⟨by omega, by omega⟩
  have h1 : U 1 := ⟨by omega, by omega⟩
  have k : ∀ w, Calls Try.prog 44 #[.int .u32 a, .int .u32 1, .bool false, .int .i64 s] w fun e w' => e = .returned (smA a 1 false s).pair ∧ Below w.heap.size w w' := add_any a 1 s false hs ha h1
  have hk : (smA a 1 false s).k = true := rfl
  clear h0 h1
  generalize smA a 1 false s = A at *
  obtain ⟨x, n, z, v, cc, ok⟩ := A
  obtain rfl : ok = true := hk
  have K := Lib.hid k
  clear k
  unfold An.pair at K
  go_enter Try.func25, Try.ntmps25
  go_wp2_with fail
  refine (K.out _).mono ?_
  rintro e w1 ⟨rfl, hb1⟩
  obtain ⟨hc, hf⟩ := bcell hb1
  have hz : w.heap.size < w1.heap.size := by have := hb1.size; simp at this; omega
  go_wp2
  go_region
  go_wp2
  have hB := (((((((((fb_new (l := [.bool false, .bool false, .bool false, .bool false]) hb1).set 0 (.bool n)).set 1 (.bool z)).set 2 (.bool v)).set 3 (.bool cc)).set 0 (.bool n)).set 1 (.bool z)).set 2 (.bool v)).set 3 (.bool cc))
  have hX : Below w.heap.size w (((((((((w1.setCell ⟨w.heap.size, 0, none⟩ (.bool n)).setCell ⟨w.heap.size, 1, none⟩ (.bool z)).setCell ⟨w.heap.size, 2, none⟩ (.bool v)).setCell ⟨w.heap.size, 3, none⟩ (.bool cc)).setCell ⟨w.heap.size, 0, none⟩ (.bool n)).setCell ⟨w.heap.size, 1, none⟩ (.bool z)).setCell ⟨w.heap.size, 2, none⟩ (.bool v)).setCell ⟨w.heap.size, 3, none⟩ (.bool cc))) := by
    iterate 8 refine Below.setCell ?_ (by simp) _
    exact ((Below.refl _ _).alloc (Nat.le_refl _) _).trans (hb1.mono (by simp))
  generalize ((((((((w1.setCell ⟨w.heap.size, 0, none⟩ (.bool n)).setCell ⟨w.heap.size, 1, none⟩ (.bool z)).setCell ⟨w.heap.size, 2, none⟩ (.bool v)).setCell ⟨w.heap.size, 3, none⟩ (.bool cc)).setCell ⟨w.heap.size, 0, none⟩ (.bool n)).setCell ⟨w.heap.size, 1, none⟩ (.bool z)).setCell ⟨w.heap.size, 2, none⟩ (.bool v)).setCell ⟨w.heap.size, 3, none⟩ (.bool cc)) = W at hB hX ⊢
  have r0 := hB.cell 0 _ rfl
  have r1 := hB.cell 1 _ rfl
  have r2 := hB.cell 2 _ rfl
  have r3 := hB.cell 3 _ rfl
  exact bodyPost_ret (v := .tuple #[.int .u32 x, .agg #[.bool n, .bool z, .bool v, .bool cc], .bool true]) (by simp [results, Try.results25, go_sem, r0, r1, r2, r3]) rfl ⟨rfl, hX.drew⟩

set_option maxHeartbeats 400000 in
theorem sum_dec (a b s : Int) (c : Bool) (hs : Sz s) (ha : U a) (_ : U b) (w : World) :
    Calls Try.prog 25 #[.int .i64 5, .int .u32 a, .int .u32 b, .bool c, .int .i64 s] w fun e w' => e = .returned (dfA a 1 false s).val ∧ Below w.heap.size w w' := by
  have h0 : U 0 := ⟨by omega, by omega⟩
  have h1 : U 1 := ⟨by omega, by omega⟩
  have k : ∀ w, Calls Try.prog 43 #[.int .u32 a, .int .u32 1, .bool false, .int .i64 s] w fun e w' => e = .returned (dfA a 1 false s).pair ∧ Below w.heap.size w w' := sub_any a 1 s false hs ha h1
  have hk : (dfA a 1 false s).k = true := rfl
  clear h0 h1
  generalize dfA a 1 false s = A at *
  obtain ⟨x, n, z, v, cc, ok⟩ := A
  obtain rfl : ok = true := hk
  have K := Lib.hid k
  clear k
  unfold An.pair at K
  go_enter Try.func25, Try.ntmps25
  go_wp2_with fail
  refine (K.out _).mono ?_
  rintro e w1 ⟨rfl, hb1⟩
  obtain ⟨hc, hf⟩ := bcell hb1
  have hz : w.heap.size < w1.heap.size := by have := hb1.size; simp at this; omega
  go_wp2
  go_region
  go_wp2
  have hB := (((((((((fb_new (l := [.bool false, .bool false, .bool false, .bool false]) hb1).set 0 (.bool n)).set 1 (.bool z)).set 2 (.bool v)).set 3 (.bool cc)).set 0 (.bool n)).set 1 (.bool z)).set 2 (.bool v)).set 3 (.bool cc))
  have hX : Below w.heap.size w (((((((((w1.setCell ⟨w.heap.size, 0, none⟩ (.bool n)).setCell ⟨w.heap.size, 1, none⟩ (.bool z)).setCell ⟨w.heap.size, 2, none⟩ (.bool v)).setCell ⟨w.heap.size, 3, none⟩ (.bool cc)).setCell ⟨w.heap.size, 0, none⟩ (.bool n)).setCell ⟨w.heap.size, 1, none⟩ (.bool z)).setCell ⟨w.heap.size, 2, none⟩ (.bool v)).setCell ⟨w.heap.size, 3, none⟩ (.bool cc))) := by
    iterate 8 refine Below.setCell ?_ (by simp) _
    exact ((Below.refl _ _).alloc (Nat.le_refl _) _).trans (hb1.mono (by simp))
  generalize ((((((((w1.setCell ⟨w.heap.size, 0, none⟩ (.bool n)).setCell ⟨w.heap.size, 1, none⟩ (.bool z)).setCell ⟨w.heap.size, 2, none⟩ (.bool v)).setCell ⟨w.heap.size, 3, none⟩ (.bool cc)).setCell ⟨w.heap.size, 0, none⟩ (.bool n)).setCell ⟨w.heap.size, 1, none⟩ (.bool z)).setCell ⟨w.heap.size, 2, none⟩ (.bool v)).setCell ⟨w.heap.size, 3, none⟩ (.bool cc)) = W at hB hX ⊢
  have r0 := hB.cell 0 _ rfl
  have r1 := hB.cell 1 _ rfl
  have r2 := hB.cell 2 _ rfl
  have r3 := hB.cell 3 _ rfl
  exact bodyPost_ret (v := .tuple #[.int .u32 x, .agg #[.bool n, .bool z, .bool v, .bool cc], .bool true]) (by simp [results, Try.results25, go_sem, r0, r1, r2, r3]) rfl ⟨rfl, hX.drew⟩

set_option maxHeartbeats 400000 in
theorem sum_add (a b s : Int) (c : Bool) (hs : Sz s) (ha : U a) (hb : U b) (w : World) :
    Calls Try.prog 25 #[.int .i64 6, .int .u32 a, .int .u32 b, .bool c, .int .i64 s] w fun e w' => e = .returned (smA b a false s).val ∧ Below w.heap.size w w' := by
  have h0 : U 0 := ⟨by omega, by omega⟩
  have h1 : U 1 := ⟨by omega, by omega⟩
  have k : ∀ w, Calls Try.prog 44 #[.int .u32 b, .int .u32 a, .bool false, .int .i64 s] w fun e w' => e = .returned (smA b a false s).pair ∧ Below w.heap.size w w' := add_any b a s false hs hb ha
  have hk : (smA b a false s).k = true := rfl
  clear h0 h1
  generalize smA b a false s = A at *
  obtain ⟨x, n, z, v, cc, ok⟩ := A
  obtain rfl : ok = true := hk
  have K := Lib.hid k
  clear k
  unfold An.pair at K
  go_enter Try.func25, Try.ntmps25
  go_wp2_with fail
  refine (K.out _).mono ?_
  rintro e w1 ⟨rfl, hb1⟩
  obtain ⟨hc, hf⟩ := bcell hb1
  have hz : w.heap.size < w1.heap.size := by have := hb1.size; simp at this; omega
  go_wp2
  go_region
  go_wp2
  have hB := (((((((((fb_new (l := [.bool false, .bool false, .bool false, .bool false]) hb1).set 0 (.bool n)).set 1 (.bool z)).set 2 (.bool v)).set 3 (.bool cc)).set 0 (.bool n)).set 1 (.bool z)).set 2 (.bool v)).set 3 (.bool cc))
  have hX : Below w.heap.size w (((((((((w1.setCell ⟨w.heap.size, 0, none⟩ (.bool n)).setCell ⟨w.heap.size, 1, none⟩ (.bool z)).setCell ⟨w.heap.size, 2, none⟩ (.bool v)).setCell ⟨w.heap.size, 3, none⟩ (.bool cc)).setCell ⟨w.heap.size, 0, none⟩ (.bool n)).setCell ⟨w.heap.size, 1, none⟩ (.bool z)).setCell ⟨w.heap.size, 2, none⟩ (.bool v)).setCell ⟨w.heap.size, 3, none⟩ (.bool cc))) := by
    iterate 8 refine Below.setCell ?_ (by simp) _
    exact ((Below.refl _ _).alloc (Nat.le_refl _) _).trans (hb1.mono (by simp))
  generalize ((((((((w1.setCell ⟨w.heap.size, 0, none⟩ (.bool n)).setCell ⟨w.heap.size, 1, none⟩ (.bool z)).setCell ⟨w.heap.size, 2, none⟩ (.bool v)).setCell ⟨w.heap.size, 3, none⟩ (.bool cc)).setCell ⟨w.heap.size, 0, none⟩ (.bool n)).setCell ⟨w.heap.size, 1, none⟩ (.bool z)).setCell ⟨w.heap.size, 2, none⟩ (.bool v)).setCell ⟨w.heap.size, 3, none⟩ (.bool cc)) = W at hB hX ⊢
  have r0 := hB.cell 0 _ rfl
  have r1 := hB.cell 1 _ rfl
  have r2 := hB.cell 2 _ rfl
  have r3 := hB.cell 3 _ rfl
  exact bodyPost_ret (v := .tuple #[.int .u32 x, .agg #[.bool n, .bool z, .bool v, .bool cc], .bool true]) (by simp [results, Try.results25, go_sem, r0, r1, r2, r3]) rfl ⟨rfl, hX.drew⟩

set_option maxHeartbeats 400000 in
theorem sum_sub (a b s : Int) (c : Bool) (hs : Sz s) (ha : U a) (hb : U b) (w : World) :
    Calls Try.prog 25 #[.int .i64 7, .int .u32 a, .int .u32 b, .bool c, .int .i64 s] w fun e w' => e = .returned (dfA b a false s).val ∧ Below w.heap.size w w' := by
  have h0 : U 0 := ⟨by omega, by omega⟩
  have h1 : U 1 := ⟨by omega, by omega⟩
  have k : ∀ w, Calls Try.prog 43 #[.int .u32 b, .int .u32 a, .bool false, .int .i64 s] w fun e w' => e = .returned (dfA b a false s).pair ∧ Below w.heap.size w w' := sub_any b a s false hs hb ha
  have hk : (dfA b a false s).k = true := rfl
  clear h0 h1
  generalize dfA b a false s = A at *
  obtain ⟨x, n, z, v, cc, ok⟩ := A
  obtain rfl : ok = true := hk
  have K := Lib.hid k
  clear k
  unfold An.pair at K
  go_enter Try.func25, Try.ntmps25
  go_wp2_with fail
  refine (K.out _).mono ?_
  rintro e w1 ⟨rfl, hb1⟩
  obtain ⟨hc, hf⟩ := bcell hb1
  have hz : w.heap.size < w1.heap.size := by have := hb1.size; simp at this; omega
  go_wp2
  go_region
  go_wp2
  have hB := (((((((((fb_new (l := [.bool false, .bool false, .bool false, .bool false]) hb1).set 0 (.bool n)).set 1 (.bool z)).set 2 (.bool v)).set 3 (.bool cc)).set 0 (.bool n)).set 1 (.bool z)).set 2 (.bool v)).set 3 (.bool cc))
  have hX : Below w.heap.size w (((((((((w1.setCell ⟨w.heap.size, 0, none⟩ (.bool n)).setCell ⟨w.heap.size, 1, none⟩ (.bool z)).setCell ⟨w.heap.size, 2, none⟩ (.bool v)).setCell ⟨w.heap.size, 3, none⟩ (.bool cc)).setCell ⟨w.heap.size, 0, none⟩ (.bool n)).setCell ⟨w.heap.size, 1, none⟩ (.bool z)).setCell ⟨w.heap.size, 2, none⟩ (.bool v)).setCell ⟨w.heap.size, 3, none⟩ (.bool cc))) := by
    iterate 8 refine Below.setCell ?_ (by simp) _
    exact ((Below.refl _ _).alloc (Nat.le_refl _) _).trans (hb1.mono (by simp))
  generalize ((((((((w1.setCell ⟨w.heap.size, 0, none⟩ (.bool n)).setCell ⟨w.heap.size, 1, none⟩ (.bool z)).setCell ⟨w.heap.size, 2, none⟩ (.bool v)).setCell ⟨w.heap.size, 3, none⟩ (.bool cc)).setCell ⟨w.heap.size, 0, none⟩ (.bool n)).setCell ⟨w.heap.size, 1, none⟩ (.bool z)).setCell ⟨w.heap.size, 2, none⟩ (.bool v)).setCell ⟨w.heap.size, 3, none⟩ (.bool cc)) = W at hB hX ⊢
  have r0 := hB.cell 0 _ rfl
  have r1 := hB.cell 1 _ rfl
  have r2 := hB.cell 2 _ rfl
  have r3 := hB.cell 3 _ rfl
  exact bodyPost_ret (v := .tuple #[.int .u32 x, .agg #[.bool n, .bool z, .bool v, .bool cc], .bool true]) (by simp [results, Try.results25, go_sem, r0, r1, r2, r3]) rfl ⟨rfl, hX.drew⟩

set_option maxHeartbeats 400000 in
theorem sum_addc (a b s : Int) (c : Bool) (hs : Sz s) (ha : U a) (hb : U b) (w : World) :
    Calls Try.prog 25 #[.int .i64 8, .int .u32 a, .int .u32 b, .bool c, .int .i64 s] w fun e w' => e = .returned (smA b a c s).val ∧ Below w.heap.size w w' := by
  have h0 : U 0 := ⟨by omega, by omega⟩
  have h1 : U 1 := ⟨by omega, by omega⟩
  have k : ∀ w, Calls Try.prog 44 #[.int .u32 b, .int .u32 a, .bool c, .int .i64 s] w fun e w' => e = .returned (smA b a c s).pair ∧ Below w.heap.size w w' := add_any b a s c hs hb ha
  have hk : (smA b a c s).k = true := rfl
  clear h0 h1
  generalize smA b a c s = A at *
  obtain ⟨x, n, z, v, cc, ok⟩ := A
  obtain rfl : ok = true := hk
  have K := Lib.hid k
  clear k
  unfold An.pair at K
  go_enter Try.func25, Try.ntmps25
  go_wp2_with fail
  refine (K.out _).mono ?_
  rintro e w1 ⟨rfl, hb1⟩
  obtain ⟨hc, hf⟩ := bcell hb1
  have hz : w.heap.size < w1.heap.size := by have := hb1.size; simp at this; omega
  go_wp2
  go_region
  go_wp2
  have hB := (((((((((fb_new (l := [.bool false, .bool false, .bool false, .bool false]) hb1).set 0 (.bool n)).set 1 (.bool z)).set 2 (.bool v)).set 3 (.bool cc)).set 0 (.bool n)).set 1 (.bool z)).set 2 (.bool v)).set 3 (.bool cc))
  have hX : Below w.heap.size w (((((((((w1.setCell ⟨w.heap.size, 0, none⟩ (.bool n)).setCell ⟨w.heap.size, 1, none⟩ (.bool z)).setCell ⟨w.heap.size, 2, none⟩ (.bool v)).setCell ⟨w.heap.size, 3, none⟩ (.bool cc)).setCell ⟨w.heap.size, 0, none⟩ (.bool n)).setCell ⟨w.heap.size, 1, none⟩ (.bool z)).setCell ⟨w.heap.size, 2, none⟩ (.bool v)).setCell ⟨w.heap.size, 3, none⟩ (.bool cc))) := by
    iterate 8 refine Below.setCell ?_ (by simp) _
    exact ((Below.refl _ _).alloc (Nat.le_refl _) _).trans (hb1.mono (by simp))
  generalize ((((((((w1.setCell ⟨w.heap.size, 0, none⟩ (.bool n)).setCell ⟨w.heap.size, 1, none⟩ (.bool z)).setCell ⟨w.heap.size, 2, none⟩ (.bool v)).setCell ⟨w.heap.size, 3, none⟩ (.bool cc)).setCell ⟨w.heap.size, 0, none⟩ (.bool n)).setCell ⟨w.heap.size, 1, none⟩ (.bool z)).setCell ⟨w.heap.size, 2, none⟩ (.bool v)).setCell ⟨w.heap.size, 3, none⟩ (.bool cc)) = W at hB hX ⊢
  have r0 := hB.cell 0 _ rfl
  have r1 := hB.cell 1 _ rfl
  have r2 := hB.cell 2 _ rfl
  have r3 := hB.cell 3 _ rfl
  exact bodyPost_ret (v := .tuple #[.int .u32 x, .agg #[.bool n, .bool z, .bool v, .bool cc], .bool true]) (by simp [results, Try.results25, go_sem, r0, r1, r2, r3]) rfl ⟨rfl, hX.drew⟩

set_option maxHeartbeats 400000 in
theorem sum_subc (a b s : Int) (c : Bool) (hs : Sz s) (ha : U a) (hb : U b) (w : World) :
    Calls Try.prog 25 #[.int .i64 9, .int .u32 a, .int .u32 b, .bool c, .int .i64 s] w fun e w' => e = .returned (dfA b a c s).val ∧ Below w.heap.size w w' := by
  have h0 : U 0 := ⟨by omega, by omega⟩
  have h1 : U 1 := ⟨by omega, by omega⟩
  have k : ∀ w, Calls Try.prog 43 #[.int .u32 b, .int .u32 a, .bool c, .int .i64 s] w fun e w' => e = .returned (dfA b a c s).pair ∧ Below w.heap.size w w' := sub_any b a s c hs hb ha
  have hk : (dfA b a c s).k = true := rfl
  clear h0 h1
  generalize dfA b a c s = A at *
  obtain ⟨x, n, z, v, cc, ok⟩ := A
  obtain rfl : ok = true := hk
  have K := Lib.hid k
  clear k
  unfold An.pair at K
  go_enter Try.func25, Try.ntmps25
  go_wp2_with fail
  refine (K.out _).mono ?_
  rintro e w1 ⟨rfl, hb1⟩
  obtain ⟨hc, hf⟩ := bcell hb1
  have hz : w.heap.size < w1.heap.size := by have := hb1.size; simp at this; omega
  go_wp2
  go_region
  go_wp2
  have hB := (((((((((fb_new (l := [.bool false, .bool false, .bool false, .bool false]) hb1).set 0 (.bool n)).set 1 (.bool z)).set 2 (.bool v)).set 3 (.bool cc)).set 0 (.bool n)).set 1 (.bool z)).set 2 (.bool v)).set 3 (.bool cc))
  have hX : Below w.heap.size w (((((((((w1.setCell ⟨w.heap.size, 0, none⟩ (.bool n)).setCell ⟨w.heap.size, 1, none⟩ (.bool z)).setCell ⟨w.heap.size, 2, none⟩ (.bool v)).setCell ⟨w.heap.size, 3, none⟩ (.bool cc)).setCell ⟨w.heap.size, 0, none⟩ (.bool n)).setCell ⟨w.heap.size, 1, none⟩ (.bool z)).setCell ⟨w.heap.size, 2, none⟩ (.bool v)).setCell ⟨w.heap.size, 3, none⟩ (.bool cc))) := by
    iterate 8 refine Below.setCell ?_ (by simp) _
    exact ((Below.refl _ _).alloc (Nat.le_refl _) _).trans (hb1.mono (by simp))
  generalize ((((((((w1.setCell ⟨w.heap.size, 0, none⟩ (.bool n)).setCell ⟨w.heap.size, 1, none⟩ (.bool z)).setCell ⟨w.heap.size, 2, none⟩ (.bool v)).setCell ⟨w.heap.size, 3, none⟩ (.bool cc)).setCell ⟨w.heap.size, 0, none⟩ (.bool n)).setCell ⟨w.heap.size, 1, none⟩ (.bool z)).setCell ⟨w.heap.size, 2, none⟩ (.bool v)).setCell ⟨w.heap.size, 3, none⟩ (.bool cc)) = W at hB hX ⊢
  have r0 := hB.cell 0 _ rfl
  have r1 := hB.cell 1 _ rfl
  have r2 := hB.cell 2 _ rfl
  have r3 := hB.cell 3 _ rfl
  exact bodyPost_ret (v := .tuple #[.int .u32 x, .agg #[.bool n, .bool z, .bool v, .bool cc], .bool true]) (by simp [results, Try.results25, go_sem, r0, r1, r2, r3]) rfl ⟨rfl, hX.drew⟩

set_option maxHeartbeats 400000 in
theorem sum_mul (a b s : Int) (c : Bool) (hs : Sz s) (ha : U a) (hb : U b) (w : World) :
    Calls Try.prog 25 #[.int .i64 10, .int .u32 a, .int .u32 b, .bool c, .int .i64 s] w fun e w' => e = .returned (mlA b a s).val ∧ Below w.heap.size w w' := by
  have h0 : U 0 := ⟨by omega, by omega⟩
  have h1 : U 1 := ⟨by omega, by omega⟩
  have k : ∀ w, Calls Try.prog 45 #[.int .u32 b, .int .u32 a, .int .i64 s] w fun e w' => e = .returned (mlA b a s).pair ∧ Below w.heap.size w w' := mul_any b a s hs hb ha
  have hk : (mlA b a s).k = true := rfl
  clear h0 h1
  generalize mlA b a s = A at *
  obtain ⟨x, n, z, v, cc, ok⟩ := A
  obtain rfl : ok = true := hk
  have K := Lib.hid k
  clear k
  unfold An.pair at K
  go_enter Try.func25, Try.ntmps25
  go_wp2_with fail
  refine (K.out _).mono ?_
  rintro e w1 ⟨rfl, hb1⟩
  obtain ⟨hc, hf⟩ := bcell hb1
  have hz : w.heap.size < w1.heap.size := by have := hb1.size; simp at this; omega
  go_wp2
  go_region
  go_wp2
  have hB := (((((((((fb_new (l := [.bool false, .bool false, .bool false, .bool false]) hb1).set 0 (.bool n)).set 1 (.bool z)).set 2 (.bool v)).set 3 (.bool cc)).set 0 (.bool n)).set 1 (.bool z)).set 2 (.bool v)).set 3 (.bool cc))
  have hX : Below w.heap.size w (((((((((w1.setCell ⟨w.heap.size, 0, none⟩ (.bool n)).setCell ⟨w.heap.size, 1, none⟩ (.bool z)).setCell ⟨w.heap.size, 2, none⟩ (.bool v)).setCell ⟨w.heap.size, 3, none⟩ (.bool cc)).setCell ⟨w.heap.size, 0, none⟩ (.bool n)).setCell ⟨w.heap.size, 1, none⟩ (.bool z)).setCell ⟨w.heap.size, 2, none⟩ (.bool v)).setCell ⟨w.heap.size, 3, none⟩ (.bool cc))) := by
    iterate 8 refine Below.setCell ?_ (by simp) _
    exact ((Below.refl _ _).alloc (Nat.le_refl _) _).trans (hb1.mono (by simp))
  generalize ((((((((w1.setCell ⟨w.heap.size, 0, none⟩ (.bool n)).setCell ⟨w.heap.size, 1, none⟩ (.bool z)).setCell ⟨w.heap.size, 2, none⟩ (.bool v)).setCell ⟨w.heap.size, 3, none⟩ (.bool cc)).setCell ⟨w.heap.size, 0, none⟩ (.bool n)).setCell ⟨w.heap.size, 1, none⟩ (.bool z)).setCell ⟨w.heap.size, 2, none⟩ (.bool v)).setCell ⟨w.heap.size, 3, none⟩ (.bool cc)) = W at hB hX ⊢
  have r0 := hB.cell 0 _ rfl
  have r1 := hB.cell 1 _ rfl
  have r2 := hB.cell 2 _ rfl
  have r3 := hB.cell 3 _ rfl
  exact bodyPost_ret (v := .tuple #[.int .u32 x, .agg #[.bool n, .bool z, .bool v, .bool cc], .bool true]) (by simp [results, Try.results25, go_sem, r0, r1, r2, r3]) rfl ⟨rfl, hX.drew⟩

set_option maxHeartbeats 400000 in
theorem sum_none (op a b s : Int) (c : Bool) (h : op < 3 ∨ 10 < op) (w : World) :
    Calls Try.prog 25 #[.int .i64 op, .int .u32 a, .int .u32 b, .bool c, .int .i64 s] w fun e w' => e = .returned noA.val ∧ Below w.heap.size w w' := by
  have k3 : (op == 3) = false := by simp; omega
  have k4 : (op == 4) = false := by simp; omega
  have k5 : (op == 5) = false := by simp; omega
  have k6 : (op == 6) = false := by simp; omega
  have k7 : (op == 7) = false := by simp; omega
  have k8 : (op == 8) = false := by simp; omega
  have k9 : (op == 9) = false := by simp; omega
  have k10 : (op == 10) = false := by simp; omega
  clear h
  go_enter Try.func25, Try.ntmps25
  go_wp2
  exact bodyPost_ret (v := noA.val) (by simp [results, Try.results25, go_sem, noA, An.val]) rfl ⟨rfl, by
    repeat refine Below.setCell ?_ (by simp) _
    exact (Below.refl _ _).alloc (Nat.le_refl _) _⟩

end Go.Proofs.Ytfninhgjejdafaa.Cs
