/- Contract of the document's Do. -/
import Derived.Test.YtfninhgjejdafaaADo
namespace Go.Proofs.Ytfninhgjejdafaa.Cs
open Go.RowKit

set_option maxRecDepth 100000 in
set_option maxHeartbeats 1000000 in
theorem rdo_neg (a b s : Int) (c : Bool) (hs : Sz s) (ha : U a) (_ : U b) (w : World) :
    Calls Try.prog 12 #[.int .i64 3, .int .u32 a, .int .u32 b, .bool c, .int .i64 s] w fun e w' => e = .returned (dfA 0 a false s).val ∧ Below w.heap.size w w' := by
  have h0 : U 0 := ⟨by omega, by omega⟩
  have h1 : U 1 := ⟨by omega, by omega⟩
  have k : ∀ w, Calls Try.prog 29 #[.int .u32 0, .int .u32 a, .bool false, .int .i64 s] w fun e w' => e = .returned (dfA 0 a false s).pair ∧ Below w.heap.size w w' := rsub_any 0 a s false hs h0 ha
  have hk : (dfA 0 a false s).k = true := rfl
  clear h0 h1
  generalize dfA 0 a false s = A at *
  obtain ⟨x, n, z, v, cc, ok⟩ := A
  obtain rfl : ok = true := hk
  have K := Lib.hid k
  clear k
  unfold An.pair at K
  have KL := Lib.hid (rlogic_any 3)
  have hr := rest_bound hs a
  go_enter Try.func12, Try.ntmps12
  go_wp2_with (first | (go_at_call 14; refine (KL.out _).mono ?_; rintro e w' ⟨rfl, rfl⟩) | (go_at_call 19; refine (rest_any _ _ hs ha _).mono ?_; rintro e w' ⟨rfl, rfl⟩) | fail)
  refine (K.out _).mono ?_
  rintro e w1 ⟨rfl, hb1⟩
  obtain ⟨hc, hf⟩ := bcell hb1
  have hz : w.heap.size < w1.heap.size := by have := hb1.size; simp at this; omega
  go_wp2
  go_region
  go_wp2
  exact bodyPost_ret (v := .tuple #[.int .u32 x, .agg #[.bool n, .bool z, .bool v, .bool cc], .bool true]) (by simp [results, Try.results12, go_sem, hc, hz]) rfl ⟨rfl, by
    refine Below.drew (Below.alloc ?_ (by simp; omega) _)
    iterate 4 refine Below.setCell ?_ (by simp) _
    exact ((Below.refl _ _).alloc (Nat.le_refl _) _).trans (hb1.mono (by simp))⟩

set_option maxRecDepth 100000 in
set_option maxHeartbeats 1000000 in
theorem rdo_inc (a b s : Int) (c : Bool) (hs : Sz s) (ha : U a) (_ : U b) (w : World) :
    Calls Try.prog 12 #[.int .i64 4, .int .u32 a, .int .u32 b, .bool c, .int .i64 s] w fun e w' => e = .returned (smA a 1 false s).val ∧ Below w.heap.size w w' := by
  have h0 : U 0 := ⟨by omega, by omega⟩
  have h1 : U 1 := ⟨by omega, by omega⟩
  have k : ∀ w, Calls Try.prog 30 #[.int .u32 a, .int .u32 1, .bool false, .int .i64 s] w fun e w' => e = .returned (smA a 1 false s).pair ∧ Below w.heap.size w w' := radd_any a 1 s false hs ha h1
  have hk : (smA a 1 false s).k = true := rfl
  clear h0 h1
  generalize smA a 1 false s = A at *
  obtain ⟨x, n, z, v, cc, ok⟩ := A
  obtain rfl : ok = true := hk
  have K := Lib.hid k
  clear k
  unfold An.pair at K
  have KL := Lib.hid (rlogic_any 4)
  have hr := rest_bound hs a
  go_enter Try.func12, Try.ntmps12
  go_wp2_with (first | (go_at_call 14; refine (KL.out _).mono ?_; rintro e w' ⟨rfl, rfl⟩) | (go_at_call 19; refine (rest_any _ _ hs ha _).mono ?_; rintro e w' ⟨rfl, rfl⟩) | fail)
  refine (K.out _).mono ?_
  rintro e w1 ⟨rfl, hb1⟩
  obtain ⟨hc, hf⟩ := bcell hb1
  have hz : w.heap.size < w1.heap.size := by have := hb1.size; simp at this; omega
  go_wp2
  go_region
  go_wp2
  exact bodyPost_ret (v := .tuple #[.int .u32 x, .agg #[.bool n, .bool z, .bool v, .bool cc], .bool true]) (by simp [results, Try.results12, go_sem, hc, hz]) rfl ⟨rfl, by
    refine Below.drew (Below.alloc ?_ (by simp; omega) _)
    iterate 4 refine Below.setCell ?_ (by simp) _
    exact ((Below.refl _ _).alloc (Nat.le_refl _) _).trans (hb1.mono (by simp))⟩

set_option maxRecDepth 100000 in
set_option maxHeartbeats 1000000 in
theorem rdo_dec (a b s : Int) (c : Bool) (hs : Sz s) (ha : U a) (_ : U b) (w : World) :
    Calls Try.prog 12 #[.int .i64 5, .int .u32 a, .int .u32 b, .bool c, .int .i64 s] w fun e w' => e = .returned (dfA a 1 false s).val ∧ Below w.heap.size w w' := by
  have h0 : U 0 := ⟨by omega, by omega⟩
  have h1 : U 1 := ⟨by omega, by omega⟩
  have k : ∀ w, Calls Try.prog 29 #[.int .u32 a, .int .u32 1, .bool false, .int .i64 s] w fun e w' => e = .returned (dfA a 1 false s).pair ∧ Below w.heap.size w w' := rsub_any a 1 s false hs ha h1
  have hk : (dfA a 1 false s).k = true := rfl
  clear h0 h1
  generalize dfA a 1 false s = A at *
  obtain ⟨x, n, z, v, cc, ok⟩ := A
  obtain rfl : ok = true := hk
  have K := Lib.hid k
  clear k
  unfold An.pair at K
  have KL := Lib.hid (rlogic_any 5)
  have hr := rest_bound hs a
  go_enter Try.func12, Try.ntmps12
  go_wp2_with (first | (go_at_call 14; refine (KL.out _).mono ?_; rintro e w' ⟨rfl, rfl⟩) | (go_at_call 19; refine (rest_any _ _ hs ha _).mono ?_; rintro e w' ⟨rfl, rfl⟩) | fail)
  refine (K.out _).mono ?_
  rintro e w1 ⟨rfl, hb1⟩
  obtain ⟨hc, hf⟩ := bcell hb1
  have hz : w.heap.size < w1.heap.size := by have := hb1.size; simp at this; omega
  go_wp2
  go_region
  go_wp2
  exact bodyPost_ret (v := .tuple #[.int .u32 x, .agg #[.bool n, .bool z, .bool v, .bool cc], .bool true]) (by simp [results, Try.results12, go_sem, hc, hz]) rfl ⟨rfl, by
    refine Below.drew (Below.alloc ?_ (by simp; omega) _)
    iterate 4 refine Below.setCell ?_ (by simp) _
    exact ((Below.refl _ _).alloc (Nat.le_refl _) _).trans (hb1.mono (by simp))⟩

set_option maxRecDepth 100000 in
set_option maxHeartbeats 1000000 in
theorem rdo_add (a b s : Int) (c : Bool) (hs : Sz s) (ha : U a) (hb : U b) (w : World) :
    Calls Try.prog 12 #[.int .i64 6, .int .u32 a, .int .u32 b, .bool c, .int .i64 s] w fun e w' => e = .returned (smA b a false s).val ∧ Below w.heap.size w w' := by
  have h0 : U 0 := ⟨by omega, by omega⟩
  have h1 : U 1 := ⟨by omega, by omega⟩
  have k : ∀ w, Calls Try.prog 30 #[.int .u32 b, .int .u32 a, .bool false, .int .i64 s] w fun e w' => e = .returned (smA b a false s).pair ∧ Below w.heap.size w w' := radd_any b a s false hs hb ha
  have hk : (smA b a false s).k = true := rfl
  clear h0 h1
  generalize smA b a false s = A at *
  obtain ⟨x, n, z, v, cc, ok⟩ := A
  obtain rfl : ok = true := hk
  have K := Lib.hid k
  clear k
  unfold An.pair at K
  have KL := Lib.hid (rlogic_any 6)
  have hr := rest_bound hs a
  go_enter Try.func12, Try.ntmps12
  go_wp2_with (first | (go_at_call 14; refine (KL.out _).mono ?_; rintro e w' ⟨rfl, rfl⟩) | (go_at_call 19; refine (rest_any _ _ hs ha _).mono ?_; rintro e w' ⟨rfl, rfl⟩) | fail)
  refine (K.out _).mono ?_
  rintro e w1 ⟨rfl, hb1⟩
  obtain ⟨hc, hf⟩ := bcell hb1
  have hz : w.heap.size < w1.heap.size := by have := hb1.size; simp at this; omega
  go_wp2
  go_region
  go_wp2
  exact bodyPost_ret (v := .tuple #[.int .u32 x, .agg #[.bool n, .bool z, .bool v, .bool cc], .bool true]) (by simp [results, Try.results12, go_sem, hc, hz]) rfl ⟨rfl, by
    refine Below.drew (Below.alloc ?_ (by simp; omega) _)
    iterate 4 refine Below.setCell ?_ (by simp) _
    exact ((Below.refl _ _).alloc (Nat.le_refl _) _).trans (hb1.mono (by simp))⟩

set_option maxRecDepth 100000 in
set_option maxHeartbeats 1000000 in
theorem rdo_sub (a b s : Int) (c : Bool) (hs : Sz s) (ha : U a) (hb : U b) (w : World) :
    Calls Try.prog 12 #[.int .i64 7, .int .u32 a, .int .u32 b, .bool c, .int .i64 s] w fun e w' => e = .returned (dfA b a false s).val ∧ Below w.heap.size w w' := by
  have h0 : U 0 := ⟨by omega, by omega⟩
  have h1 : U 1 := ⟨by omega, by omega⟩
  have k : ∀ w, Calls Try.prog 29 #[.int .u32 b, .int .u32 a, .bool false, .int .i64 s] w fun e w' => e = .returned (dfA b a false s).pair ∧ Below w.heap.size w w' := rsub_any b a s false hs hb ha
  have hk : (dfA b a false s).k = true := rfl
  clear h0 h1
  generalize dfA b a false s = A at *
  obtain ⟨x, n, z, v, cc, ok⟩ := A
  obtain rfl : ok = true := hk
  have K := Lib.hid k
  clear k
  unfold An.pair at K
  have KL := Lib.hid (rlogic_any 7)
  have hr := rest_bound hs a
  go_enter Try.func12, Try.ntmps12
  go_wp2_with (first | (go_at_call 14; refine (KL.out _).mono ?_; rintro e w' ⟨rfl, rfl⟩) | (go_at_call 19; refine (rest_any _ _ hs ha _).mono ?_; rintro e w' ⟨rfl, rfl⟩) | fail)
  refine (K.out _).mono ?_
  rintro e w1 ⟨rfl, hb1⟩
  obtain ⟨hc, hf⟩ := bcell hb1
  have hz : w.heap.size < w1.heap.size := by have := hb1.size; simp at this; omega
  go_wp2
  go_region
  go_wp2
  exact bodyPost_ret (v := .tuple #[.int .u32 x, .agg #[.bool n, .bool z, .bool v, .bool cc], .bool true]) (by simp [results, Try.results12, go_sem, hc, hz]) rfl ⟨rfl, by
    refine Below.drew (Below.alloc ?_ (by simp; omega) _)
    iterate 4 refine Below.setCell ?_ (by simp) _
    exact ((Below.refl _ _).alloc (Nat.le_refl _) _).trans (hb1.mono (by simp))⟩

set_option maxRecDepth 100000 in
set_option maxHeartbeats 1000000 in
theorem rdo_addc (a b s : Int) (c : Bool) (hs : Sz s) (ha : U a) (hb : U b) (w : World) :
    Calls Try.prog 12 #[.int .i64 8, .int .u32 a, .int .u32 b, .bool c, .int .i64 s] w fun e w' => e = .returned (smA b a c s).val ∧ Below w.heap.size w w' := by
  have h0 : U 0 := ⟨by omega, by omega⟩
  have h1 : U 1 := ⟨by omega, by omega⟩
  have k : ∀ w, Calls Try.prog 30 #[.int .u32 b, .int .u32 a, .bool c, .int .i64 s] w fun e w' => e = .returned (smA b a c s).pair ∧ Below w.heap.size w w' := radd_any b a s c hs hb ha
  have hk : (smA b a c s).k = true := rfl
  clear h0 h1
  generalize smA b a c s = A at *
  obtain ⟨x, n, z, v, cc, ok⟩ := A
  obtain rfl : ok = true := hk
  have K := Lib.hid k
  clear k
  unfold An.pair at K
  have KL := Lib.hid (rlogic_any 8)
  have hr := rest_bound hs a
  go_enter Try.func12, Try.ntmps12
  go_wp2_with (first | (go_at_call 14; refine (KL.out _).mono ?_; rintro e w' ⟨rfl, rfl⟩) | (go_at_call 19; refine (rest_any _ _ hs ha _).mono ?_; rintro e w' ⟨rfl, rfl⟩) | fail)
  refine (K.out _).mono ?_
  rintro e w1 ⟨rfl, hb1⟩
  obtain ⟨hc, hf⟩ := bcell hb1
  have hz : w.heap.size < w1.heap.size := by have := hb1.size; simp at this; omega
  go_wp2
  go_region
  go_wp2
  exact bodyPost_ret (v := .tuple #[.int .u32 x, .agg #[.bool n, .bool z, .bool v, .bool cc], .bool true]) (by simp [results, Try.results12, go_sem, hc, hz]) rfl ⟨rfl, by
    refine Below.drew (Below.alloc ?_ (by simp; omega) _)
    iterate 4 refine Below.setCell ?_ (by simp) _
    exact ((Below.refl _ _).alloc (Nat.le_refl _) _).trans (hb1.mono (by simp))⟩

set_option maxRecDepth 100000 in
set_option maxHeartbeats 1000000 in
theorem rdo_subc (a b s : Int) (c : Bool) (hs : Sz s) (ha : U a) (hb : U b) (w : World) :
    Calls Try.prog 12 #[.int .i64 9, .int .u32 a, .int .u32 b, .bool c, .int .i64 s] w fun e w' => e = .returned (dfA b a c s).val ∧ Below w.heap.size w w' := by
  have h0 : U 0 := ⟨by omega, by omega⟩
  have h1 : U 1 := ⟨by omega, by omega⟩
  have k : ∀ w, Calls Try.prog 29 #[.int .u32 b, .int .u32 a, .bool c, .int .i64 s] w fun e w' => e = .returned (dfA b a c s).pair ∧ Below w.heap.size w w' := rsub_any b a s c hs hb ha
  have hk : (dfA b a c s).k = true := rfl
  clear h0 h1
  generalize dfA b a c s = A at *
  obtain ⟨x, n, z, v, cc, ok⟩ := A
  obtain rfl : ok = true := hk
  have K := Lib.hid k
  clear k
  unfold An.pair at K
  have KL := Lib.hid (rlogic_any 9)
  have hr := rest_bound hs a
  go_enter Try.func12, Try.ntmps12
  go_wp2_with (first | (go_at_call 14; refine (KL.out _).mono ?_; rintro e w' ⟨rfl, rfl⟩) | (go_at_call 19; refine (rest_any _ _ hs ha _).mono ?_; rintro e w' ⟨rfl, rfl⟩) | fail)
  refine (K.out _).mono ?_
  rintro e w1 ⟨rfl, hb1⟩
  obtain ⟨hc, hf⟩ := bcell hb1
  have hz : w.heap.size < w1.heap.size := by have := hb1.size; simp at this; omega
  go_wp2
  go_region
  go_wp2
  exact bodyPost_ret (v := .tuple #[.int .u32 x, .agg #[.bool n, .bool z, .bool v, .bool cc], .bool true]) (by simp [results, Try.results12, go_sem, hc, hz]) rfl ⟨rfl, by
    refine Below.drew (Below.alloc ?_ (by simp; omega) _)
    iterate 4 refine Below.setCell ?_ (by simp) _
    exact ((Below.refl _ _).alloc (Nat.le_refl _) _).trans (hb1.mono (by simp))⟩

set_option maxRecDepth 100000 in
set_option maxHeartbeats 1000000 in
theorem rdo_mul (a b s : Int) (c : Bool) (hs : Sz s) (ha : U a) (hb : U b) (w : World) :
    Calls Try.prog 12 #[.int .i64 10, .int .u32 a, .int .u32 b, .bool c, .int .i64 s] w fun e w' => e = .returned (mlA b a s).val ∧ Below w.heap.size w w' := by
  have h0 : U 0 := ⟨by omega, by omega⟩
  have h1 : U 1 := ⟨by omega, by omega⟩
  have k : ∀ w, Calls Try.prog 31 #[.int .u32 b, .int .u32 a, .int .i64 s] w fun e w' => e = .returned (mlA b a s).pair ∧ Below w.heap.size w w' := rmul_any b a s hs hb ha
  have hk : (mlA b a s).k = true := rfl
  clear h0 h1
  generalize mlA b a s = A at *
  obtain ⟨x, n, z, v, cc, ok⟩ := A
  obtain rfl : ok = true := hk
  have K := Lib.hid k
  clear k
  unfold An.pair at K
  have KL := Lib.hid (rlogic_any 10)
  have hr := rest_bound hs a
  go_enter Try.func12, Try.ntmps12
  go_wp2_with (first | (go_at_call 14; refine (KL.out _).mono ?_; rintro e w' ⟨rfl, rfl⟩) | (go_at_call 19; refine (rest_any _ _ hs ha _).mono ?_; rintro e w' ⟨rfl, rfl⟩) | fail)
  refine (K.out _).mono ?_
  rintro e w1 ⟨rfl, hb1⟩
  obtain ⟨hc, hf⟩ := bcell hb1
  have hz : w.heap.size < w1.heap.size := by have := hb1.size; simp at this; omega
  go_wp2
  go_region
  go_wp2
  exact bodyPost_ret (v := .tuple #[.int .u32 x, .agg #[.bool n, .bool z, .bool v, .bool cc], .bool true]) (by simp [results, Try.results12, go_sem, hc, hz]) rfl ⟨rfl, by
    refine Below.drew (Below.alloc ?_ (by simp; omega) _)
    iterate 4 refine Below.setCell ?_ (by simp) _
    exact ((Below.refl _ _).alloc (Nat.le_refl _) _).trans (hb1.mono (by simp))⟩

set_option maxRecDepth 100000 in
set_option maxHeartbeats 1000000 in
theorem rdo_div (a b s : Int) (c : Bool) (hs : Sz s) (ha : U a) (hb : U b) (w : World) :
    Calls Try.prog 12 #[.int .i64 11, .int .u32 a, .int .u32 b, .bool c, .int .i64 s] w fun e w' => e = .returned (dvA b a s).val ∧ Below w.heap.size w w' := by
  have k : ∀ w, Calls Try.prog 32 #[.int .u32 b, .int .u32 a, .int .i64 s] w fun e w' => e = .returned (dvA b a s).val ∧ Below w.heap.size w w' := rdiv_any b a s hs hb ha
  generalize dvA b a s = A at *
  obtain ⟨x, n, z, v, cc, ok⟩ := A
  have K := Lib.hid k
  clear k
  unfold An.val at *
  have KL := Lib.hid (rlogic_any 11)
  have hr := rest_bound hs a
  go_enter Try.func12, Try.ntmps12
  go_wp2_with (first | (go_at_call 14; refine (KL.out _).mono ?_; rintro e w' ⟨rfl, rfl⟩) | (go_at_call 19; refine (rest_any _ _ hs ha _).mono ?_; rintro e w' ⟨rfl, rfl⟩) | fail)
  refine (K.out _).mono ?_
  rintro e w1 ⟨rfl, hb1⟩
  obtain ⟨hc, hf⟩ := bcell hb1
  have hz : w.heap.size < w1.heap.size := by have := hb1.size; simp at this; omega
  go_wp2
  exact bodyPost_ret (v := .tuple #[.int .u32 x, .agg #[.bool n, .bool z, .bool v, .bool cc], .bool ok]) (by simp [results, Try.results12, go_sem, hc]) rfl ⟨rfl, by
    iterate 4 refine Below.setCell ?_ (by simp) _
    exact ((Below.refl _ _).alloc (Nat.le_refl _) _).trans (hb1.mono (by simp))⟩

set_option maxRecDepth 100000 in
set_option maxHeartbeats 1000000 in
theorem rdo_cmp (a b s : Int) (c : Bool) (hs : Sz s) (ha : U a) (hb : U b) (w : World) :
    Calls Try.prog 12 #[.int .i64 16, .int .u32 a, .int .u32 b, .bool c, .int .i64 s] w fun e w' => e = .returned (cpA a b s).val ∧ Below w.heap.size w w' := by
  have k : ∀ w, Calls Try.prog 33 #[.int .u32 a, .int .u32 b, .int .i64 s] w fun e w' => e = .returned (.agg #[.bool (cpA a b s).n, .bool (cpA a b s).z, .bool (cpA a b s).v, .bool (cpA a b s).c]) ∧ Below w.heap.size w w' := rcompare_any a b s hs ha hb
  have hk : (cpA a b s).k = true := rfl
  have hx : (cpA a b s).x = a % W s := rfl
  generalize cpA a b s = A at *
  obtain ⟨x, n, z, v, cc, ok⟩ := A
  obtain rfl : ok = true := hk
  obtain rfl : x = a % W s := hx
  have K := Lib.hid k
  clear k
  unfold An.val at *
  have KL := Lib.hid (rlogic_any 16)
  have hr := rest_bound hs a
  go_enter Try.func12, Try.ntmps12
  go_wp2_with (first | (go_at_call 14; refine (KL.out _).mono ?_; rintro e w' ⟨rfl, rfl⟩) | (go_at_call 19; refine (rest_any _ _ hs ha _).mono ?_; rintro e w' ⟨rfl, rfl⟩) | fail)
  refine (K.out _).mono ?_
  rintro e w1 ⟨rfl, hb1⟩
  obtain ⟨hc, hf⟩ := bcell hb1
  have hz : w.heap.size < w1.heap.size := by have := hb1.size; simp at this; omega
  go_wp2
  exact bodyPost_ret (v := .tuple #[.int .u32 (a % W s), .agg #[.bool n, .bool z, .bool v, .bool cc], .bool true]) (by simp [results, Try.results12, go_sem, hc]) rfl ⟨rfl, by
    iterate 4 refine Below.setCell ?_ (by simp) _
    exact ((Below.refl _ _).alloc (Nat.le_refl _) _).trans (hb1.mono (by simp))⟩

set_option maxRecDepth 100000 in
set_option maxHeartbeats 1000000 in
theorem rdo_test (a b s : Int) (c : Bool) (hs : Sz s) (ha : U a) (w : World) :
    Calls Try.prog 12 #[.int .i64 17, .int .u32 a, .int .u32 b, .bool c, .int .i64 s] w fun e w' => e = .returned (tsA a s).val ∧ Below w.heap.size w w' := by
  have k : ∀ w, Calls Try.prog 28 #[.int .u32 a, .int .i64 s] w fun e w' => e = .returned (.agg #[.bool (tsA a s).n, .bool (tsA a s).z, .bool (tsA a s).v, .bool (tsA a s).c]) ∧ Below w.heap.size w w' := rsigns_any a s hs ha
  have hk : (tsA a s).k = true := rfl
  have hx : (tsA a s).x = a % W s := rfl
  generalize tsA a s = A at *
  obtain ⟨x, n, z, v, cc, ok⟩ := A
  obtain rfl : ok = true := hk
  obtain rfl : x = a % W s := hx
  have K := Lib.hid k
  clear k
  unfold An.val at *
  have KL := Lib.hid (rlogic_any 17)
  have hr := rest_bound hs a
  go_enter Try.func12, Try.ntmps12
  go_wp2_with (first | (go_at_call 14; refine (KL.out _).mono ?_; rintro e w' ⟨rfl, rfl⟩) | (go_at_call 19; refine (rest_any _ _ hs ha _).mono ?_; rintro e w' ⟨rfl, rfl⟩) | fail)
  refine (K.out _).mono ?_
  rintro e w1 ⟨rfl, hb1⟩
  obtain ⟨hc, hf⟩ := bcell hb1
  have hz : w.heap.size < w1.heap.size := by have := hb1.size; simp at this; omega
  go_wp2
  exact bodyPost_ret (v := .tuple #[.int .u32 (a % W s), .agg #[.bool n, .bool z, .bool v, .bool cc], .bool true]) (by simp [results, Try.results12, go_sem, hc]) rfl ⟨rfl, by
    iterate 4 refine Below.setCell ?_ (by simp) _
    exact ((Below.refl _ _).alloc (Nat.le_refl _) _).trans (hb1.mono (by simp))⟩

set_option maxRecDepth 100000 in
set_option maxHeartbeats 1000000 in
theorem rdo_none (op a b s : Int) (c : Bool) (hs : Sz s) (ha : U a) (hl : lgc op = false) (h0 : op < 3 ∨ 10 < op) (h1 : op ≠ 11) (h2 : op ≠ 16) (h3 : op ≠ 17) (w : World) :
    Calls Try.prog 12 #[.int .i64 op, .int .u32 a, .int .u32 b, .bool c, .int .i64 s] w fun e w' => e = .returned noA.val ∧ Below w.heap.size w w' := by
  have kL := rlogic_any op
  rw [hl] at kL
  have KL := Lib.hid kL
  have k3 : (op == 3) = false := by simp; omega
  have k4 : (op == 4) = false := by simp; omega
  have k5 : (op == 5) = false := by simp; omega
  have k6 : (op == 6) = false := by simp; omega
  have k7 : (op == 7) = false := by simp; omega
  have k8 : (op == 8) = false := by simp; omega
  have k9 : (op == 9) = false := by simp; omega
  have k10 : (op == 10) = false := by simp; omega
  have k11 : (op == 11) = false := by simp; omega
  have k16 : (op == 16) = false := by simp; omega
  have k17 : (op == 17) = false := by simp; omega
  clear hl h0 h1 h2 h3 kL
  have hr := rest_bound hs a
  go_enter Try.func12, Try.ntmps12
  go_wp2_with (first | (go_at_call 14; refine (KL.out _).mono ?_; rintro e w' ⟨rfl, rfl⟩) | (go_at_call 19; refine (rest_any _ _ hs ha _).mono ?_; rintro e w' ⟨rfl, rfl⟩))
  exact bodyPost_ret (v := noA.val) (by simp [results, Try.results12, go_sem, noA, An.val]) rfl ⟨rfl, by
    repeat refine Below.setCell ?_ (by simp) _
    exact (Below.refl _ _).alloc (Nat.le_refl _) _⟩


end Go.Proofs.Ytfninhgjejdafaa.Cs
