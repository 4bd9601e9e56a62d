/- Contract of Do of package alu. -/
import Derived.Test.YtfninhgjejdafaaASum
namespace Go.Proofs.Ytfninhgjejdafaa.Cs
open Go.RowKit

set_option maxHeartbeats 400000 in
theorem do_logic (op a b s : Int) (c : Bool) (hs : Sz s) (ha : U a) (hb : U b) (hl : lgc op = true) (w : World) :
    Calls Try.prog 11 #[.int .i64 op, .int .u32 a, .int .u32 b, .bool c, .int .i64 s] w fun e w' => e = .returned (lgA op a b c s).val ∧ Below w.heap.size w w' := by
  have hU := lg_U (op := op) ha hb
  have hr := rest_bound hs (lg op a b)
  have hU2 : U (lg op a b % W s) := ⟨by omega, by omega⟩
  have HM := Lib.hid (and_mask hs hU)
  have kL := logic_any op
  rw [hl] at kL
  have KL := Lib.hid kL
  have KB := Lib.hid (bitwise_any op a b hl)
  have kS := signs_any (lg op a b % W s) s hs hU2
  rw [ng_of_mod hs, zr_of_mod hs] at kS
  have KS := Lib.hid kS
  have HV := Lib.hid (show (lgA op a b c s).val = .tuple #[.int .u32 (lg op a b % W s), .agg #[.bool (ng (lg op a b) s), .bool (zr (lg op a b) s), .bool false, .bool c], .bool true] from rfl)
  clear kL kS hl hr
  generalize ng (lg op a b) s = n at *
  generalize zr (lg op a b) s = z at *
  go_enter Try.func11, Try.ntmps11
  go_wp2_with (first | (go_at_call 13; refine (KL.out _).mono ?_; rintro e w' ⟨rfl, rfl⟩) | (go_at_call 20; refine (KB.out _).mono ?_; rintro e w' ⟨rfl, rfl⟩) | (go_at_call 21; refine (mask_any _ hs _).mono ?_; rintro e w' ⟨rfl, rfl⟩) | fail)
  rw [HM.out]
  refine (KS.out _).mono ?_
  rintro e w1 ⟨rfl, hb1⟩
  obtain ⟨hc, hf⟩ := bcell hb1
  have hz : w.heap.size < w1.heap.size := by have := hb1.size; simp at this; omega
  go_wp2
  go_region
  go_wp2
  exact bodyPost_ret (v := .tuple #[.int .u32 (lg op a b % W s), .agg #[.bool n, .bool z, .bool false, .bool c], .bool true]) (by simp [results, Try.results11, go_sem, hc, hz]) rfl ⟨by rw [HV.out], by
    refine Below.drew (Below.alloc ?_ (by simp; omega) _)
    iterate 4 refine Below.setCell ?_ (by simp) _
    exact ((Below.refl _ _).alloc (Nat.le_refl _) _).trans (hb1.mono (by simp))⟩

set_option maxHeartbeats 400000 in
theorem do_div (a b s : Int) (c : Bool) (hs : Sz s) (ha : U a) (hb : U b) (w : World) :
    Calls Try.prog 11 #[.int .i64 11, .int .u32 a, .int .u32 b, .bool c, .int .i64 s] w fun e w' => e = .returned (dvA b a s).val ∧ Below w.heap.size w w' := by
  have k : ∀ w, Calls Try.prog 23 #[.int .u32 b, .int .u32 a, .int .i64 s] w fun e w' => e = .returned (dvA b a s).val ∧ Below w.heap.size w w' := div_any b a s hs hb ha
  generalize dvA b a s = A at *
  obtain ⟨x, n, z, v, cc, ok⟩ := A
  have K := Lib.hid k
  clear k
  unfold An.val at *
  have KL := Lib.hid (logic_any 11)
  go_enter Try.func11, Try.ntmps11
  go_wp2_with (first | (go_at_call 13; refine (KL.out _).mono ?_; rintro e w' ⟨rfl, rfl⟩) | fail)
  refine (K.out _).mono ?_
  rintro e w1 ⟨rfl, hb1⟩
  obtain ⟨hc, hf⟩ := bcell hb1
  have hz : w.heap.size < w1.heap.size := by have := hb1.size; simp at this; omega
  go_wp2
  exact bodyPost_ret (v := .tuple #[.int .u32 x, .agg #[.bool n, .bool z, .bool v, .bool cc], .bool ok]) (by simp [results, Try.results11, go_sem, hc]) rfl ⟨rfl, by
    iterate 4 refine Below.setCell ?_ (by simp) _
    exact ((Below.refl _ _).alloc (Nat.le_refl _) _).trans (hb1.mono (by simp))⟩

set_option maxHeartbeats 400000 in
theorem do_cmp (a b s : Int) (c : Bool) (hs : Sz s) (ha : U a) (hb : U b) (w : World) :
    Calls Try.prog 11 #[.int .i64 16, .int .u32 a, .int .u32 b, .bool c, .int .i64 s] w fun e w' => e = .returned (cpA a b s).val ∧ Below w.heap.size w w' := by
  have HM := Lib.hid (and_mask hs ha)
  have k : ∀ w, Calls Try.prog 24 #[.int .u32 a, .int .u32 b, .int .i64 s] w fun e w' => e = .returned (.agg #[.bool (cpA a b s).n, .bool (cpA a b s).z, .bool (cpA a b s).v, .bool (cpA a b s).c]) ∧ Below w.heap.size w w' := compare_any a b s hs ha hb
  have hk : (cpA a b s).k = true := rfl
  have hx : (cpA a b s).x = a % W s := rfl
  generalize cpA a b s = A at *
  obtain ⟨x, n, z, v, cc, ok⟩ := A
  obtain rfl : ok = true := hk
  obtain rfl : x = a % W s := hx
  have K := Lib.hid k
  clear k
  unfold An.val at *
  have KL := Lib.hid (logic_any 16)
  go_enter Try.func11, Try.ntmps11
  go_wp2_with (first | (go_at_call 13; refine (KL.out _).mono ?_; rintro e w' ⟨rfl, rfl⟩) | (go_at_call 21; refine (mask_any _ hs _).mono ?_; rintro e w' ⟨rfl, rfl⟩) | fail)
  refine (K.out _).mono ?_
  rintro e w1 ⟨rfl, hb1⟩
  obtain ⟨hc, hf⟩ := bcell hb1
  have hz : w.heap.size < w1.heap.size := by have := hb1.size; simp at this; omega
  go_wp2_with (first | (go_at_call 21; refine (mask_any _ hs _).mono ?_; rintro e w' ⟨rfl, rfl⟩) | fail)
  rw [HM.out]
  exact bodyPost_ret (v := .tuple #[.int .u32 (a % W s), .agg #[.bool n, .bool z, .bool v, .bool cc], .bool true]) (by simp [results, Try.results11, go_sem, hc]) rfl ⟨rfl, by
    iterate 4 refine Below.setCell ?_ (by simp) _
    exact ((Below.refl _ _).alloc (Nat.le_refl _) _).trans (hb1.mono (by simp))⟩

set_option maxHeartbeats 400000 in
theorem do_test (a b s : Int) (c : Bool) (hs : Sz s) (ha : U a) (w : World) :
    Calls Try.prog 11 #[.int .i64 17, .int .u32 a, .int .u32 b, .bool c, .int .i64 s] w fun e w' => e = .returned (tsA a s).val ∧ Below w.heap.size w w' := by
  have HM := Lib.hid (and_mask hs ha)
  have k : ∀ w, Calls Try.prog 22 #[.int .u32 a, .int .i64 s] w fun e w' => e = .returned (.agg #[.bool (tsA a s).n, .bool (tsA a s).z, .bool (tsA a s).v, .bool (tsA a s).c]) ∧ Below w.heap.size w w' := signs_any a s hs ha
  have hk : (tsA a s).k = true := rfl
  have hx : (tsA a s).x = a % W s := rfl
  generalize tsA a s = A at *
  obtain ⟨x, n, z, v, cc, ok⟩ := A
  obtain rfl : ok = true := hk
  obtain rfl : x = a % W s := hx
  have K := Lib.hid k
  clear k
  unfold An.val at *
  have KL := Lib.hid (logic_any 17)
  go_enter Try.func11, Try.ntmps11
  go_wp2_with (first | (go_at_call 13; refine (KL.out _).mono ?_; rintro e w' ⟨rfl, rfl⟩) | (go_at_call 21; refine (mask_any _ hs _).mono ?_; rintro e w' ⟨rfl, rfl⟩) | fail)
  refine (K.out _).mono ?_
  rintro e w1 ⟨rfl, hb1⟩
  obtain ⟨hc, hf⟩ := bcell hb1
  have hz : w.heap.size < w1.heap.size := by have := hb1.size; simp at this; omega
  go_wp2_with (first | (go_at_call 21; refine (mask_any _ hs _).mono ?_; rintro e w' ⟨rfl, rfl⟩) | fail)
  rw [HM.out]
  exact bodyPost_ret (v := .tuple #[.int .u32 (a % W s), .agg #[.bool n, .bool z, .bool v, .bool cc], .bool true]) (by simp [results, Try.results11, go_sem, hc]) rfl ⟨rfl, by
    iterate 4 refine Below.setCell ?_ (by simp) _
    exact ((Below.refl _ _).alloc (Nat.le_refl _) _).trans (hb1.mono (by simp))⟩

set_option maxHeartbeats 400000 in
theorem do_sum (op a b s : Int) (c : Bool) (A : An) (hl : lgc op = false) (h1 : op ≠ 11) (h2 : op ≠ 16) (h3 : op ≠ 17)
    (k : ∀ w, Calls Try.prog 25 #[.int .i64 op, .int .u32 a, .int .u32 b, .bool c, .int .i64 s] w fun e w' => e = .returned A.val ∧ Below w.heap.size w w') (w : World) :
    Calls Try.prog 11 #[.int .i64 op, .int .u32 a, .int .u32 b, .bool c, .int .i64 s] w fun e w' => e = .returned A.val ∧ Below w.heap.size w w' := by
  have kL := logic_any op
  rw [hl] at kL
  have KL := Lib.hid kL
  have k1 : (op == 11) = false := by simp [h1]
  have k2 : (op == 16) = false := by simp [h2]
  have k3 : (op == 17) = false := by simp [h3]
  obtain ⟨x, n, z, v, cc, ok⟩ := A
  have K := Lib.hid k
  clear k kL hl h1 h2 h3
  unfold An.val at *
  go_enter Try.func11, Try.ntmps11
  go_wp2_with (first | (go_at_call 13; refine (KL.out _).mono ?_; rintro e w' ⟨rfl, rfl⟩) | fail)
  refine (K.out _).mono ?_
  rintro e w1 ⟨rfl, hb1⟩
  obtain ⟨hc, hf⟩ := bcell hb1
  have hz : w.heap.size < w1.heap.size := by have := hb1.size; simp at this; omega
  go_wp2
  exact bodyPost_ret (v := .tuple #[.int .u32 x, .agg #[.bool n, .bool z, .bool v, .bool cc], .bool ok]) (by simp [results, Try.results11, go_sem, hc]) rfl ⟨rfl, by
    iterate 4 refine Below.setCell ?_ (by simp) _
    exact ((Below.refl _ _).alloc (Nat.le_refl _) _).trans (hb1.mono (by simp))⟩

/-- which operation it is -/
theorem op_cases (op : Int) : lgc op = true ∨ op = 3 ∨ op = 4 ∨ op = 5 ∨ op = 6 ∨ op = 7 ∨ op = 8 ∨ op = 9 ∨ op = 10 ∨ op = 11 ∨ op = 16 ∨ op = 17 ∨ (lgc op = false ∧ (op < 3 ∨ 10 < op) ∧ op ≠ 11 ∧ op ≠ 16 ∧ op ≠ 17) := by
  cases h : lgc op
  · have := lgc_not h
    by_cases h3 : op = 3
    · exact .inr (.inl h3)
    by_cases h4 : op = 4
    · exact .inr (.inr (.inl h4))
    by_cases h5 : op = 5
    · exact .inr (.inr (.inr (.inl h5)))
    by_cases h6 : op = 6
    · exact .inr (.inr (.inr (.inr (.inl h6))))
    by_cases h7 : op = 7
    · exact .inr (.inr (.inr (.inr (.inr (.inl h7)))))
    by_cases h8 : op = 8
    · exact .inr (.inr (.inr (.inr (.inr (.inr (.inl h8))))))
    by_cases h9 : op = 9
    · exact .inr (.inr (.inr (.inr (.inr (.inr (.inr (.inl h9)))))))
    by_cases h10 : op = 10
    · exact .inr (.inr (.inr (.inr (.inr (.inr (.inr (.inr (.inl h10))))))))
    by_cases h11 : op = 11
    · exact .inr (.inr (.inr (.inr (.inr (.inr (.inr (.inr (.inr (.inl h11)))))))))
    by_cases h16 : op = 16
    · exact .inr (.inr (.inr (.inr (.inr (.inr (.inr (.inr (.inr (.inr (.inl h16))))))))))
    by_cases h17 : op = 17
    · exact .inr (.inr (.inr (.inr (.inr (.inr (.inr (.inr (.inr (.inr (.inr (.inl h17)))))))))))
    exact .inr (.inr (.inr (.inr (.inr (.inr (.inr (.inr (.inr (.inr (.inr (.inr ⟨rfl, by omega, h11, h16, h17⟩)))))))))))
  · exact .inl rfl

theorem an_lg {op a b s : Int} {c : Bool} (h : lgc op = true) : an op a b c s = lgA op a b c s := by unfold an; rw [if_pos h]
theorem an_no {op a b s : Int} {c : Bool} (h : lgc op = false) (h0 : op < 3 ∨ 10 < op) (h1 : op ≠ 11) (h2 : op ≠ 16) (h3 : op ≠ 17) : an op a b c s = noA := by
  unfold an
  rw [if_neg (by rw [h]; simp), if_neg (by omega), if_neg (by omega), if_neg (by omega), if_neg (by omega), if_neg (by omega), if_neg (by omega), if_neg (by omega), if_neg (by omega), if_neg h1, if_neg h2, if_neg h3]

theorem do_any (op a b s : Int) (c : Bool) (hs : Sz s) (ha : U a) (hb : U b) (w : World) :
    Calls Try.prog 11 #[.int .i64 op, .int .u32 a, .int .u32 b, .bool c, .int .i64 s] w fun e w' => e = .returned (an op a b c s).val ∧ Below w.heap.size w w' := by
  rcases op_cases op with h | rfl | rfl | rfl | rfl | rfl | rfl | rfl | rfl | rfl | rfl | rfl | ⟨h, h0, h1, h2, h3⟩
  · rw [an_lg h]; exact do_logic op a b s c hs ha hb h w
  · exact do_sum 3 a b s c (dfA 0 a false s) rfl (by omega) (by omega) (by omega) (sum_neg a b s c hs ha hb) w
  · exact do_sum 4 a b s c (smA a 1 false s) rfl (by omega) (by omega) (by omega) (sum_inc a b s c hs ha hb) w
  · exact do_sum 5 a b s c (dfA a 1 false s) rfl (by omega) (by omega) (by omega) (sum_dec a b s c hs ha hb) w
  · exact do_sum 6 a b s c (smA b a false s) rfl (by omega) (by omega) (by omega) (sum_add a b s c hs ha hb) w
  · exact do_sum 7 a b s c (dfA b a false s) rfl (by omega) (by omega) (by omega) (sum_sub a b s c hs ha hb) w
  · exact do_sum 8 a b s c (smA b a c s) rfl (by omega) (by omega) (by omega) (sum_addc a b s c hs ha hb) w
  · exact do_sum 9 a b s c (dfA b a c s) rfl (by omega) (by omega) (by omega) (sum_subc a b s c hs ha hb) w
  · exact do_sum 10 a b s c (mlA b a s) rfl (by omega) (by omega) (by omega) (sum_mul a b s c hs ha hb) w
  · exact do_div a b s c hs ha hb w
  · exact do_cmp a b s c hs ha hb w
  · exact do_test a b s c hs ha w
  · rw [an_no h h0 h1 h2 h3]
    exact do_sum op a b s c noA h h1 h2 h3 (sum_none op a b s c h0) w
theorem do_as (op a b s : Int) (c : Bool) (A : An) (hs : Sz s) (ha : U a) (hb : U b) (hA : an op a b c s = A) (w : World) :
    Calls Try.prog 11 #[.int .i64 op, .int .u32 a, .int .u32 b, .bool c, .int .i64 s] w fun e w' => e = .returned A.val ∧ Below w.heap.size w w' := hA ▸ do_any op a b s c hs ha hb w

/-! what every law of layer 8 asks first -/
theorem do_alive (w : World) :
    Calls Try.prog 11 #[.int .i64 7, .int .u32 1, .int .u32 3, .bool false, .int .i64 1] w fun e w' => e = .returned (.tuple #[.int .u32 2, .agg #[.bool false, .bool false, .bool false, .bool false], .bool true]) ∧ Below w.heap.size w w' :=
  (do_any 7 1 3 1 false (.inl rfl) ⟨by omega, by omega⟩ ⟨by omega, by omega⟩ w).mono fun _ _ h => ⟨h.1.trans rfl, h.2⟩

set_option maxHeartbeats 400000 in
theorem alive8 (w : World) :
    Calls Try.prog 9 #[] w fun e w' => e = .returned (.bool true) ∧ Below w.heap.size w w' := by
  go_enter Try.func9, Try.ntmps9
  go_wp2_with fail
  refine (do_alive _).mono ?_
  rintro e w1 ⟨rfl, hb1⟩
  go_wp2
  go_ret
  exact ⟨rfl, hb1.alloc hb1.size _⟩

end Go.Proofs.Ytfninhgjejdafaa.Cs
