/- The walk of AluBack. -/
import Derived.Test.YtfninhgjejdafaaADo
namespace Go.Proofs.Ytfninhgjejdafaa.Cs
open Go.RowKit

theorem df_sm {s : Int} (hs : Sz s) (a b : Int) (c : Bool) : df (sm a b c s % W s) b c s % W s = a % W s := by
  have h1 := sg_mod hs (sm a b c s)
  have h2 := sg_mod hs a
  unfold df; rw [sg_of_mod hs]
  unfold sm at h1 ⊢
  generalize sg (sg a s + sg b s + bt c) s = q at h1 ⊢
  generalize sg a s = p at h1 h2 ⊢
  generalize sg b s = r at h1 ⊢
  generalize bt c = d at h1 ⊢
  rcases W_cases hs with k | k | k <;> rw [k] at h1 h2 ⊢ <;> omega
theorem rest_U {s : Int} (hs : Sz s) (n : Int) : U (n % W s) := by
  have := rest_bound hs n
  exact ⟨by omega, by omega⟩

/-- of two that came bit by bit of a and b, bit by bit -/
theorem lg_lg {s : Int} (hs : Sz s) {a b x y t : Int} {op : Int} (f g : Bool → Bool → Bool) (hx : U x) (hy : U y) (ht : U t)
    (ex : ∀ i, i < wd s → bi x i = f (bi a i) (bi b i)) (ey : ∀ i, i < wd s → bi y i = g (bi a i) (bi b i))
    (h : ∀ i, i < wd s → lgb op (f (bi a i) (bi b i)) (g (bi a i) (bi b i)) = bi t i) : lg op x y % W s = t % W s := by
  refine bi_ext (rest_bound hs _).1 (rest_bound hs _).1 fun i => ?_
  rw [bi_rest hs (lg_U hx hy).1, bi_rest hs ht.1]
  by_cases hi : i < wd s
  · have hw := wd_le hs
    rw [lg_bi hx hy i (by omega), ex i hi, ey i hi, h i hi]
  · simp [hi]
theorem bi_lg {s : Int} (hs : Sz s) {a b : Int} (op : Int) (ha : U a) (hb : U b) (i : Nat) (hi : i < wd s) : bi (lg op a b % W s) i = lgb op (bi a i) (bi b i) := by
  have hw := wd_le hs
  rw [bi_rest hs (lg_U ha hb).1, lg_bi ha hb i (by omega)]
  simp [hi]

theorem not_not' {s a : Int} (hs : Sz s) (ha : U a) : lg 2 (lg 2 a 0 % W s) 0 % W s = a % W s := by
  have h0 : U 0 := ⟨by omega, by omega⟩
  exact lg_lg (a := a) (b := 0) (op := 2) hs (fun p q => lgb 2 p q) (fun _ q => q) (rest_U hs _) h0 ha (fun i hi => bi_lg hs 2 ha h0 i hi) (fun i _ => rfl) (fun i _ => by
    generalize bi a i = p; generalize bi 0 i = q
    cases p <;> cases q <;> rfl)
theorem bic_bit_or {s a b : Int} (hs : Sz s) (ha : U a) (hb : U b) : lg 12 (lg 13 a b % W s) (lg 15 a b % W s) % W s = b % W s :=
  lg_lg (a := a) (b := b) (op := 12) hs (fun p q => lgb 13 p q) (fun p q => lgb 15 p q) (rest_U hs _) (rest_U hs _) hb (fun i hi => bi_lg hs 13 ha hb i hi) (fun i hi => bi_lg hs 15 ha hb i hi) (fun i _ => by
    generalize bi a i = p; generalize bi b i = q
    cases p <;> cases q <;> rfl)
theorem bic_bit_xor {s a b : Int} (hs : Sz s) (ha : U a) (hb : U b) : lg 14 (lg 13 a b % W s) (lg 15 a b % W s) % W s = b % W s :=
  lg_lg (a := a) (b := b) (op := 14) hs (fun p q => lgb 13 p q) (fun p q => lgb 15 p q) (rest_U hs _) (rest_U hs _) hb (fun i hi => bi_lg hs 13 ha hb i hi) (fun i hi => bi_lg hs 15 ha hb i hi) (fun i _ => by
    generalize bi a i = p; generalize bi b i = q
    cases p <;> cases q <;> rfl)

/-- Do with its number named, the rest left open -/
theorem do_num (op a b s x : Int) (c : Bool) (hs : Sz s) (ha : U a) (hb : U b) (hx : (an op a b c s).x = x) : ∃ n z v cc ok : Bool, ∀ w : World,
    Calls Try.prog 11 #[.int .i64 op, .int .u32 a, .int .u32 b, .bool c, .int .i64 s] w fun e w' => e = .returned (.tuple #[.int .u32 x, .agg #[.bool n, .bool z, .bool v, .bool cc], .bool ok]) ∧ Below w.heap.size w w' := by
  subst hx
  exact ⟨_, _, _, _, _, fun w => do_any op a b s c hs ha hb w⟩

set_option maxHeartbeats 2000000 in
theorem aback_yes (a b s : Int) (hs : Sz s) (ha : U a) (hb : U b) (w : World) :
    Calls Try.prog 7 #[.int .u32 a, .int .u32 b, .int .i64 s] w fun e w' => e = .returned (.bool true) ∧ Below w.heap.size w w' := by
  have h0 : U 0 := ⟨by omega, by omega⟩
  have rU : ∀ x, U (x % W s) := rest_U hs
  have ra := rest_bound hs a
  have rb := rest_bound hs b
  obtain ⟨x, hx⟩ : ∃ x, sm b a false s % W s = x := ⟨_, rfl⟩
  obtain ⟨n, hn⟩ : ∃ n, lg 2 a 0 % W s = n := ⟨_, rfl⟩
  obtain ⟨p, hp⟩ : ∃ p, lg 13 a b % W s = p := ⟨_, rfl⟩
  obtain ⟨q, hq⟩ : ∃ q, lg 15 a b % W s = q := ⟨_, rfl⟩
  have xU : U x := hx ▸ rU _
  have nU : U n := hn ▸ rU _
  have pU : U p := hp ▸ rU _
  have qU : U q := hq ▸ rU _
  obtain ⟨n1, z1, v1, c1, o1, k1⟩ := do_num 6 a b s x false hs ha hb hx
  obtain ⟨n2, z2, v2, c2, o2, k2⟩ := do_num 7 a x s (b % W s) false hs ha xU (hx ▸ df_sm hs b a false)
  obtain ⟨n3, z3, v3, c3, o3, k3⟩ := do_num 2 a 0 s n false hs ha h0 hn
  obtain ⟨n4, z4, v4, c4, o4, k4⟩ := do_num 2 n 0 s (a % W s) false hs nU h0 (hn ▸ not_not' hs ha)
  obtain ⟨n5, z5, v5, c5, o5, k5⟩ := do_num 13 a b s p false hs ha hb hp
  obtain ⟨n6, z6, v6, c6, o6, k6⟩ := do_num 15 a b s q false hs ha hb hq
  obtain ⟨n7, z7, v7, c7, o7, k7⟩ := do_num 12 p q s (b % W s) false hs pU qU (hp ▸ hq ▸ bic_bit_or hs ha hb)
  obtain ⟨n8, z8, v8, c8, o8, k8⟩ := do_num 14 p q s (b % W s) false hs pU qU (hp ▸ hq ▸ bic_bit_xor hs ha hb)
  have K1 := Lib.hid k1
  have K2 := Lib.hid k2
  have K3 := Lib.hid k3
  have K4 := Lib.hid k4
  have K5 := Lib.hid k5
  have K6 := Lib.hid k6
  have K7 := Lib.hid k7
  have K8 := Lib.hid k8
  clear k1 k2 k3 k4 k5 k6 k7 k8 hx hn hp hq h0 rU
  go_enter Try.func7, Try.ntmps7
  go_wp2_with fail
  refine (alive8 _).mono ?_
  rintro e w1 ⟨rfl, hb1⟩
  go_wp2_with (first | (go_at_call 10; refine (size_any _ hs _).mono ?_; rintro e w' ⟨rfl, rfl⟩) | fail)
  refine (K1.out _).mono ?_
  rintro e w2 ⟨rfl, hb2⟩
  go_wp2_with fail
  refine (K2.out _).mono ?_
  rintro e w3 ⟨rfl, hb3⟩
  go_wp2_with fail
  refine (K3.out _).mono ?_
  rintro e w4 ⟨rfl, hb4⟩
  go_wp2_with fail
  refine (K4.out _).mono ?_
  rintro e w5 ⟨rfl, hb5⟩
  go_wp2_with fail
  refine (K5.out _).mono ?_
  rintro e w6 ⟨rfl, hb6⟩
  go_wp2_with fail
  refine (K6.out _).mono ?_
  rintro e w7 ⟨rfl, hb7⟩
  go_wp2_with fail
  refine (K7.out _).mono ?_
  rintro e w8 ⟨rfl, hb8⟩
  go_wp2_with fail
  refine (K8.out _).mono ?_
  rintro e w9 ⟨rfl, hb9⟩
  go_wp2_with (go_at_call 19; refine (rest_any _ _ hs (by assumption) _).mono ?_; rintro e w' ⟨rfl, rfl⟩)
  go_ret
  have hx := below3 (below3 (below3 (below3 (below3 (below3 (below3 (below2 hb1 hb2) hb3) hb4) hb5) hb6) hb7) hb8) hb9
  exact ⟨rfl, hx.alloc hx.size _⟩

set_option maxHeartbeats 400000 in
theorem aback_not (a b s : Int) (hs : ¬ Sz s) (w : World) :
    Calls Try.prog 7 #[.int .u32 a, .int .u32 b, .int .i64 s] w fun e w' => e = .returned (.bool true) ∧ Below w.heap.size w w' := by
  go_enter Try.func7, Try.ntmps7
  go_wp2_with fail
  refine (alive8 _).mono ?_
  rintro e w1 ⟨rfl, hb1⟩
  go_wp2_with (first | (go_at_call 10; refine (size_not _ hs _).mono ?_; rintro e w' ⟨rfl, rfl⟩) | fail)
  go_ret
  exact ⟨rfl, hb1⟩

theorem aback_walk (a b s : Int) (ha : (Lit.int .u32 a).wf = true) (hb : (Lit.int .u32 b).wf = true) (_ : (Lit.int .i64 s).wf = true) (w : World) :
    Calls Try.prog 7 #[.int .u32 a, .int .u32 b, .int .i64 s] w fun e w' => e = .returned (.bool true) ∧ Below w.heap.size w w' := by
  by_cases hs : Sz s
  · exact aback_yes a b s hs (U_of ha) (U_of hb) w
  · exact aback_not a b s hs w
end Go.Proofs.Ytfninhgjejdafaa.Cs
