import Derived.Test.YteohkobdmkbcpaaGreatDoorGBit

/- Plain arithmetic of what goes bit by bit, and of what is reckoned: no program in sight. -/
namespace Go.Proofs.YteohkobdmkbcpaaGreatDoor.Bt.Al

/-- a bit of a number -/
def bi (x : Int) (i : Nat) : Bool := x / 2 ^ i % 2 == 1

theorem bi_nat (n i : Nat) : bi (n : Int) i = n.testBit i := by
  have e : ((n : Int) / 2 ^ i % 2) = ((n / 2 ^ i % 2 : Nat) : Int) := by simp
  unfold bi
  rw [Nat.testBit_eq_decide_div_mod_eq, e, Bool.eq_iff_iff]
  simp only [beq_iff_eq, decide_eq_true_eq]
  omega
theorem bi_toNat {x : Int} (h : 0 ≤ x) (i : Nat) : bi x i = x.toNat.testBit i := by
  obtain ⟨n, rfl⟩ := Int.eq_ofNat_of_zero_le h
  exact bi_nat n i
theorem bi_ext {x y : Int} (hx : 0 ≤ x) (hy : 0 ≤ y) (h : ∀ i, bi x i = bi y i) : x = y := by
  obtain ⟨m, rfl⟩ := Int.eq_ofNat_of_zero_le hx
  obtain ⟨n, rfl⟩ := Int.eq_ofNat_of_zero_le hy
  congr 1
  exact Nat.eq_of_testBit_eq fun i => by rw [← bi_nat, ← bi_nat]; exact h i
theorem bi_mod {x : Int} (h : 0 ≤ x) (k i : Nat) : bi (x % 2 ^ k) i = (decide (i < k) && bi x i) := by
  obtain ⟨n, rfl⟩ := Int.eq_ofNat_of_zero_le h
  have e : ((n : Int) % 2 ^ k) = ((n % 2 ^ k : Nat) : Int) := by simp
  rw [e, bi_nat, bi_nat, Nat.testBit_mod_two_pow]
theorem bi_high {x : Int} (h : U x) {i : Nat} (hi : 32 ≤ i) : bi x i = false := by
  rw [bi_toNat h.1]
  have h0 := h.1
  have h1 := h.2
  exact Nat.testBit_lt_two_pow (Nat.lt_of_lt_of_le (by omega : x.toNat < 2 ^ 32) (Nat.pow_le_pow_right (by omega) hi))
theorem mod_step {x : Int} (h : 0 ≤ x) (k : Nat) : x % 2 ^ (k + 1) = x % 2 ^ k + if bi x k then 2 ^ k else 0 := by
  obtain ⟨n, rfl⟩ := Int.eq_ofNat_of_zero_le h
  have e : ∀ j : Nat, ((n : Int) % 2 ^ j) = ((n % 2 ^ j : Nat) : Int) := fun j => by simp
  rw [e, e, bi_nat, Nat.mod_pow_succ, Nat.testBit_eq_decide_div_mod_eq]
  have h2 : n / 2 ^ k % 2 = 0 ∨ n / 2 ^ k % 2 = 1 := by omega
  rcases h2 with h2 | h2 <;> rw [h2] <;> simp

/-- how many bits a size has -/
def wd (s : Int) : Nat := (8 * s).toNat
theorem wd_W {s : Int} (hs : Sz s) : (2 : Int) ^ wd s = W s := by
  rcases hs with rfl | rfl | rfl <;> rfl
theorem wd_le {s : Int} (hs : Sz s) : wd s ≤ 32 := by
  rcases hs with rfl | rfl | rfl <;> decide
theorem bi_rest {x s : Int} (hs : Sz s) (h : 0 ≤ x) (i : Nat) : bi (x % W s) i = (decide (i < wd s) && bi x i) := by
  rw [← wd_W hs]; exact bi_mod h _ _

/-- of a bit of both -/
def lgb (op : Int) (p q : Bool) : Bool :=
  if op = 1 then p else if op = 2 then !p else if op = 12 then p || q else if op = 13 then q && !p else if op = 14 then p != q else if op = 15 then p && q else false
/-- of all 32 bits of both -/
def lg (op a b : Int) : Int :=
  if op = 1 then a else if op = 2 then bits .xor .u32 4294967295 a else if op = 12 then bits .or .u32 a b else if op = 13 then bits .andNot .u32 b a else if op = 14 then bits .xor .u32 a b else if op = 15 then bits .and .u32 a b else 0
/-- does it go bit by bit -/
def lgc (op : Int) : Bool := op == 1 || op == 2 || op == 12 || op == 13 || op == 14 || op == 15 || op == 18

theorem xor_U {a b : Int} (ha : U a) (hb : U b) : U (bits .xor .u32 a b) := by
  rw [u32_xor _ _ ha.1 ha.2 hb.1 hb.2]
  have : a.toNat ^^^ b.toNat < 2 ^ 32 := Nat.xor_lt_two_pow (by have := ha.2; omega) (by have := hb.2; omega)
  exact ⟨by omega, by omega⟩
theorem or_U {a b : Int} (ha : U a) (hb : U b) : U (bits .or .u32 a b) := by
  rw [u32_or _ _ ha.1 ha.2 hb.1 hb.2]
  have : a.toNat ||| b.toNat < 2 ^ 32 := Nat.or_lt_two_pow (by have := ha.2; omega) (by have := hb.2; omega)
  exact ⟨by omega, by omega⟩
theorem and_U {a b : Int} (ha : U a) (hb : U b) : U (bits .and .u32 a b) := by
  rw [u32_and _ _ ha.1 ha.2 hb.1 hb.2]
  have : a.toNat &&& b.toNat ≤ a.toNat := Nat.and_le_left
  exact ⟨by omega, by have := ha.2; omega⟩
theorem andNot_U {a b : Int} (ha : U a) (hb : U b) : U (bits .andNot .u32 a b) := by
  rw [u32_andNot _ _ ha.1 ha.2 hb.1 hb.2]
  have : a.toNat &&& (4294967295 - b.toNat) ≤ a.toNat := Nat.and_le_left
  exact ⟨by omega, by have := ha.2; omega⟩

theorem lg_U {op a b : Int} (ha : U a) (hb : U b) : U (lg op a b) := by
  unfold lg
  split
  · exact ha
  split
  · exact xor_U ⟨by omega, by omega⟩ ha
  split
  · exact or_U ha hb
  split
  · exact andNot_U hb ha
  split
  · exact xor_U ha hb
  split
  · exact and_U ha hb
  · exact ⟨by omega, by omega⟩

theorem lg_bi {op a b : Int} (ha : U a) (hb : U b) (i : Nat) (hi : i < 32) : bi (lg op a b) i = lgb op (bi a i) (bi b i) := by
  have hm : bi 4294967295 i = true := by
    show bi ((2 ^ 32 - 1 : Nat) : Int) i = true
    rw [bi_nat, Nat.testBit_two_pow_sub_one]; simp [hi]
  have hx : ∀ {x y : Int}, U x → U y → bi (bits .xor .u32 x y) i = (bi x i != bi y i) := fun {x y} hx hy => by
    rw [u32_xor _ _ hx.1 hx.2 hy.1 hy.2, bi_nat, bi_toNat hx.1, bi_toNat hy.1, Nat.testBit_xor]
  unfold lg lgb
  split
  · rfl
  split
  · rw [hx ⟨by omega, by omega⟩ ha, hm]; cases bi a i <;> rfl
  split
  · rw [u32_or _ _ ha.1 ha.2 hb.1 hb.2, bi_nat, bi_toNat ha.1, bi_toNat hb.1, Nat.testBit_or]
  split
  · rw [u32_andNot _ _ hb.1 hb.2 ha.1 ha.2, bi_nat, bi_toNat ha.1, bi_toNat hb.1, Nat.testBit_and]
    have h1 := ha.2
    have h0 := ha.1
    have e : 4294967295 - a.toNat = 2 ^ 32 - (a.toNat + 1) := by omega
    rw [e, Nat.testBit_two_pow_sub_succ (by omega)]
    simp [hi]
  split
  · exact hx ha hb
  split
  · rw [u32_and _ _ ha.1 ha.2 hb.1 hb.2, bi_nat, bi_toNat ha.1, bi_toNat hb.1, Nat.testBit_and]
  · show bi ((0 : Nat) : Int) i = false
    rw [bi_nat]; simp

/-- the rest of it hangs on the rests alone -/
theorem lg_congr {op a b a' b' s : Int} (hs : Sz s) (ha : U a) (hb : U b) (ha' : U a') (hb' : U b') (h : a % W s = a' % W s) (k : b % W s = b' % W s) : lg op a b % W s = lg op a' b' % W s := by
  have r1 := rest_bound hs (lg op a b)
  have r2 := rest_bound hs (lg op a' b')
  have e : ∀ i, i < wd s → bi a i = bi a' i := fun i hi => by
    have := congrArg (fun x => bi x i) h
    simpa [bi_rest hs ha.1, bi_rest hs ha'.1, hi] using this
  have f : ∀ i, i < wd s → bi b i = bi b' i := fun i hi => by
    have := congrArg (fun x => bi x i) k
    simpa [bi_rest hs hb.1, bi_rest hs hb'.1, hi] using this
  refine bi_ext r1.1 r2.1 fun i => ?_
  rw [bi_rest hs (lg_U ha hb).1, bi_rest hs (lg_U ha' hb').1]
  by_cases hi : i < wd s
  · have hw := wd_le hs
    rw [lg_bi ha hb i (by omega), lg_bi ha' hb' i (by omega), e i hi, f i hi]
  · simp [hi]

end Go.Proofs.YteohkobdmkbcpaaGreatDoor.Bt.Al

/- Contracts of what goes bit by bit: Logic and bitwise of package alu, and the document's own. -/
namespace Go.Proofs.YteohkobdmkbcpaaGreatDoor.Bt.Al
open Go.RowKit

theorem lg_cases (op : Int) : op = 1 ∨ op = 2 ∨ op = 12 ∨ op = 13 ∨ op = 14 ∨ op = 15 ∨ op = 18 ∨ lgc op = false := by
  by_cases h1 : op = 1
  · exact .inl h1
  by_cases h2 : op = 2
  · exact .inr (.inl h2)
  by_cases h3 : op = 12
  · exact .inr (.inr (.inl h3))
  by_cases h4 : op = 13
  · exact .inr (.inr (.inr (.inl h4)))
  by_cases h5 : op = 14
  · exact .inr (.inr (.inr (.inr (.inl h5))))
  by_cases h6 : op = 15
  · exact .inr (.inr (.inr (.inr (.inr (.inl h6)))))
  by_cases h7 : op = 18
  · exact .inr (.inr (.inr (.inr (.inr (.inr (.inl h7))))))
  refine .inr (.inr (.inr (.inr (.inr (.inr (.inr ?_))))))
  simp [lgc, h1, h2, h3, h4, h5, h6, h7]
theorem lgc_not {op : Int} (h : lgc op = false) : op ≠ 1 ∧ op ≠ 2 ∧ op ≠ 12 ∧ op ≠ 13 ∧ op ≠ 14 ∧ op ≠ 15 ∧ op ≠ 18 := by
  unfold lgc at h
  simp only [Bool.or_eq_false_iff, beq_eq_false_iff_ne] at h
  obtain ⟨⟨⟨⟨⟨⟨h1, h2⟩, h3⟩, h4⟩, h5⟩, h6⟩, h7⟩ := h
  exact ⟨h1, h2, h3, h4, h5, h6, h7⟩

set_option maxHeartbeats 400000 in
set_option maxRecDepth 100000 in
theorem logic_any (op : Int) (w : World) :
    Calls Tryz.prog 221 #[.int .i64 op] w fun e w' => e = .returned (.bool (lgc op)) ∧ w = w' := by
  rcases lg_cases op with rfl | rfl | rfl | rfl | rfl | rfl | rfl | h
  all_goals try
    go_enter Tryz.func221, Tryz.ntmps221
    go_wp2
    go_ret
    exact ⟨rfl, rfl⟩
  have HL := Lib.hid h
  obtain ⟨h1, h2, h3, h4, h5, h6, h7⟩ := lgc_not h
  clear h
  have k1 : (op == 1) = false := by simp [h1]
  have k2 : (op == 2) = false := by simp [h2]
  have k3 : (op == 12) = false := by simp [h3]
  have k4 : (op == 13) = false := by simp [h4]
  have k5 : (op == 14) = false := by simp [h5]
  have k6 : (op == 15) = false := by simp [h6]
  have k7 : (op == 18) = false := by simp [h7]
  go_enter Tryz.func221, Tryz.ntmps221
  go_wp2
  go_ret
  exact ⟨ret_bool HL.out.symm, rfl⟩



set_option maxHeartbeats 400000 in
set_option maxRecDepth 100000 in
theorem bitwise_any (op a b : Int) (hl : lgc op = true) (w : World) :
    Calls Tryz.prog 222 #[.int .i64 op, .int .u32 a, .int .u32 b] w fun e w' => e = .returned (.int .u32 (lg op a b)) ∧ w = w' := by
  rcases lg_cases op with rfl | rfl | rfl | rfl | rfl | rfl | rfl | h
  all_goals try
    clear hl
    go_enter Tryz.func222, Tryz.ntmps222
    go_wp2
    go_ret
    exact ⟨rfl, rfl⟩
  rw [h] at hl; cases hl



set_option maxHeartbeats 400000 in
set_option maxRecDepth 100000 in
theorem rbit_any (x : Int) (n : Nat) (hx : U x) (hn : n ≤ 31) (w : World) :
    Calls Tryz.prog 35 #[.int .u32 x, .int .i64 n] w fun e w' => e = .returned (.bool (bi x n)) ∧ w = w' := by
  go_enter Tryz.func35, Tryz.ntmps35
  go_wp2
  go_loop [0, 5] (fun y i => ∃ k : Nat, k ≤ n ∧ i = .int .i64 k ∧ y = .int .u32 (x / 2 ^ k)) (fun _ i => n - (intOf i).toNat)
  case atStart => exact ⟨0, Nat.zero_le _, rfl, by simp⟩
  case round =>
    obtain ⟨k, hk, rfl, rfl⟩ := hrel
    have hb : U (x / 2 ^ k) := by
      have hp : (0 : Int) < 2 ^ k := Int.pow_pos (by omega)
      have h0 := hx.1
      have h1 := hx.2
      exact ⟨Int.ediv_nonneg h0 (by omega), Int.lt_of_le_of_lt (Int.ediv_le_self _ h0) h1⟩
    have h0 := hb.1
    have h1 := hb.2
    by_cases hlt : k < n
    · go_wp2
      go_round
      case rel =>
        refine ⟨k + 1, by omega, by go_num, ?_⟩
        have : x / 2 ^ (k + 1) = x / 2 ^ k / 2 := by
          rw [Int.pow_succ, Int.ediv_ediv_of_nonneg (Int.pow_nonneg (by omega))]
        rw [this]
      case measure => simp [intOf]; omega
    · have : k = n := by omega
      subst this
      go_wp2
      go_ret
      exact ⟨rfl, rfl⟩

end Go.Proofs.YteohkobdmkbcpaaGreatDoor.Bt.Al

/- What Do answers, as numbers. -/
namespace Go.Proofs.YteohkobdmkbcpaaGreatDoor.Bt.Al
open Go.RowKit

/-- an answer: the number, the four codes, can it be done -/
structure An where
  x : Int
  n : Bool
  z : Bool
  v : Bool
  c : Bool
  k : Bool
/-- as a value -/
def An.val (A : An) : Value := .tuple #[.int .u32 A.x, .agg #[.bool A.n, .bool A.z, .bool A.v, .bool A.c], .bool A.k]

def lgA (op a b : Int) (c : Bool) (s : Int) : An := ⟨lg op a b % W s, ng (lg op a b) s, zr (lg op a b) s, false, c, true⟩
def dfA (a b : Int) (c : Bool) (s : Int) : An := ⟨df a b c s % W s, ng (df a b c s) s, zr (df a b c s) s, !ft (df a b c s) s, decide (a % W s < b % W s + bt c), true⟩
def smA (a b : Int) (c : Bool) (s : Int) : An := ⟨sm a b c s % W s, ng (sm a b c s) s, zr (sm a b c s) s, !ft (sm a b c s) s, decide (W s ≤ a % W s + b % W s + bt c), true⟩
def mlA (a b s : Int) : An := ⟨sg a s * sg b s % W s, ng (sg a s * sg b s) s, zr (sg a s * sg b s) s, !ft (sg a s * sg b s) s, false, true⟩
def dvA (a b s : Int) : An := ⟨dq a b s % W s, ng (dq a b s) s, zr (dq a b s) s, dv a b s, false, sg b s != 0⟩
def cpA (a b s : Int) : An := ⟨a % W s, decide (sg a s < sg b s), a % W s == b % W s, false, decide (a % W s < b % W s), true⟩
def tsA (a s : Int) : An := ⟨a % W s, ng a s, zr a s, false, false, true⟩
def noA : An := ⟨0, false, false, false, false, false⟩

/-- what Do answers -/
def an (op a b : Int) (c : Bool) (s : Int) : An :=
  if lgc op then lgA op a b c s
  else if op = 3 then dfA 0 a false s
  else if op = 4 then smA a 1 false s
  else if op = 5 then dfA a 1 false s
  else if op = 6 then smA b a false s
  else if op = 7 then dfA b a false s
  else if op = 8 then smA b a c s
  else if op = 9 then dfA b a c s
  else if op = 10 then mlA b a s
  else if op = 11 then dvA b a s
  else if op = 16 then cpA a b s
  else if op = 17 then tsA a s
  else noA

theorem dvv_val (a b s : Int) : dvv a b s = (dvA a b s).val := rfl

/-! each part hangs on the rests alone -/
theorem sg_congr {s x y : Int} (h : x % W s = y % W s) : sg x s = sg y s := by unfold sg; rw [h]
theorem lgA_congr {op a b a' b' s : Int} (c : Bool) (hs : Sz s) (ha : U a) (hb : U b) (ha' : U a') (hb' : U b') (h : a % W s = a' % W s) (k : b % W s = b' % W s) : lgA op a b c s = lgA op a' b' c s := by
  have l1 := lg_congr (op := op) hs ha hb ha' hb' h k
  unfold lgA; rw [l1, ng_congr l1, zr_congr l1]
theorem dfA_congr {a b a' b' s : Int} (c : Bool) (h : a % W s = a' % W s) (k : b % W s = b' % W s) : dfA a b c s = dfA a' b' c s := by
  have e : df a b c s = df a' b' c s := by unfold df; rw [sg_congr h, sg_congr k]
  unfold dfA; rw [e, h, k]
theorem smA_congr {a b a' b' s : Int} (c : Bool) (h : a % W s = a' % W s) (k : b % W s = b' % W s) : smA a b c s = smA a' b' c s := by
  have e : sm a b c s = sm a' b' c s := by unfold sm; rw [sg_congr h, sg_congr k]
  unfold smA; rw [e, h, k]
theorem mlA_congr {a b a' b' s : Int} (h : a % W s = a' % W s) (k : b % W s = b' % W s) : mlA a b s = mlA a' b' s := by
  unfold mlA; rw [sg_congr h, sg_congr k]
theorem dvA_congr {a b a' b' s : Int} (h : a % W s = a' % W s) (k : b % W s = b' % W s) : dvA a b s = dvA a' b' s := by
  have e : dq a b s = dq a' b' s := by unfold dq; rw [sg_congr h, sg_congr k]
  have f : dv a b s = dv a' b' s := by unfold dv; rw [e, sg_congr k]
  unfold dvA; rw [e, f, sg_congr k]
theorem cpA_congr {a b a' b' s : Int} (h : a % W s = a' % W s) (k : b % W s = b' % W s) : cpA a b s = cpA a' b' s := by
  unfold cpA; rw [sg_congr h, sg_congr k, h, k]
theorem tsA_congr {a a' s : Int} (h : a % W s = a' % W s) : tsA a s = tsA a' s := by
  unfold tsA; rw [ng_congr h, zr_congr h, h]
theorem an_congr {op a b a' b' s : Int} (c : Bool) (hs : Sz s) (ha : U a) (hb : U b) (ha' : U a') (hb' : U b') (h : a % W s = a' % W s) (k : b % W s = b' % W s) : an op a b c s = an op a' b' c s := by
  unfold an
  rw [lgA_congr c hs ha hb ha' hb' h k, dfA_congr (a := 0) (a' := 0) false rfl h, smA_congr (b := 1) (b' := 1) false h rfl, dfA_congr (b := 1) (b' := 1) false h rfl, smA_congr false k h, dfA_congr false k h, smA_congr c k h, dfA_congr c k h, mlA_congr k h, dvA_congr k h, cpA_congr h k, tsA_congr h]

theorem U_if {p : Prop} [Decidable p] {A B : An} (h : U A.x) (k : U B.x) : U (if p then A else B).x := by split <;> assumption
theorem an_U {op a b : Int} {c : Bool} {s : Int} (hs : Sz s) : U (an op a b c s).x := by
  have r : ∀ x : Int, U (x % W s) := fun x => by have := rest_bound hs x; exact ⟨by omega, by omega⟩
  unfold an
  exact U_if (r _) (U_if (r _) (U_if (r _) (U_if (r _) (U_if (r _) (U_if (r _) (U_if (r _) (U_if (r _) (U_if (r _) (U_if (r _) (U_if (r _) (U_if (r _) ⟨by show (0 : Int) ≤ 0; omega, by show (0 : Int) < _; omega⟩)))))))))))

end Go.Proofs.YteohkobdmkbcpaaGreatDoor.Bt.Al

/- Contracts of sum of package alu. -/
namespace Go.Proofs.YteohkobdmkbcpaaGreatDoor.Bt.Al
open Go.RowKit

/-- an answer without the word whether it can be done -/
def An.pair (A : An) : Value := .tuple #[.int .u32 A.x, .agg #[.bool A.n, .bool A.z, .bool A.v, .bool A.c]]

/-- codes in a block of their own -/
def Fb (W : World) (b : Nat) (l : List Value) : Prop := W.heap[b]? = some (.cells l.toArray 39 (0, 0))

theorem Fb.cell {W : World} {b : Nat} {l : List Value} (h : Fb W b l) (i : Nat) (v : Value) (hv : l[i]? = some v) : W.cell? ⟨b, i, none⟩ = some v := by
  unfold Fb at h; simp [World.cell?, h, hv]
theorem Fb.set {W : World} {b : Nat} {l : List Value} (h : Fb W b l) (i : Nat) (v : Value) : Fb (W.setCell ⟨b, i, none⟩ v) b (l.set i v) := by
  unfold Fb at h ⊢
  simp [World.setCell, Array.getElem?_modify, h]
theorem fb_new {w w1 : World} {l : List Value} (h : Below (w.alloc (.cells l.toArray 39)).heap.size (w.alloc (.cells l.toArray 39)) w1) : Fb w1 w.heap.size l := by
  unfold Fb
  rw [h.block _ (by simp)]
  show (w.heap.push _)[w.heap.size]? = _
  simp

set_option maxHeartbeats 400000 in
set_option maxRecDepth 100000 in
theorem sum_neg (a b s : Int) (c : Bool) (hs : Sz s) (ha : U a) (_ : U b) (w : World) :
    Calls Tryz.prog 224 #[.int .i64 3, .int .u32 a, .int .u32 b, .bool c, .int .i64 s] w fun e w' => e = .returned (dfA 0 a false s).val ∧ Below w.heap.size w w' := by
  have h0 : U 0 := ⟨by omega, by omega⟩
  have h1 : U 1 := ⟨by omega, by omega⟩
  have k : ∀ w, Calls Tryz.prog 175 #[.int .u32 0, .int .u32 a, .bool false, .int .i64 s] w fun e w' => e = .returned (dfA 0 a false s).pair ∧ Below w.heap.size w w' := sub_any 0 a s false hs h0 ha
  have hk : (dfA 0 a false s).k = true := rfl
  clear h0 h1
  generalize dfA 0 a false s = A at *
  obtain ⟨x, n, z, v, cc, ok⟩ := A
  obtain rfl : ok = true := hk
  have K := Lib.hid k
  clear k
  unfold An.pair at K
  go_enter Tryz.func224, Tryz.ntmps224
  go_wp2_with fail
  refine (K.out _).mono ?_
  rintro e w1 ⟨rfl, hb1⟩
  obtain ⟨hc, hf⟩ := bcell hb1
  have hz : w.heap.size < w1.heap.size := by have := hb1.size; simp at this; omega
  go_wp2
  go_region
  go_wp2
  have hB := (((((((((fb_new (l := [.bool false, .bool false, .bool false, .bool false]) hb1).set 0 (.bool n)).set 1 (.bool z)).set 2 (.bool v)).set 3 (.bool cc)).set 0 (.bool n)).set 1 (.bool z)).set 2 (.bool v)).set 3 (.bool cc))
  have hX : Below w.heap.size w (((((((((w1.setCell ⟨w.heap.size, 0, none⟩ (.bool n)).setCell ⟨w.heap.size, 1, none⟩ (.bool z)).setCell ⟨w.heap.size, 2, none⟩ (.bool v)).setCell ⟨w.heap.size, 3, none⟩ (.bool cc)).setCell ⟨w.heap.size, 0, none⟩ (.bool n)).setCell ⟨w.heap.size, 1, none⟩ (.bool z)).setCell ⟨w.heap.size, 2, none⟩ (.bool v)).setCell ⟨w.heap.size, 3, none⟩ (.bool cc))) := by
    iterate 8 refine Below.setCell ?_ (by simp) _
    exact ((Below.refl _ _).alloc (Nat.le_refl _) _).trans (hb1.mono (by simp))
  generalize ((((((((w1.setCell ⟨w.heap.size, 0, none⟩ (.bool n)).setCell ⟨w.heap.size, 1, none⟩ (.bool z)).setCell ⟨w.heap.size, 2, none⟩ (.bool v)).setCell ⟨w.heap.size, 3, none⟩ (.bool cc)).setCell ⟨w.heap.size, 0, none⟩ (.bool n)).setCell ⟨w.heap.size, 1, none⟩ (.bool z)).setCell ⟨w.heap.size, 2, none⟩ (.bool v)).setCell ⟨w.heap.size, 3, none⟩ (.bool cc)) = W at hB hX ⊢
  have r0 := hB.cell 0 _ rfl
  have r1 := hB.cell 1 _ rfl
  have r2 := hB.cell 2 _ rfl
  have r3 := hB.cell 3 _ rfl
  exact bodyPost_ret (v := .tuple #[.int .u32 x, .agg #[.bool n, .bool z, .bool v, .bool cc], .bool true]) (by simp [results, Tryz.results224, go_sem, r0, r1, r2, r3]) rfl ⟨rfl, hX.drew⟩

set_option maxHeartbeats 400000 in
set_option maxRecDepth 100000 in
theorem sum_inc (a b s : Int) (c : Bool) (hs : Sz s) (ha : U a) (_ : U b) (w : World) :
    Calls Tryz.prog 224 #[.int .i64 4, .int .u32 a, .int .u32 b, .bool c, .int .i64 s] w fun e w' => e = .returned (smA a 1 false s).val ∧ Below w.heap.size w w' := by
  have h0 : U 0 := ⟨by omega, by omega⟩
  have h1 : U 1 := ⟨by omega, by omega⟩
  have k : ∀ w, Calls Tryz.prog 173 #[.int .u32 a, .int .u32 1, .bool false, .int .i64 s] w fun e w' => e = .returned (smA a 1 false s).pair ∧ Below w.heap.size w w' := add_any a 1 s false hs ha h1
  have hk : (smA a 1 false s).k = true := rfl
  clear h0 h1
  generalize smA a 1 false s = A at *
  obtain ⟨x, n, z, v, cc, ok⟩ := A
  obtain rfl : ok = true := hk
  have K := Lib.hid k
  clear k
  unfold An.pair at K
  go_enter Tryz.func224, Tryz.ntmps224
  go_wp2_with fail
  refine (K.out _).mono ?_
  rintro e w1 ⟨rfl, hb1⟩
  obtain ⟨hc, hf⟩ := bcell hb1
  have hz : w.heap.size < w1.heap.size := by have := hb1.size; simp at this; omega
  go_wp2
  go_region
  go_wp2
  have hB := (((((((((fb_new (l := [.bool false, .bool false, .bool false, .bool false]) hb1).set 0 (.bool n)).set 1 (.bool z)).set 2 (.bool v)).set 3 (.bool cc)).set 0 (.bool n)).set 1 (.bool z)).set 2 (.bool v)).set 3 (.bool cc))
  have hX : Below w.heap.size w (((((((((w1.setCell ⟨w.heap.size, 0, none⟩ (.bool n)).setCell ⟨w.heap.size, 1, none⟩ (.bool z)).setCell ⟨w.heap.size, 2, none⟩ (.bool v)).setCell ⟨w.heap.size, 3, none⟩ (.bool cc)).setCell ⟨w.heap.size, 0, none⟩ (.bool n)).setCell ⟨w.heap.size, 1, none⟩ (.bool z)).setCell ⟨w.heap.size, 2, none⟩ (.bool v)).setCell ⟨w.heap.size, 3, none⟩ (.bool cc))) := by
    iterate 8 refine Below.setCell ?_ (by simp) _
    exact ((Below.refl _ _).alloc (Nat.le_refl _) _).trans (hb1.mono (by simp))
  generalize ((((((((w1.setCell ⟨w.heap.size, 0, none⟩ (.bool n)).setCell ⟨w.heap.size, 1, none⟩ (.bool z)).setCell ⟨w.heap.size, 2, none⟩ (.bool v)).setCell ⟨w.heap.size, 3, none⟩ (.bool cc)).setCell ⟨w.heap.size, 0, none⟩ (.bool n)).setCell ⟨w.heap.size, 1, none⟩ (.bool z)).setCell ⟨w.heap.size, 2, none⟩ (.bool v)).setCell ⟨w.heap.size, 3, none⟩ (.bool cc)) = W at hB hX ⊢
  have r0 := hB.cell 0 _ rfl
  have r1 := hB.cell 1 _ rfl
  have r2 := hB.cell 2 _ rfl
  have r3 := hB.cell 3 _ rfl
  exact bodyPost_ret (v := .tuple #[.int .u32 x, .agg #[.bool n, .bool z, .bool v, .bool cc], .bool true]) (by simp [results, Tryz.results224, go_sem, r0, r1, r2, r3]) rfl ⟨rfl, hX.drew⟩

set_option maxHeartbeats 400000 in
set_option maxRecDepth 100000 in
theorem sum_dec (a b s : Int) (c : Bool) (hs : Sz s) (ha : U a) (_ : U b) (w : World) :
    Calls Tryz.prog 224 #[.int .i64 5, .int .u32 a, .int .u32 b, .bool c, .int .i64 s] w fun e w' => e = .returned (dfA a 1 false s).val ∧ Below w.heap.size w w' := by
  have h0 : U 0 := ⟨by omega, by omega⟩
  have h1 : U 1 := ⟨by omega, by omega⟩
  have k : ∀ w, Calls Tryz.prog 175 #[.int .u32 a, .int .u32 1, .bool false, .int .i64 s] w fun e w' => e = .returned (dfA a 1 false s).pair ∧ Below w.heap.size w w' := sub_any a 1 s false hs ha h1
  have hk : (dfA a 1 false s).k = true := rfl
  clear h0 h1
  generalize dfA a 1 false s = A at *
  obtain ⟨x, n, z, v, cc, ok⟩ := A
  obtain rfl : ok = true := hk
  have K := Lib.hid k
  clear k
  unfold An.pair at K
  go_enter Tryz.func224, Tryz.ntmps224
  go_wp2_with fail
  refine (K.out _).mono ?_
  rintro e w1 ⟨rfl, hb1⟩
  obtain ⟨hc, hf⟩ := bcell hb1
  have hz : w.heap.size < w1.heap.size := by have := hb1.size; simp at this; omega
  go_wp2
  go_region
  go_wp2
  have hB := (((((((((fb_new (l := [.bool false, .bool false, .bool false, .bool false]) hb1).set 0 (.bool n)).set 1 (.bool z)).set 2 (.bool v)).set 3 (.bool cc)).set 0 (.bool n)).set 1 (.bool z)).set 2 (.bool v)).set 3 (.bool cc))
  have hX : Below w.heap.size w (((((((((w1.setCell ⟨w.heap.size, 0, none⟩ (.bool n)).setCell ⟨w.heap.size, 1, none⟩ (.bool z)).setCell ⟨w.heap.size, 2, none⟩ (.bool v)).setCell ⟨w.heap.size, 3, none⟩ (.bool cc)).setCell ⟨w.heap.size, 0, none⟩ (.bool n)).setCell ⟨w.heap.size, 1, none⟩ (.bool z)).setCell ⟨w.heap.size, 2, none⟩ (.bool v)).setCell ⟨w.heap.size, 3, none⟩ (.bool cc))) := by
    iterate 8 refine Below.setCell ?_ (by simp) _
    exact ((Below.refl _ _).alloc (Nat.le_refl _) _).trans (hb1.mono (by simp))
  generalize ((((((((w1.setCell ⟨w.heap.size, 0, none⟩ (.bool n)).setCell ⟨w.heap.size, 1, none⟩ (.bool z)).setCell ⟨w.heap.size, 2, none⟩ (.bool v)).setCell ⟨w.heap.size, 3, none⟩ (.bool cc)).setCell ⟨w.heap.size, 0, none⟩ (.bool n)).setCell ⟨w.heap.size, 1, none⟩ (.bool z)).setCell ⟨w.heap.size, 2, none⟩ (.bool v)).setCell ⟨w.heap.size, 3, none⟩ (.bool cc)) = W at hB hX ⊢
  have r0 := hB.cell 0 _ rfl
  have r1 := hB.cell 1 _ rfl
  have r2 := hB.cell 2 _ rfl
  have r3 := hB.cell 3 _ rfl
  exact bodyPost_ret (v := .tuple #[.int .u32 x, .agg #[.bool n, .bool z, .bool v, .bool cc], .bool true]) (by simp [results, Tryz.results224, go_sem, r0, r1, r2, r3]) rfl ⟨rfl, hX.drew⟩

set_option maxHeartbeats 400000 in
set_option maxRecDepth 100000 in
theorem sum_add (a b s : Int) (c : Bool) (hs : Sz s) (ha : U a) (hb : U b) (w : World) :
    Calls Tryz.prog 224 #[.int .i64 6, .int .u32 a, .int .u32 b, .bool c, .int .i64 s] w fun e w' => e = .returned (smA b a false s).val ∧ Below w.heap.size w w' := by
  have h0 : U 0 := ⟨by omega, by omega⟩
  have h1 : U 1 := ⟨by omega, by omega⟩
  have k : ∀ w, Calls Tryz.prog 173 #[.int .u32 b, .int .u32 a, .bool false, .int .i64 s] w fun e w' => e = .returned (smA b a false s).pair ∧ Below w.heap.size w w' := add_any b a s false hs hb ha
  have hk : (smA b a false s).k = true := rfl
  clear h0 h1
  generalize smA b a false s = A at *
  obtain ⟨x, n, z, v, cc, ok⟩ := A
  obtain rfl : ok = true := hk
  have K := Lib.hid k
  clear k
  unfold An.pair at K
  go_enter Tryz.func224, Tryz.ntmps224
  go_wp2_with fail
  refine (K.out _).mono ?_
  rintro e w1 ⟨rfl, hb1⟩
  obtain ⟨hc, hf⟩ := bcell hb1
  have hz : w.heap.size < w1.heap.size := by have := hb1.size; simp at this; omega
  go_wp2
  go_region
  go_wp2
  have hB := (((((((((fb_new (l := [.bool false, .bool false, .bool false, .bool false]) hb1).set 0 (.bool n)).set 1 (.bool z)).set 2 (.bool v)).set 3 (.bool cc)).set 0 (.bool n)).set 1 (.bool z)).set 2 (.bool v)).set 3 (.bool cc))
  have hX : Below w.heap.size w (((((((((w1.setCell ⟨w.heap.size, 0, none⟩ (.bool n)).setCell ⟨w.heap.size, 1, none⟩ (.bool z)).setCell ⟨w.heap.size, 2, none⟩ (.bool v)).setCell ⟨w.heap.size, 3, none⟩ (.bool cc)).setCell ⟨w.heap.size, 0, none⟩ (.bool n)).setCell ⟨w.heap.size, 1, none⟩ (.bool z)).setCell ⟨w.heap.size, 2, none⟩ (.bool v)).setCell ⟨w.heap.size, 3, none⟩ (.bool cc))) := by
    iterate 8 refine Below.setCell ?_ (by simp) _
    exact ((Below.refl _ _).alloc (Nat.le_refl _) _).trans (hb1.mono (by simp))
  generalize ((((((((w1.setCell ⟨w.heap.size, 0, none⟩ (.bool n)).setCell ⟨w.heap.size, 1, none⟩ (.bool z)).setCell ⟨w.heap.size, 2, none⟩ (.bool v)).setCell ⟨w.heap.size, 3, none⟩ (.bool cc)).setCell ⟨w.heap.size, 0, none⟩ (.bool n)).setCell ⟨w.heap.size, 1, none⟩ (.bool z)).setCell ⟨w.heap.size, 2, none⟩ (.bool v)).setCell ⟨w.heap.size, 3, none⟩ (.bool cc)) = W at hB hX ⊢
  have r0 := hB.cell 0 _ rfl
  have r1 := hB.cell 1 _ rfl
  have r2 := hB.cell 2 _ rfl
  have r3 := hB.cell 3 _ rfl
  exact bodyPost_ret (v := .tuple #[.int .u32 x, .agg #[.bool n, .bool z, .bool v, .bool cc], .bool true]) (by simp [results, Tryz.results224, go_sem, r0, r1, r2, r3]) rfl ⟨rfl, hX.drew⟩

set_option maxHeartbeats 400000 in
set_option maxRecDepth 100000 in
theorem sum_sub (a b s : Int) (c : Bool) (hs : Sz s) (ha : U a) (hb : U b) (w : World) :
    Calls Tryz.prog 224 #[.int .i64 7, .int .u32 a, .int .u32 b, .bool c, .int .i64 s] w fun e w' => e = .returned (dfA b a false s).val ∧ Below w.heap.size w w' := by
  have h0 : U 0 := ⟨by omega, by omega⟩
  have h1 : U 1 := ⟨by omega, by omega⟩
  have k : ∀ w, Calls Tryz.prog 175 #[.int .u32 b, .int .u32 a, .bool false, .int .i64 s] w fun e w' => e = .returned (dfA b a false s).pair ∧ Below w.heap.size w w' := sub_any b a s false hs hb ha
  have hk : (dfA b a false s).k = true := rfl
  clear h0 h1
  generalize dfA b a false s = A at *
  obtain ⟨x, n, z, v, cc, ok⟩ := A
  obtain rfl : ok = true := hk
  have K := Lib.hid k
  clear k
  unfold An.pair at K
  go_enter Tryz.func224, Tryz.ntmps224
  go_wp2_with fail
  refine (K.out _).mono ?_
  rintro e w1 ⟨rfl, hb1⟩
  obtain ⟨hc, hf⟩ := bcell hb1
  have hz : w.heap.size < w1.heap.size := by have := hb1.size; simp at this; omega
  go_wp2
  go_region
  go_wp2
  have hB := (((((((((fb_new (l := [.bool false, .bool false, .bool false, .bool false]) hb1).set 0 (.bool n)).set 1 (.bool z)).set 2 (.bool v)).set 3 (.bool cc)).set 0 (.bool n)).set 1 (.bool z)).set 2 (.bool v)).set 3 (.bool cc))
  have hX : Below w.heap.size w (((((((((w1.setCell ⟨w.heap.size, 0, none⟩ (.bool n)).setCell ⟨w.heap.size, 1, none⟩ (.bool z)).setCell ⟨w.heap.size, 2, none⟩ (.bool v)).setCell ⟨w.heap.size, 3, none⟩ (.bool cc)).setCell ⟨w.heap.size, 0, none⟩ (.bool n)).setCell ⟨w.heap.size, 1, none⟩ (.bool z)).setCell ⟨w.heap.size, 2, none⟩ (.bool v)).setCell ⟨w.heap.size, 3, none⟩ (.bool cc))) := by
    iterate 8 refine Below.setCell ?_ (by simp) _
    exact ((Below.refl _ _).alloc (Nat.le_refl _) _).trans (hb1.mono (by simp))
  generalize ((((((((w1.setCell ⟨w.heap.size, 0, none⟩ (.bool n)).setCell ⟨w.heap.size, 1, none⟩ (.bool z)).setCell ⟨w.heap.size, 2, none⟩ (.bool v)).setCell ⟨w.heap.size, 3, none⟩ (.bool cc)).setCell ⟨w.heap.size, 0, none⟩ (.bool n)).setCell ⟨w.heap.size, 1, none⟩ (.bool z)).setCell ⟨w.heap.size, 2, none⟩ (.bool v)).setCell ⟨w.heap.size, 3, none⟩ (.bool cc)) = W at hB hX ⊢
  have r0 := hB.cell 0 _ rfl
  have r1 := hB.cell 1 _ rfl
  have r2 := hB.cell 2 _ rfl
  have r3 := hB.cell 3 _ rfl
  exact bodyPost_ret (v := .tuple #[.int .u32 x, .agg #[.bool n, .bool z, .bool v, .bool cc], .bool true]) (by simp [results, Tryz.results224, go_sem, r0, r1, r2, r3]) rfl ⟨rfl, hX.drew⟩

set_option maxHeartbeats 400000 in
set_option maxRecDepth 100000 in
theorem sum_addc (a b s : Int) (c : Bool) (hs : Sz s) (ha : U a) (hb : U b) (w : World) :
    Calls Tryz.prog 224 #[.int .i64 8, .int .u32 a, .int .u32 b, .bool c, .int .i64 s] w fun e w' => e = .returned (smA b a c s).val ∧ Below w.heap.size w w' := by
  have h0 : U 0 := ⟨by omega, by omega⟩
  have h1 : U 1 := ⟨by omega, by omega⟩
  have k : ∀ w, Calls Tryz.prog 173 #[.int .u32 b, .int .u32 a, .bool c, .int .i64 s] w fun e w' => e = .returned (smA b a c s).pair ∧ Below w.heap.size w w' := add_any b a s c hs hb ha
  have hk : (smA b a c s).k = true := rfl
  clear h0 h1
  generalize smA b a c s = A at *
  obtain ⟨x, n, z, v, cc, ok⟩ := A
  obtain rfl : ok = true := hk
  have K := Lib.hid k
  clear k
  unfold An.pair at K
  go_enter Tryz.func224, Tryz.ntmps224
  go_wp2_with fail
  refine (K.out _).mono ?_
  rintro e w1 ⟨rfl, hb1⟩
  obtain ⟨hc, hf⟩ := bcell hb1
  have hz : w.heap.size < w1.heap.size := by have := hb1.size; simp at this; omega
  go_wp2
  go_region
  go_wp2
  have hB := (((((((((fb_new (l := [.bool false, .bool false, .bool false, .bool false]) hb1).set 0 (.bool n)).set 1 (.bool z)).set 2 (.bool v)).set 3 (.bool cc)).set 0 (.bool n)).set 1 (.bool z)).set 2 (.bool v)).set 3 (.bool cc))
  have hX : Below w.heap.size w (((((((((w1.setCell ⟨w.heap.size, 0, none⟩ (.bool n)).setCell ⟨w.heap.size, 1, none⟩ (.bool z)).setCell ⟨w.heap.size, 2, none⟩ (.bool v)).setCell ⟨w.heap.size, 3, none⟩ (.bool cc)).setCell ⟨w.heap.size, 0, none⟩ (.bool n)).setCell ⟨w.heap.size, 1, none⟩ (.bool z)).setCell ⟨w.heap.size, 2, none⟩ (.bool v)).setCell ⟨w.heap.size, 3, none⟩ (.bool cc))) := by
    iterate 8 refine Below.setCell ?_ (by simp) _
    exact ((Below.refl _ _).alloc (Nat.le_refl _) _).trans (hb1.mono (by simp))
  generalize ((((((((w1.setCell ⟨w.heap.size, 0, none⟩ (.bool n)).setCell ⟨w.heap.size, 1, none⟩ (.bool z)).setCell ⟨w.heap.size, 2, none⟩ (.bool v)).setCell ⟨w.heap.size, 3, none⟩ (.bool cc)).setCell ⟨w.heap.size, 0, none⟩ (.bool n)).setCell ⟨w.heap.size, 1, none⟩ (.bool z)).setCell ⟨w.heap.size, 2, none⟩ (.bool v)).setCell ⟨w.heap.size, 3, none⟩ (.bool cc)) = W at hB hX ⊢
  have r0 := hB.cell 0 _ rfl
  have r1 := hB.cell 1 _ rfl
  have r2 := hB.cell 2 _ rfl
  have r3 := hB.cell 3 _ rfl
  exact bodyPost_ret (v := .tuple #[.int .u32 x, .agg #[.bool n, .bool z, .bool v, .bool cc], .bool true]) (by simp [results, Tryz.results224, go_sem, r0, r1, r2, r3]) rfl ⟨rfl, hX.drew⟩

set_option maxHeartbeats 400000 in
set_option maxRecDepth 100000 in
theorem sum_subc (a b s : Int) (c : Bool) (hs : Sz s) (ha : U a) (hb : U b) (w : World) :
    Calls Tryz.prog 224 #[.int .i64 9, .int .u32 a, .int .u32 b, .bool c, .int .i64 s] w fun e w' => e = .returned (dfA b a c s).val ∧ Below w.heap.size w w' := by
  have h0 : U 0 := ⟨by omega, by omega⟩
  have h1 : U 1 := ⟨by omega, by omega⟩
  have k : ∀ w, Calls Tryz.prog 175 #[.int .u32 b, .int .u32 a, .bool c, .int .i64 s] w fun e w' => e = .returned (dfA b a c s).pair ∧ Below w.heap.size w w' := sub_any b a s c hs hb ha
  have hk : (dfA b a c s).k = true := rfl
  clear h0 h1
  generalize dfA b a c s = A at *
  obtain ⟨x, n, z, v, cc, ok⟩ := A
  obtain rfl : ok = true := hk
  have K := Lib.hid k
  clear k
  unfold An.pair at K
  go_enter Tryz.func224, Tryz.ntmps224
  go_wp2_with fail
  refine (K.out _).mono ?_
  rintro e w1 ⟨rfl, hb1⟩
  obtain ⟨hc, hf⟩ := bcell hb1
  have hz : w.heap.size < w1.heap.size := by have := hb1.size; simp at this; omega
  go_wp2
  go_region
  go_wp2
  have hB := (((((((((fb_new (l := [.bool false, .bool false, .bool false, .bool false]) hb1).set 0 (.bool n)).set 1 (.bool z)).set 2 (.bool v)).set 3 (.bool cc)).set 0 (.bool n)).set 1 (.bool z)).set 2 (.bool v)).set 3 (.bool cc))
  have hX : Below w.heap.size w (((((((((w1.setCell ⟨w.heap.size, 0, none⟩ (.bool n)).setCell ⟨w.heap.size, 1, none⟩ (.bool z)).setCell ⟨w.heap.size, 2, none⟩ (.bool v)).setCell ⟨w.heap.size, 3, none⟩ (.bool cc)).setCell ⟨w.heap.size, 0, none⟩ (.bool n)).setCell ⟨w.heap.size, 1, none⟩ (.bool z)).setCell ⟨w.heap.size, 2, none⟩ (.bool v)).setCell ⟨w.heap.size, 3, none⟩ (.bool cc))) := by
    iterate 8 refine Below.setCell ?_ (by simp) _
    exact ((Below.refl _ _).alloc (Nat.le_refl _) _).trans (hb1.mono (by simp))
  generalize ((((((((w1.setCell ⟨w.heap.size, 0, none⟩ (.bool n)).setCell ⟨w.heap.size, 1, none⟩ (.bool z)).setCell ⟨w.heap.size, 2, none⟩ (.bool v)).setCell ⟨w.heap.size, 3, none⟩ (.bool cc)).setCell ⟨w.heap.size, 0, none⟩ (.bool n)).setCell ⟨w.heap.size, 1, none⟩ (.bool z)).setCell ⟨w.heap.size, 2, none⟩ (.bool v)).setCell ⟨w.heap.size, 3, none⟩ (.bool cc)) = W at hB hX ⊢
  have r0 := hB.cell 0 _ rfl
  have r1 := hB.cell 1 _ rfl
  have r2 := hB.cell 2 _ rfl
  have r3 := hB.cell 3 _ rfl
  exact bodyPost_ret (v := .tuple #[.int .u32 x, .agg #[.bool n, .bool z, .bool v, .bool cc], .bool true]) (by simp [results, Tryz.results224, go_sem, r0, r1, r2, r3]) rfl ⟨rfl, hX.drew⟩

set_option maxHeartbeats 400000 in
set_option maxRecDepth 100000 in
theorem sum_mul (a b s : Int) (c : Bool) (hs : Sz s) (ha : U a) (hb : U b) (w : World) :
    Calls Tryz.prog 224 #[.int .i64 10, .int .u32 a, .int .u32 b, .bool c, .int .i64 s] w fun e w' => e = .returned (mlA b a s).val ∧ Below w.heap.size w w' := by
  have h0 : U 0 := ⟨by omega, by omega⟩
  have h1 : U 1 := ⟨by omega, by omega⟩
  have k : ∀ w, Calls Tryz.prog 252 #[.int .u32 b, .int .u32 a, .int .i64 s] w fun e w' => e = .returned (mlA b a s).pair ∧ Below w.heap.size w w' := mul_any b a s hs hb ha
  have hk : (mlA b a s).k = true := rfl
  clear h0 h1
  generalize mlA b a s = A at *
  obtain ⟨x, n, z, v, cc, ok⟩ := A
  obtain rfl : ok = true := hk
  have K := Lib.hid k
  clear k
  unfold An.pair at K
  go_enter Tryz.func224, Tryz.ntmps224
  go_wp2_with fail
  refine (K.out _).mono ?_
  rintro e w1 ⟨rfl, hb1⟩
  obtain ⟨hc, hf⟩ := bcell hb1
  have hz : w.heap.size < w1.heap.size := by have := hb1.size; simp at this; omega
  go_wp2
  go_region
  go_wp2
  have hB := (((((((((fb_new (l := [.bool false, .bool false, .bool false, .bool false]) hb1).set 0 (.bool n)).set 1 (.bool z)).set 2 (.bool v)).set 3 (.bool cc)).set 0 (.bool n)).set 1 (.bool z)).set 2 (.bool v)).set 3 (.bool cc))
  have hX : Below w.heap.size w (((((((((w1.setCell ⟨w.heap.size, 0, none⟩ (.bool n)).setCell ⟨w.heap.size, 1, none⟩ (.bool z)).setCell ⟨w.heap.size, 2, none⟩ (.bool v)).setCell ⟨w.heap.size, 3, none⟩ (.bool cc)).setCell ⟨w.heap.size, 0, none⟩ (.bool n)).setCell ⟨w.heap.size, 1, none⟩ (.bool z)).setCell ⟨w.heap.size, 2, none⟩ (.bool v)).setCell ⟨w.heap.size, 3, none⟩ (.bool cc))) := by
    iterate 8 refine Below.setCell ?_ (by simp) _
    exact ((Below.refl _ _).alloc (Nat.le_refl _) _).trans (hb1.mono (by simp))
  generalize ((((((((w1.setCell ⟨w.heap.size, 0, none⟩ (.bool n)).setCell ⟨w.heap.size, 1, none⟩ (.bool z)).setCell ⟨w.heap.size, 2, none⟩ (.bool v)).setCell ⟨w.heap.size, 3, none⟩ (.bool cc)).setCell ⟨w.heap.size, 0, none⟩ (.bool n)).setCell ⟨w.heap.size, 1, none⟩ (.bool z)).setCell ⟨w.heap.size, 2, none⟩ (.bool v)).setCell ⟨w.heap.size, 3, none⟩ (.bool cc)) = W at hB hX ⊢
  have r0 := hB.cell 0 _ rfl
  have r1 := hB.cell 1 _ rfl
  have r2 := hB.cell 2 _ rfl
  have r3 := hB.cell 3 _ rfl
  exact bodyPost_ret (v := .tuple #[.int .u32 x, .agg #[.bool n, .bool z, .bool v, .bool cc], .bool true]) (by simp [results, Tryz.results224, go_sem, r0, r1, r2, r3]) rfl ⟨rfl, hX.drew⟩

set_option maxHeartbeats 400000 in
set_option maxRecDepth 100000 in
theorem sum_none (op a b s : Int) (c : Bool) (h : op < 3 ∨ 10 < op) (w : World) :
    Calls Tryz.prog 224 #[.int .i64 op, .int .u32 a, .int .u32 b, .bool c, .int .i64 s] w fun e w' => e = .returned noA.val ∧ Below w.heap.size w w' := by
  have k3 : (op == 3) = false := by simp; omega
  have k4 : (op == 4) = false := by simp; omega
  have k5 : (op == 5) = false := by simp; omega
  have k6 : (op == 6) = false := by simp; omega
  have k7 : (op == 7) = false := by simp; omega
  have k8 : (op == 8) = false := by simp; omega
  have k9 : (op == 9) = false := by simp; omega
  have k10 : (op == 10) = false := by simp; omega
  clear h
  go_enter Tryz.func224, Tryz.ntmps224
  go_wp2
  exact bodyPost_ret (v := noA.val) (by simp [results, Tryz.results224, go_sem, noA, An.val]) rfl ⟨rfl, by
    repeat refine Below.setCell ?_ (by simp) _
    exact (Below.refl _ _).alloc (Nat.le_refl _) _⟩

end Go.Proofs.YteohkobdmkbcpaaGreatDoor.Bt.Al

/- Contract of Do of package alu. -/
namespace Go.Proofs.YteohkobdmkbcpaaGreatDoor.Bt.Al
open Go.RowKit

set_option maxHeartbeats 400000 in
set_option maxRecDepth 100000 in
theorem do_logic (op a b s : Int) (c : Bool) (hs : Sz s) (ha : U a) (hb : U b) (hl : lgc op = true) (w : World) :
    Calls Tryz.prog 176 #[.int .i64 op, .int .u32 a, .int .u32 b, .bool c, .int .i64 s] w fun e w' => e = .returned (lgA op a b c s).val ∧ Below w.heap.size w w' := by
  have hU := lg_U (op := op) ha hb
  have hr := rest_bound hs (lg op a b)
  have hU2 : U (lg op a b % W s) := ⟨by omega, by omega⟩
  have HM := Lib.hid (and_mask hs hU)
  have kL := logic_any op
  rw [hl] at kL
  have KL := Lib.hid kL
  have KB := Lib.hid (bitwise_any op a b hl)
  have kS := signs_any (lg op a b % W s) s hs hU2
  rw [ng_of_mod hs, zr_of_mod hs] at kS
  have KS := Lib.hid kS
  have HV := Lib.hid (show (lgA op a b c s).val = .tuple #[.int .u32 (lg op a b % W s), .agg #[.bool (ng (lg op a b) s), .bool (zr (lg op a b) s), .bool false, .bool c], .bool true] from rfl)
  clear kL kS hl hr
  generalize ng (lg op a b) s = n at *
  generalize zr (lg op a b) s = z at *
  go_enter Tryz.func176, Tryz.ntmps176
  go_wp2_with (first | (go_at_call 221; refine (KL.out _).mono ?_; rintro e w' ⟨rfl, rfl⟩) | (go_at_call 222; refine (KB.out _).mono ?_; rintro e w' ⟨rfl, rfl⟩) | (go_at_call 91; refine (mask_any _ hs _).mono ?_; rintro e w' ⟨rfl, rfl⟩) | fail)
  rw [HM.out]
  refine (KS.out _).mono ?_
  rintro e w1 ⟨rfl, hb1⟩
  obtain ⟨hc, hf⟩ := bcell hb1
  have hz : w.heap.size < w1.heap.size := by have := hb1.size; simp at this; omega
  go_wp2
  go_region
  go_wp2
  exact bodyPost_ret (v := .tuple #[.int .u32 (lg op a b % W s), .agg #[.bool n, .bool z, .bool false, .bool c], .bool true]) (by simp [results, Tryz.results176, go_sem, hc, hz]) rfl ⟨by rw [HV.out], by
    refine Below.drew (Below.alloc ?_ (by simp; omega) _)
    iterate 4 refine Below.setCell ?_ (by simp) _
    exact ((Below.refl _ _).alloc (Nat.le_refl _) _).trans (hb1.mono (by simp))⟩

set_option maxHeartbeats 400000 in
set_option maxRecDepth 100000 in
theorem do_div (a b s : Int) (c : Bool) (hs : Sz s) (ha : U a) (hb : U b) (w : World) :
    Calls Tryz.prog 176 #[.int .i64 11, .int .u32 a, .int .u32 b, .bool c, .int .i64 s] w fun e w' => e = .returned (dvA b a s).val ∧ Below w.heap.size w w' := by
  have k : ∀ w, Calls Tryz.prog 223 #[.int .u32 b, .int .u32 a, .int .i64 s] w fun e w' => e = .returned (dvA b a s).val ∧ Below w.heap.size w w' := div_any b a s hs hb ha
  generalize dvA b a s = A at *
  obtain ⟨x, n, z, v, cc, ok⟩ := A
  have K := Lib.hid k
  clear k
  unfold An.val at *
  have KL := Lib.hid (logic_any 11)
  go_enter Tryz.func176, Tryz.ntmps176
  go_wp2_with (first | (go_at_call 221; refine (KL.out _).mono ?_; rintro e w' ⟨rfl, rfl⟩) | fail)
  refine (K.out _).mono ?_
  rintro e w1 ⟨rfl, hb1⟩
  obtain ⟨hc, hf⟩ := bcell hb1
  have hz : w.heap.size < w1.heap.size := by have := hb1.size; simp at this; omega
  go_wp2
  exact bodyPost_ret (v := .tuple #[.int .u32 x, .agg #[.bool n, .bool z, .bool v, .bool cc], .bool ok]) (by simp [results, Tryz.results176, go_sem, hc]) rfl ⟨rfl, by
    iterate 4 refine Below.setCell ?_ (by simp) _
    exact ((Below.refl _ _).alloc (Nat.le_refl _) _).trans (hb1.mono (by simp))⟩

set_option maxHeartbeats 400000 in
set_option maxRecDepth 100000 in
theorem do_cmp (a b s : Int) (c : Bool) (hs : Sz s) (ha : U a) (hb : U b) (w : World) :
    Calls Tryz.prog 176 #[.int .i64 16, .int .u32 a, .int .u32 b, .bool c, .int .i64 s] w fun e w' => e = .returned (cpA a b s).val ∧ Below w.heap.size w w' := by
  have HM := Lib.hid (and_mask hs ha)
  have k : ∀ w, Calls Tryz.prog 151 #[.int .u32 a, .int .u32 b, .int .i64 s] w fun e w' => e = .returned (.agg #[.bool (cpA a b s).n, .bool (cpA a b s).z, .bool (cpA a b s).v, .bool (cpA a b s).c]) ∧ Below w.heap.size w w' := compare_any a b s hs ha hb
  have hk : (cpA a b s).k = true := rfl
  have hx : (cpA a b s).x = a % W s := rfl
  generalize cpA a b s = A at *
  obtain ⟨x, n, z, v, cc, ok⟩ := A
  obtain rfl : ok = true := hk
  obtain rfl : x = a % W s := hx
  have K := Lib.hid k
  clear k
  unfold An.val at *
  have KL := Lib.hid (logic_any 16)
  go_enter Tryz.func176, Tryz.ntmps176
  go_wp2_with (first | (go_at_call 221; refine (KL.out _).mono ?_; rintro e w' ⟨rfl, rfl⟩) | (go_at_call 91; refine (mask_any _ hs _).mono ?_; rintro e w' ⟨rfl, rfl⟩) | fail)
  refine (K.out _).mono ?_
  rintro e w1 ⟨rfl, hb1⟩
  obtain ⟨hc, hf⟩ := bcell hb1
  have hz : w.heap.size < w1.heap.size := by have := hb1.size; simp at this; omega
  go_wp2_with (first | (go_at_call 91; refine (mask_any _ hs _).mono ?_; rintro e w' ⟨rfl, rfl⟩) | fail)
  rw [HM.out]
  exact bodyPost_ret (v := .tuple #[.int .u32 (a % W s), .agg #[.bool n, .bool z, .bool v, .bool cc], .bool true]) (by simp [results, Tryz.results176, go_sem, hc]) rfl ⟨rfl, by
    iterate 4 refine Below.setCell ?_ (by simp) _
    exact ((Below.refl _ _).alloc (Nat.le_refl _) _).trans (hb1.mono (by simp))⟩

set_option maxHeartbeats 400000 in
set_option maxRecDepth 100000 in
theorem do_test (a b s : Int) (c : Bool) (hs : Sz s) (ha : U a) (w : World) :
    Calls Tryz.prog 176 #[.int .i64 17, .int .u32 a, .int .u32 b, .bool c, .int .i64 s] w fun e w' => e = .returned (tsA a s).val ∧ Below w.heap.size w w' := by
  have HM := Lib.hid (and_mask hs ha)
  have k : ∀ w, Calls Tryz.prog 185 #[.int .u32 a, .int .i64 s] w fun e w' => e = .returned (.agg #[.bool (tsA a s).n, .bool (tsA a s).z, .bool (tsA a s).v, .bool (tsA a s).c]) ∧ Below w.heap.size w w' := signs_any a s hs ha
  have hk : (tsA a s).k = true := rfl
  have hx : (tsA a s).x = a % W s := rfl
  generalize tsA a s = A at *
  obtain ⟨x, n, z, v, cc, ok⟩ := A
  obtain rfl : ok = true := hk
  obtain rfl : x = a % W s := hx
  have K := Lib.hid k
  clear k
  unfold An.val at *
  have KL := Lib.hid (logic_any 17)
  go_enter Tryz.func176, Tryz.ntmps176
  go_wp2_with (first | (go_at_call 221; refine (KL.out _).mono ?_; rintro e w' ⟨rfl, rfl⟩) | (go_at_call 91; refine (mask_any _ hs _).mono ?_; rintro e w' ⟨rfl, rfl⟩) | fail)
  refine (K.out _).mono ?_
  rintro e w1 ⟨rfl, hb1⟩
  obtain ⟨hc, hf⟩ := bcell hb1
  have hz : w.heap.size < w1.heap.size := by have := hb1.size; simp at this; omega
  go_wp2_with (first | (go_at_call 91; refine (mask_any _ hs _).mono ?_; rintro e w' ⟨rfl, rfl⟩) | fail)
  rw [HM.out]
  exact bodyPost_ret (v := .tuple #[.int .u32 (a % W s), .agg #[.bool n, .bool z, .bool v, .bool cc], .bool true]) (by simp [results, Tryz.results176, go_sem, hc]) rfl ⟨rfl, by
    iterate 4 refine Below.setCell ?_ (by simp) _
    exact ((Below.refl _ _).alloc (Nat.le_refl _) _).trans (hb1.mono (by simp))⟩

set_option maxHeartbeats 400000 in
set_option maxRecDepth 100000 in
theorem do_sum (op a b s : Int) (c : Bool) (A : An) (hl : lgc op = false) (h1 : op ≠ 11) (h2 : op ≠ 16) (h3 : op ≠ 17)
    (k : ∀ w, Calls Tryz.prog 224 #[.int .i64 op, .int .u32 a, .int .u32 b, .bool c, .int .i64 s] w fun e w' => e = .returned A.val ∧ Below w.heap.size w w') (w : World) :
    Calls Tryz.prog 176 #[.int .i64 op, .int .u32 a, .int .u32 b, .bool c, .int .i64 s] w fun e w' => e = .returned A.val ∧ Below w.heap.size w w' := by
  have kL := logic_any op
  rw [hl] at kL
  have KL := Lib.hid kL
  have k1 : (op == 11) = false := by simp [h1]
  have k2 : (op == 16) = false := by simp [h2]
  have k3 : (op == 17) = false := by simp [h3]
  obtain ⟨x, n, z, v, cc, ok⟩ := A
  have K := Lib.hid k
  clear k kL hl h1 h2 h3
  unfold An.val at *
  go_enter Tryz.func176, Tryz.ntmps176
  go_wp2_with (first | (go_at_call 221; refine (KL.out _).mono ?_; rintro e w' ⟨rfl, rfl⟩) | fail)
  refine (K.out _).mono ?_
  rintro e w1 ⟨rfl, hb1⟩
  obtain ⟨hc, hf⟩ := bcell hb1
  have hz : w.heap.size < w1.heap.size := by have := hb1.size; simp at this; omega
  go_wp2
  exact bodyPost_ret (v := .tuple #[.int .u32 x, .agg #[.bool n, .bool z, .bool v, .bool cc], .bool ok]) (by simp [results, Tryz.results176, go_sem, hc]) rfl ⟨rfl, by
    iterate 4 refine Below.setCell ?_ (by simp) _
    exact ((Below.refl _ _).alloc (Nat.le_refl _) _).trans (hb1.mono (by simp))⟩

/-- which operation it is -/
theorem op_cases (op : Int) : lgc op = true ∨ op = 3 ∨ op = 4 ∨ op = 5 ∨ op = 6 ∨ op = 7 ∨ op = 8 ∨ op = 9 ∨ op = 10 ∨ op = 11 ∨ op = 16 ∨ op = 17 ∨ (lgc op = false ∧ (op < 3 ∨ 10 < op) ∧ op ≠ 11 ∧ op ≠ 16 ∧ op ≠ 17) := by
  cases h : lgc op
  · have := lgc_not h
    by_cases h3 : op = 3
    · exact .inr (.inl h3)
    by_cases h4 : op = 4
    · exact .inr (.inr (.inl h4))
    by_cases h5 : op = 5
    · exact .inr (.inr (.inr (.inl h5)))
    by_cases h6 : op = 6
    · exact .inr (.inr (.inr (.inr (.inl h6))))
    by_cases h7 : op = 7
    · exact .inr (.inr (.inr (.inr (.inr (.inl h7)))))
    by_cases h8 : op = 8
    · exact .inr (.inr (.inr (.inr (.inr (.inr (.inl h8))))))
    by_cases h9 : op = 9
    · exact .inr (.inr (.inr (.inr (.inr (.inr (.inr (.inl h9)))))))
    by_cases h10 : op = 10
    · exact .inr (.inr (.inr (.inr (.inr (.inr (.inr (.inr (.inl h10))))))))
    by_cases h11 : op = 11
    · exact .inr (.inr (.inr (.inr (.inr (.inr (.inr (.inr (.inr (.inl h11)))))))))
    by_cases h16 : op = 16
    · exact .inr (.inr (.inr (.inr (.inr (.inr (.inr (.inr (.inr (.inr (.inl h16))))))))))
    by_cases h17 : op = 17
    · exact .inr (.inr (.inr (.inr (.inr (.inr (.inr (.inr (.inr (.inr (.inr (.inl h17)))))))))))
    exact .inr (.inr (.inr (.inr (.inr (.inr (.inr (.inr (.inr (.inr (.inr (.inr ⟨rfl, by omega, h11, h16, h17⟩)))))))))))
  · exact .inl rfl

theorem an_lg {op a b s : Int} {c : Bool} (h : lgc op = true) : an op a b c s = lgA op a b c s := by unfold an; rw [if_pos h]
theorem an_no {op a b s : Int} {c : Bool} (h : lgc op = false) (h0 : op < 3 ∨ 10 < op) (h1 : op ≠ 11) (h2 : op ≠ 16) (h3 : op ≠ 17) : an op a b c s = noA := by
  unfold an
  rw [if_neg (by rw [h]; simp), if_neg (by omega), if_neg (by omega), if_neg (by omega), if_neg (by omega), if_neg (by omega), if_neg (by omega), if_neg (by omega), if_neg (by omega), if_neg h1, if_neg h2, if_neg h3]

theorem do_any (op a b s : Int) (c : Bool) (hs : Sz s) (ha : U a) (hb : U b) (w : World) :
    Calls Tryz.prog 176 #[.int .i64 op, .int .u32 a, .int .u32 b, .bool c, .int .i64 s] w fun e w' => e = .returned (an op a b c s).val ∧ Below w.heap.size w w' := by
  rcases op_cases op with h | rfl | rfl | rfl | rfl | rfl | rfl | rfl | rfl | rfl | rfl | rfl | ⟨h, h0, h1, h2, h3⟩
  · rw [an_lg h]; exact do_logic op a b s c hs ha hb h w
  · exact do_sum 3 a b s c (dfA 0 a false s) rfl (by omega) (by omega) (by omega) (sum_neg a b s c hs ha hb) w
  · exact do_sum 4 a b s c (smA a 1 false s) rfl (by omega) (by omega) (by omega) (sum_inc a b s c hs ha hb) w
  · exact do_sum 5 a b s c (dfA a 1 false s) rfl (by omega) (by omega) (by omega) (sum_dec a b s c hs ha hb) w
  · exact do_sum 6 a b s c (smA b a false s) rfl (by omega) (by omega) (by omega) (sum_add a b s c hs ha hb) w
  · exact do_sum 7 a b s c (dfA b a false s) rfl (by omega) (by omega) (by omega) (sum_sub a b s c hs ha hb) w
  · exact do_sum 8 a b s c (smA b a c s) rfl (by omega) (by omega) (by omega) (sum_addc a b s c hs ha hb) w
  · exact do_sum 9 a b s c (dfA b a c s) rfl (by omega) (by omega) (by omega) (sum_subc a b s c hs ha hb) w
  · exact do_sum 10 a b s c (mlA b a s) rfl (by omega) (by omega) (by omega) (sum_mul a b s c hs ha hb) w
  · exact do_div a b s c hs ha hb w
  · exact do_cmp a b s c hs ha hb w
  · exact do_test a b s c hs ha w
  · rw [an_no h h0 h1 h2 h3]
    exact do_sum op a b s c noA h h1 h2 h3 (sum_none op a b s c h0) w
theorem do_as (op a b s : Int) (c : Bool) (A : An) (hs : Sz s) (ha : U a) (hb : U b) (hA : an op a b c s = A) (w : World) :
    Calls Tryz.prog 176 #[.int .i64 op, .int .u32 a, .int .u32 b, .bool c, .int .i64 s] w fun e w' => e = .returned A.val ∧ Below w.heap.size w w' := hA ▸ do_any op a b s c hs ha hb w

/-! what every law of layer 8 asks first -/
theorem do_alive (w : World) :
    Calls Tryz.prog 176 #[.int .i64 7, .int .u32 1, .int .u32 3, .bool false, .int .i64 1] w fun e w' => e = .returned (.tuple #[.int .u32 2, .agg #[.bool false, .bool false, .bool false, .bool false], .bool true]) ∧ Below w.heap.size w w' :=
  (do_any 7 1 3 1 false (.inl rfl) ⟨by omega, by omega⟩ ⟨by omega, by omega⟩ w).mono fun _ _ h => ⟨h.1.trans rfl, h.2⟩



end Go.Proofs.YteohkobdmkbcpaaGreatDoor.Bt.Al

/- Contracts of Convert, the program's and the document's, and the walk of AluConverts. -/
namespace Go.Proofs.YteohkobdmkbcpaaGreatDoor.Bt.Al
open Go.RowKit

theorem ex_U (x s : Int) : U (ex x s) := by unfold ex U; omega
theorem ex_rest {f t : Int} (ht : Sz t) (a : Int) : ex a f % W t = sg a f % W t := by unfold ex; exact mod_mod ht _
/-- extended again it is the same just if it fits -/
theorem ex_ft {f t : Int} (hf : Sz f) (ht : Sz t) (a : Int) : (ex (sg a f % W t) t != ex a f) = !ft (sg a f) t := by
  rw [← sg_ft ht (sg a f)]
  have h1 := sg_32 hf a
  have h2 := sg_32 ht (sg a f)
  unfold ex
  rw [sg_of_mod ht]
  generalize sg (sg a f) t = p at *
  generalize sg a f = q at *
  rw [Bool.eq_iff_iff]; simp only [bne_iff_ne, ne_eq]
  omega

set_option maxHeartbeats 400000 in
set_option maxRecDepth 100000 in
theorem conv_plain (a f t : Int) (c : Bool) (hf : Sz f) (ht : Sz t) (ha : U a) (w : World) :
    Calls Tryz.prog 179 #[.int .u32 a, .int .i64 f, .int .i64 t, .bool false, .bool c] w fun e w' => e = .returned (.tuple #[.int .u32 (a % W f % W t), .agg #[.bool false, .bool (zr (a % W f) t), .bool false, .bool c]]) ∧ Below w.heap.size w w' := by
  have r1 := rest_bound hf a
  have hU : U (a % W f) := ⟨by omega, by omega⟩
  have H1 := Lib.hid (and_mask hf ha)
  have H2 := Lib.hid (and_mask ht hU)
  have HZ := Lib.hid (show (a % W f % W t == 0) = zr (a % W f) t from rfl)
  go_enter Tryz.func179, Tryz.ntmps179
  go_wp2_with (go_at_call 91; refine (mask_any _ (by assumption) _).mono ?_; rintro e w' ⟨rfl, rfl⟩)
  rw [H1.out, H2.out, HZ.out]
  exact bodyPost_ret (v := .tuple #[.int .u32 (a % W f % W t), .agg #[.bool false, .bool (zr (a % W f) t), .bool false, .bool c]]) (by simp [results, Tryz.results179, go_sem]) rfl ⟨rfl, by
    repeat refine Below.setCell ?_ (by simp) _
    exact (Below.refl _ _).alloc (Nat.le_refl _) _⟩

set_option maxHeartbeats 400000 in
set_option maxRecDepth 100000 in
theorem conv_signed (a f t : Int) (c : Bool) (hf : Sz f) (ht : Sz t) (ha : U a) (w : World) :
    Calls Tryz.prog 179 #[.int .u32 a, .int .i64 f, .int .i64 t, .bool true, .bool c] w fun e w' => e = .returned (.tuple #[.int .u32 (sg a f % W t), .agg #[.bool (ng (sg a f) t), .bool (zr (sg a f) t), .bool (!ft (sg a f) t), .bool false]]) ∧ Below w.heap.size w w' := by
  have hE := ex_U a f
  have r1 := rest_bound ht (sg a f)
  have hU : U (sg a f % W t) := ⟨by omega, by omega⟩
  have HM := Lib.hid (show bits .and .u32 (ex a f) (W t - 1) = sg a f % W t by rw [and_mask ht hE, ex_rest ht])
  have kS := signs_any (sg a f % W t) t ht hU
  rw [ng_of_mod ht, zr_of_mod ht] at kS
  have KS := Lib.hid kS
  have KE := Lib.hid (extend_any a f hf ha)
  have KX := Lib.hid (extend_any (sg a f % W t) t ht hU)
  have HF := Lib.hid (ex_ft hf ht a)
  clear kS
  go_enter Tryz.func179, Tryz.ntmps179
  go_wp2_with (first | (go_at_call 91; refine (mask_any _ (by assumption) _).mono ?_; rintro e w' ⟨rfl, rfl⟩) | fail)
  refine (KE.out _).mono ?_
  rintro e w' ⟨rfl, rfl⟩
  go_wp2_with (first | (go_at_call 91; refine (mask_any _ (by assumption) _).mono ?_; rintro e w' ⟨rfl, rfl⟩) | fail)
  rw [HM.out]
  refine (KS.out _).mono ?_
  rintro e w1 ⟨rfl, hb1⟩
  obtain ⟨hc, hfz⟩ := bcell hb1
  have hz : w.heap.size < w1.heap.size := by have := hb1.size; simp at this; omega
  go_wp2_with fail
  refine (KX.out _).mono ?_
  rintro e w' ⟨rfl, rfl⟩
  go_wp2
  rw [HF.out]
  go_region
  go_wp2
  exact bodyPost_ret (v := .tuple #[.int .u32 (sg a f % W t), .agg #[.bool (ng (sg a f) t), .bool (zr (sg a f) t), .bool (!ft (sg a f) t), .bool false]]) (by simp [results, Tryz.results179, go_sem, hc, hz]) rfl ⟨rfl, by
    refine Below.drew (Below.alloc ?_ (by simp; omega) _)
    iterate 4 refine Below.setCell ?_ (by simp) _
    exact ((Below.refl _ _).alloc (Nat.le_refl _) _).trans (hb1.mono (by simp))⟩

/-! the document's -/




/-! the law -/


theorem sg_as (x s y : Int) (hs : Sz s) (hx : U x) (hy : sg x s = y) (w : World) :
    Calls Tryz.prog 40 #[.int .u32 x, .int .i64 s] w fun e w' => e = .returned (.int .i64 y) ∧ w = w' := hy ▸ rsigned_any x s hs hx w







end Go.Proofs.YteohkobdmkbcpaaGreatDoor.Bt.Al
