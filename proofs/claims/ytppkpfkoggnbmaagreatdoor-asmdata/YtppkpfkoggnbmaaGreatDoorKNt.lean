/- Numbers and names as texts, and texts that are read again: no program in sight. -/
import Derived.Test.YtppkpfkoggnbmaaGreatDoorGKme
import Derived.Test.YtppkpfkoggnbmaaGreatDoorGKtl
namespace Go.Proofs.YtppkpfkoggnbmaaGreatDoor.Cs.Ka
open Go.RowKit Es
open Ia (sb)
set_option linter.unusedVariables false
set_option linter.unusedSimpArgs false

/-! ### pieces -/
theorem cutc_no {c : UInt8} : ∀ {l : Tx}, c ∉ l → cutc c l = (l, [], false)
  | [], _ => rfl
  | b :: l, h => by
    have h1 : b ≠ c := fun e => h (by rw [e]; exact List.mem_cons_self)
    have h2 := cutc_no (c := c) (l := l) (fun e => h (List.mem_cons_of_mem _ e))
    unfold cutc
    rw [if_neg h1, h2]
theorem cutc_at {c : UInt8} : ∀ {a : Tx} (b : Tx), c ∉ a → cutc c (a ++ c :: b) = (a, b, true)
  | [], b, _ => by simp [cutc]
  | x :: a, b, h => by
    have h1 : x ≠ c := fun e => h (by rw [e]; exact List.mem_cons_self)
    have h2 := cutc_at (c := c) (a := a) b (fun e => h (List.mem_cons_of_mem _ e))
    rw [List.cons_append]
    unfold cutc
    rw [if_neg h1, h2]
theorem spl_no {c : UInt8} : ∀ {l : Tx}, c ∉ l → spl c l = [l]
  | [], _ => rfl
  | b :: l, h => by
    have h1 : b ≠ c := fun e => h (by rw [e]; exact List.mem_cons_self)
    have h2 := spl_no (c := c) (l := l) (fun e => h (List.mem_cons_of_mem _ e))
    unfold spl
    rw [if_neg h1, h2]
    rfl
theorem spl_at {c : UInt8} : ∀ {a : Tx} (b : Tx), c ∉ a → spl c (a ++ c :: b) = a :: spl c b
  | [], b, _ => by simp [spl]
  | x :: a, b, h => by
    have h1 : x ≠ c := fun e => h (by rw [e]; exact List.mem_cons_self)
    have h2 := spl_at (c := c) (a := a) b (fun e => h (List.mem_cons_of_mem _ e))
    rw [List.cons_append]
    rw [spl, if_neg h1, h2]
    rfl

/-! ### white signs -/
theorem dw_no {l : Tx} (h : ∀ b, l.head? = some b → Lib.isSp b = false) : l.dropWhile Lib.isSp = l := by
  cases l with
  | nil => rfl
  | cons b l => rw [List.dropWhile_cons, h b rfl]; rfl
theorem trm_ends {l : Tx} (h1 : ∀ b, l.head? = some b → Lib.isSp b = false) (h2 : ∀ b, l.getLast? = some b → Lib.isSp b = false) : trm l = l := by
  unfold trm Lib.trimSpace
  rw [dw_no h1, dw_no (l := l.reverse) (fun b hb => h2 b (by rw [← List.head?_reverse]; exact hb)), List.reverse_reverse]
theorem trm_no {l : Tx} (h : ∀ b ∈ l, Lib.isSp b = false) : trm l = l :=
  trm_ends (fun b hb => h b (List.mem_of_mem_head? hb)) (fun b hb => h b (List.mem_of_mem_getLast? hb))
theorem trm_ahead {b : UInt8} (h : Lib.isSp b = true) (l : Tx) : trm (b :: l) = trm l := by
  unfold trm Lib.trimSpace
  rw [List.dropWhile_cons, h, if_pos rfl]
theorem dw_append_all {l k : Tx} (h : ∀ b ∈ l, Lib.isSp b = true) : (l ++ k).dropWhile Lib.isSp = k.dropWhile Lib.isSp := by
  induction l with
  | nil => rfl
  | cons b l ih =>
    rw [List.cons_append, List.dropWhile_cons, h b List.mem_cons_self, if_pos rfl]
    exact ih (fun b hb => h b (List.mem_cons_of_mem _ hb))
theorem dw_append_some {l k : Tx} (h : l.dropWhile Lib.isSp ≠ []) : (l ++ k).dropWhile Lib.isSp = l.dropWhile Lib.isSp ++ k := by
  induction l with
  | nil => exact absurd rfl h
  | cons b l ih =>
    rw [List.cons_append, List.dropWhile_cons]
    rw [List.dropWhile_cons] at h ⊢
    cases hb : Lib.isSp b
    · simp
    · rw [hb] at h
      simp only [if_true] at h ⊢
      exact ih h
theorem dw_nil {l : Tx} (h : l.dropWhile Lib.isSp = []) : ∀ b ∈ l, Lib.isSp b = true := by
  induction l with
  | nil => intro b hb; simp at hb
  | cons x l ih =>
    rw [List.dropWhile_cons] at h
    cases hx : Lib.isSp x
    · rw [hx] at h; simp at h
    · rw [hx] at h
      simp only [if_true] at h
      intro b hb
      rcases List.mem_cons.1 hb with rfl | hb
      · exact hx
      · exact ih h b hb
theorem trm_behind {b : UInt8} (h : Lib.isSp b = true) (l : Tx) : trm (l ++ [b]) = trm l := by
  unfold trm Lib.trimSpace
  by_cases h0 : l.dropWhile Lib.isSp = []
  · rw [dw_append_all (dw_nil h0), h0]
    simp [List.dropWhile_cons, h]
  · rw [dw_append_some h0, List.reverse_append]
    show (List.dropWhile Lib.isSp (b :: _)).reverse = _
    rw [List.dropWhile_cons, h, if_pos rfl]
    rfl

/-! ### numbers -/
theorem dec_dig (u : Nat) : ∀ c ∈ Lib.decDigits u, 48 ≤ c.toNat ∧ c.toNat ≤ 57 := by
  induction u using Nat.strongRecOn with
  | _ u ih =>
    intro c hc
    rw [Lib.decDigits] at hc
    split at hc
    · next h =>
      rw [List.mem_singleton] at hc
      subst hc
      simp; omega
    · next h =>
      rcases List.mem_append.1 hc with hc | hc
      · exact ih (u / 10) (by omega) c hc
      · rw [List.mem_singleton] at hc
        subst hc
        simp; omega
theorem dec_ne (u : Nat) : Lib.decDigits u ≠ [] := by
  rw [Lib.decDigits]
  split <;> simp
theorem acc_app (h : Bool) (most : Int) : ∀ (l k : Tx) (n : Int), acc h most n (l ++ k) = match acc h most n l with
    | none => none
    | some m => acc h most m k
  | [], k, n => rfl
  | c :: l, k, n => by
    rw [List.cons_append, acc_cons, acc_cons]
    split
    · rfl
    · split
      · rfl
      · exact acc_app h most l k _
theorem dgv_dig {d : Nat} (hd : d < 10) (h : Bool) : dgv h (UInt8.ofNat (48 + d)) = d := by
  have e : (UInt8.ofNat (48 + d)).toNat = 48 + d := by simp; omega
  unfold dgv
  rw [e, if_pos (by omega)]
  omega
theorem acc_one {most n : Int} {d : Nat} (hd : d < 10) (hm : ¬ most < n * 10 + d) : acc false most n [UInt8.ofNat (48 + d)] = some (n * 10 + d) := by
  have e := dgv_dig hd false
  unfold acc
  rw [e, if_neg (by omega)]
  have eb : bs false = 10 := rfl
  rw [eb, if_neg hm]
  rfl
theorem acc_dec (most : Int) (u : Nat) (h : (u : Int) ≤ most) : acc false most 0 (Lib.decDigits u) = some (u : Int) := by
  induction u using Nat.strongRecOn with
  | _ u ih =>
    rw [Lib.decDigits]
    split
    · next h1 =>
      rw [acc_one h1 (by omega)]
      simp
    · next h1 =>
      rw [acc_app, ih (u / 10) (by omega) (by omega)]
      show acc false most _ _ = _
      rw [acc_one (by omega) (by omega)]
      congr 1
      omega
theorem pref_no {p l : Tx} (h : p.isPrefixOf l = false) : pref p l = (l, false) := by
  unfold pref
  rw [if_neg (by simp [h])]
theorem pref_yes (p l : Tx) : pref p (p ++ l) = (l, true) := by
  unfold pref
  rw [if_pos (by rw [List.isPrefixOf_iff_prefix]; exact ⟨l, rfl⟩)]
  simp
theorem pre_mem {p l : Tx} (h : p.isPrefixOf l = true) : ∀ b ∈ p, b ∈ l := by
  rw [List.isPrefixOf_iff_prefix] at h
  obtain ⟨t, rfl⟩ := h
  intro b hb
  exact List.mem_append_left _ hb
theorem dec_pref {p : Tx} (u : Nat) (b : UInt8) (hb : b ∈ p) (h : ¬ (48 ≤ b.toNat ∧ b.toNat ≤ 57)) : pref p (Lib.decDigits u) = (Lib.decDigits u, false) := by
  refine pref_no ?_
  cases hp : p.isPrefixOf (Lib.decDigits u)
  · rfl
  · exact absurd (dec_dig u b (pre_mem hp b hb)) h
theorem numb_dec (u : Nat) (h : u < 4294967296) : numb (Lib.decDigits u) = ((u : Int), true) := by
  unfold numb
  rw [dec_pref u 45 (by simp) (by decide)]
  simp only
  rw [dec_pref u 120 (by simp) (by decide)]
  unfold numh
  simp only
  rw [acc_dec _ u (by simp [mst]; omega)]
  simp [dec_ne]
theorem numb_neg (u : Nat) (h : u ≤ 2147483648) : numb (45 :: Lib.decDigits u) = ((-(u : Int)) % 4294967296, true) := by
  unfold numb
  have e : pref [45] (45 :: Lib.decDigits u) = (Lib.decDigits u, true) := pref_yes [45] _
  rw [e]
  simp only
  rw [dec_pref u 120 (by simp) (by decide)]
  unfold numh
  simp only
  rw [acc_dec _ u (by simp [mst]; omega)]
  simp [dec_ne]
theorem numb_numt (x : Int) (h0 : 0 ≤ x) (h1 : x < 4294967296) : numb (numt x) = (x, true) := by
  unfold numt sgn Lib.itoa
  by_cases h : x < 2147483648
  · rw [if_pos h, if_neg (by omega), numb_dec _ (by omega)]
    congr 1
    omega
  · rw [if_neg h, if_pos (by omega), numb_neg _ (by omega)]
    congr 1
    omega
/-- signs of a number -/
theorem numt_mem (x : Int) : ∀ c ∈ numt x, c = 45 ∨ (48 ≤ c.toNat ∧ c.toNat ≤ 57) := by
  intro c hc
  unfold numt Lib.itoa at hc
  split at hc
  · rcases List.mem_cons.1 hc with h | h
    · exact .inl h
    · exact .inr (dec_dig _ c h)
  · exact .inr (dec_dig _ c hc)
theorem numt_dig (x : Int) : ∃ c ∈ numt x, 48 ≤ c.toNat ∧ c.toNat ≤ 57 := by
  have key : ∀ u, ∃ c ∈ Lib.decDigits u, 48 ≤ c.toNat ∧ c.toNat ≤ 57 := fun u => by
    obtain ⟨c, hc⟩ := List.exists_mem_of_ne_nil _ (dec_ne u)
    exact ⟨c, hc, dec_dig u c hc⟩
  unfold numt Lib.itoa
  split
  · obtain ⟨c, h1, h2⟩ := key (sgn x).natAbs
    exact ⟨c, List.mem_cons_of_mem _ h1, h2⟩
  · exact key _

/-! ### registers -/
theorem rgn_all : Ia.upto 16 (fun i => decide (rgn (rnm i) = ((i : Int), true))) = true := by decide +kernel
theorem rgn_rnm (i : Nat) (h : i < 16) : rgn (rnm i) = ((i : Int), true) := of_decide_eq_true (Ia.upto_at rgn_all i h)
theorem rgf_no (l : Tx) (h : ∀ b, l.head? = some b → b ≠ 82) : ∀ n i, rgf n i l = (0, false)
  | 0, i => rfl
  | n + 1, i => by
    unfold rgf
    rw [if_neg, rgf_no l h n (i + 1)]
    rintro rfl
    exact h 82 rfl rfl
theorem rgn_no {b : UInt8} {l : Tx} (h : b ≠ 82 ∧ b ≠ 65 ∧ b ≠ 70 ∧ b ≠ 83 ∧ b ≠ 80) : rgn (b :: l) = (0, false) := by
  obtain ⟨h1, h2, h3, h4, h5⟩ := h
  unfold rgn
  rw [if_neg (by simp [h2]), if_neg (by simp [h3]), if_neg (by simp [h4]), if_neg (by simp [h5])]
  exact rgf_no _ (fun c hc => by simp at hc; rw [← hc]; exact h1) _ _
theorem rnm_mem (i : Nat) (h : i < 16) : ∀ c ∈ rnm i, c = 82 ∨ (48 ≤ c.toNat ∧ c.toNat ≤ 57) := by
  intro c hc
  unfold rnm at hc
  rcases List.mem_cons.1 hc with h1 | h1
  · exact .inl h1
  · right
    split at h1
    · rw [List.mem_singleton] at h1; subst h1; simp; omega
    · rcases List.mem_cons.1 h1 with rfl | h1
      · decide
      · rw [List.mem_singleton] at h1; subst h1; simp; omega

end Go.Proofs.YtppkpfkoggnbmaaGreatDoor.Cs.Ka
