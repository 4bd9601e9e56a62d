import Derived.Test.YtppkpfkoggnbmaaGreatDoorKNt
import Derived.Test.YtppkpfkoggnbmaaGreatDoorGKte
import Derived.Test.YtppkpfkoggnbmaaGreatDoorGKas

/- What is told of an operand is read again: no program in sight. -/
namespace Go.Proofs.YtppkpfkoggnbmaaGreatDoor.Cs.Ka
open Go.RowKit Es
open Ia (sb)
set_option linter.unusedVariables false
set_option linter.unusedSimpArgs false

/-- signs that stand in operands as they are told -/
def okc (c : UInt8) : Bool := (decide (48 ≤ c.toNat) && decide (c.toNat ≤ 57)) || (c == 45 || (c == 82 || (c == 35 || (c == 64 || (c == 40 || (c == 41 || (c == 43 || (c == 91 || c == 93))))))))
theorem okc_dig {c : UInt8} (h : 48 ≤ c.toNat ∧ c.toNat ≤ 57) : okc c = true := by
  unfold okc
  simp [h.1, h.2]
theorem numt_okc (x : Int) : ∀ c ∈ numt x, okc c = true := fun c hc => by
  rcases numt_mem x c hc with rfl | h
  · rfl
  · exact okc_dig h
theorem rnm_okc (i : Nat) (h : i < 16) : ∀ c ∈ rnm i, okc c = true := fun c hc => by
  rcases rnm_mem i h c hc with rfl | h
  · rfl
  · exact okc_dig h
theorem not_mem_okc {c : UInt8} {l : Tx} (h : ∀ b ∈ l, okc b = true) (hc : okc c = false) : c ∉ l := fun hm => by
  have := h c hm
  rw [hc] at this
  cases this
theorem okc_sp : ∀ n : Fin 256, okc (UInt8.ofNat n.val) = true → Lib.isSp (UInt8.ofNat n.val) = false := by decide +kernel
theorem okc_white {c : UInt8} (h : okc c = true) : Lib.isSp c = false := by
  have := okc_sp ⟨c.toNat, c.toNat_lt⟩
  simp only [u8_of] at this
  exact this h
theorem okc_asc {c : UInt8} (h : okc c = true) : c.toNat < 128 := by
  have : ∀ n : Fin 256, okc (UInt8.ofNat n.val) = true → (UInt8.ofNat n.val).toNat < 128 := by decide +kernel
  have := this ⟨c.toNat, c.toNat_lt⟩
  simp only [u8_of] at this
  exact this h

/-- an operand as it is read of what is told of it -/
def rsp (s : Sp) (a : Int) : Sp := ⟨if a ≠ 98 ∧ s.k = 12 ∧ s.x < 64 then 0 else s.k, s.r, s.i, s.x, 0⟩
/-- what Decode answers, as far as it matters here -/
structure Dsh (s : Sp) (a : Int) : Prop where
  spk : Spk s
  td_ : td s = s
  lit : s.k = 0 → s.x < 64
  br : a = 98 → s.k = 12 ∧ s.i = -1
  one : a ≠ 98 → s.k = 12 → a = 114 ∧ s.i = -1

theorem suf_yes (c : UInt8) (l : Tx) : suf c (l ++ [c]) = (l, true) := by
  unfold suf
  simp
theorem suf_no {c : UInt8} {l : Tx} (h : l.getLast? ≠ some c) : suf c l = (l, false) := by
  unfold suf
  rw [if_neg h]
theorem last_app {l k : Tx} (h : k ≠ []) : (l ++ k).getLast? = k.getLast? := by
  rw [List.getLast?_append]
  cases k with
  | nil => exact absurd rfl h
  | cons b k => simp [List.getLast?_cons]
theorem suf_not_mem {c : UInt8} {l : Tx} (h : c ∉ l) : suf c l = (l, false) := suf_no (fun e => h (List.mem_of_mem_getLast? e))
theorem vald_num (k x : Int) (h0 : 0 ≤ x) (h1 : x < 4294967296) : vald k (numt x) = (⟨⟨k, 0, -1, x, 0⟩, []⟩, true) := by
  unfold vald
  rw [numb_numt x h0 h1]
  simp
theorem brk_mem (r : Int) (h : 0 ≤ r ∧ r ≤ 15) : ∀ c ∈ brk r, c = 40 ∨ c = 41 ∨ c = 82 ∨ (48 ≤ c.toNat ∧ c.toNat ≤ 57) := by
  intro c hc
  unfold brk at hc
  rcases List.mem_cons.1 hc with h1 | h1
  · exact .inl h1
  · rcases List.mem_append.1 h1 with h1 | h1
    · exact .inr (.inr (rnm_mem _ (by omega) c h1))
    · exact .inr (.inl (List.mem_singleton.1 h1))
theorem numt_no (x : Int) (c : UInt8) (h : c ≠ 45) (h2 : ¬ (48 ≤ c.toNat ∧ c.toNat ≤ 57)) : c ∉ numt x := fun hm => by
  rcases numt_mem x c hm with h3 | h3
  · exact h h3
  · exact h2 h3
theorem rnm_no (i : Nat) (hi : i < 16) (c : UInt8) (h : c ≠ 82) (h2 : ¬ (48 ≤ c.toNat ∧ c.toNat ≤ 57)) : c ∉ rnm i := fun hm => by
  rcases rnm_mem i hi c hm with h3 | h3
  · exact h h3
  · exact h2 h3
/-- an address in brackets, read -/
theorem adc_brk (at_ up : Bool) (ah : Tx) (r : Int) (h : 0 ≤ r ∧ r ≤ 15) : adc at_ up (ah, rnm r.toNat ++ [41], true) = adr at_ up ah r := by
  unfold adc
  rw [suf_yes]
  simp only
  rw [rgn_rnm _ (by omega)]
  have e : ((r.toNat : Nat) : Int) = r := by omega
  simp [e]
theorem cut_brk (ah : Tx) (r : Int) (h : (40 : UInt8) ∉ ah) : cutc 40 (ah ++ brk r) = (ah, rnm r.toNat ++ [41], true) := cutc_at _ h
theorem last_brk (ah : Tx) (r : Int) : (ah ++ brk r).getLast? = some 41 := by
  unfold brk
  rw [show ah ++ 40 :: (rnm r.toNat ++ [41]) = (ah ++ 40 :: rnm r.toNat) ++ [41] by simp, List.getLast?_concat]
theorem addr_brk (ah : Tx) (r : Int) (h : 0 ≤ r ∧ r ≤ 15) (h1 : (40 : UInt8) ∉ ah) (h2 : (64 : UInt8) ∉ ah) : addr (ah ++ brk r) = adr false false ah r := by
  unfold addr
  rw [pref_no (p := [64])]
  · simp only
    rw [suf_no (by rw [last_brk]; simp)]
    simp only
    rw [cut_brk ah r h1, adc_brk _ _ _ _ h]
  · cases hp : ([64] : Tx).isPrefixOf (ah ++ brk r)
    · rfl
    · exfalso
      rcases List.mem_append.1 (pre_mem hp 64 (by simp)) with h3 | h3
      · exact h2 h3
      · rcases brk_mem r h 64 h3 with h | h | h | h
        · cases h
        · cases h
        · cases h
        · exact absurd h (by decide)
theorem addr_at (ah : Tx) (r : Int) (h : 0 ≤ r ∧ r ≤ 15) (h1 : (40 : UInt8) ∉ ah) : addr (64 :: (ah ++ brk r)) = adr true false ah r := by
  unfold addr
  rw [show (64 :: (ah ++ brk r) : Tx) = [64] ++ (ah ++ brk r) from rfl, pref_yes]
  simp only
  rw [suf_no (by rw [last_brk]; simp)]
  simp only
  rw [cut_brk ah r h1, adc_brk _ _ _ _ h]
theorem addr_up (r : Int) (h : 0 ≤ r ∧ r ≤ 15) : addr (brk r ++ [43]) = adr false true [] r := by
  unfold addr
  rw [pref_no (p := [64]) (by unfold brk; rfl)]
  simp only
  rw [suf_yes]
  simp only
  have := cut_brk [] r (by simp)
  rw [List.nil_append] at this
  rw [this, adc_brk _ _ _ _ h]
theorem addr_upat (r : Int) (h : 0 ≤ r ∧ r ≤ 15) : addr (64 :: (brk r ++ [43])) = adr true true [] r := by
  unfold addr
  rw [show (64 :: (brk r ++ [43]) : Tx) = [64] ++ (brk r ++ [43]) from rfl, pref_yes]
  simp only
  rw [suf_yes]
  simp only
  have := cut_brk [] r (by simp)
  rw [List.nil_append] at this
  rw [this, adc_brk _ _ _ _ h]
/-- an operand that is neither a number behind a sign nor a register -/
theorem plain_addr {b : UInt8} {l : Tx} (h35 : b ≠ 35) (h64 : b = 64 → l.head? ≠ some 35) (hr : b ≠ 82 ∧ b ≠ 65 ∧ b ≠ 70 ∧ b ≠ 83 ∧ b ≠ 80) : plainF (b :: l) = (⟨(addr (b :: l)).1, []⟩, (addr (b :: l)).2) := by
  unfold plainF
  rw [pref_no (p := [64, 35])]
  · rw [pref_no (p := [35]) (by simp [List.isPrefixOf, Ne.symm h35]), rgn_no hr]
    simp
  · cases l with
    | nil => simp [List.isPrefixOf]
    | cons c l =>
      simp only [List.isPrefixOf, Bool.and_eq_false_iff, beq_eq_false_iff_ne]
      by_cases hb : b = 64
      · have := h64 hb
        simp at this
        exact .inr (.inl (Ne.symm this))
      · exact .inl (Ne.symm hb)
theorem numt_cons (x : Int) : ∃ b l, numt x = b :: l ∧ (b = 45 ∨ (48 ≤ b.toNat ∧ b.toNat ≤ 57)) := by
  have h := numt_mem x
  cases hn : numt x with
  | nil =>
    obtain ⟨c, hc, _⟩ := numt_dig x
    rw [hn] at hc
    simp at hc
  | cons b l => exact ⟨b, l, rfl, h b (by rw [hn]; exact List.mem_cons_self)⟩
theorem num_head {b : UInt8} (h : b = 45 ∨ (48 ≤ b.toNat ∧ b.toNat ≤ 57)) : b ≠ 35 ∧ b ≠ 64 ∧ (b ≠ 82 ∧ b ≠ 65 ∧ b ≠ 70 ∧ b ≠ 83 ∧ b ≠ 80) := by
  rcases h with rfl | h
  · decide
  · refine ⟨?_, ?_, ?_, ?_, ?_, ?_, ?_⟩ <;> (rintro rfl; exact absurd h (by decide))
theorem numt_not (x : Int) : numt x ≠ [] ∧ numt x ≠ [45] := by
  obtain ⟨c, hc, hd⟩ := numt_dig x
  refine ⟨fun e => by rw [e] at hc; simp at hc, fun e => ?_⟩
  rw [e, List.mem_singleton] at hc
  subst hc
  exact absurd hd (by decide)

theorem plain_kindt {s : Sp} {a : Int} (h : Dsh s a) (h98 : a ≠ 98) : ∃ i, plainF (kindt s) = (⟨⟨(rsp s a).k, (rsp s a).r, i, (rsp s a).x, 0⟩, []⟩, true) := by
  obtain ⟨⟨hk, hr, hi, hx⟩, htd, hlit, hbr, hone⟩ := h
  obtain ⟨k, r, i, x, n⟩ := s
  simp only at hk hr hi hx hlit hbr hone
  have hr0 : k = 0 ∨ k = 12 ∨ k = 13 → r = 0 := fun h => by
    have := congrArg Sp.r htd
    simp only [td, if_pos h] at this
    exact this.symm
  have hx0 : 5 ≤ k ∧ k ≤ 9 → x = 0 := fun h => by
    have := congrArg Sp.x htd
    simp only [td, if_pos h] at this
    exact this.symm
  have hbrk : brk r = 40 :: (rnm r.toNat ++ [41]) := rfl
  have hcs : (k = 0 ∨ k = 12) ∨ k = 13 ∨ k = 5 ∨ k = 6 ∨ k = 7 ∨ k = 8 ∨ k = 9 ∨ k = 10 ∨ k = 11 := by omega
  rcases hcs with h | rfl | rfl | rfl | rfl | rfl | rfl | rfl | rfl
  · have e : kindt ⟨k, r, i, x, n⟩ = 35 :: numt x := by unfold kindt; simp only [if_pos h]
    have hr1 := hr0 (by omega)
    subst hr1
    refine ⟨-1, ?_⟩
    rw [e]
    unfold plainF
    rw [pref_no (p := [64, 35]) (by simp [List.isPrefixOf]), show (35 :: numt x : Tx) = [35] ++ numt x from rfl, pref_yes]
    simp only [if_true, if_neg Bool.false_ne_true]
    unfold imm
    rw [vald_num 12 x hx.1 hx.2]
    simp only [rsp, true_and]
    rcases h with rfl | rfl
    · rw [if_pos (hlit rfl), if_neg (by omega)]
    · simp only [ne_eq, h98, not_false_eq_true, true_and]
  · have hr1 := hr0 (by omega)
    subst hr1
    refine ⟨-1, ?_⟩
    show plainF (64 :: 35 :: numt x) = _
    unfold plainF
    rw [show (64 :: 35 :: numt x : Tx) = [64, 35] ++ numt x from rfl, pref_yes]
    simp only [if_true]
    rw [vald_num 13 x hx.1 hx.2]
    simp [rsp]
  · have hx1 := hx0 (by omega)
    subst hx1
    refine ⟨0, ?_⟩
    show plainF (rnm r.toNat) = _
    unfold plainF
    rw [pref_no (p := [64, 35]) (by unfold rnm; simp [List.isPrefixOf]), pref_no (p := [35]) (by unfold rnm; simp [List.isPrefixOf]), rgn_rnm _ (by omega)]
    have e : ((r.toNat : Nat) : Int) = r := by omega
    simp [rsp, e]
  · have hx1 := hx0 (by omega)
    subst hx1
    refine ⟨0, ?_⟩
    show plainF (brk r) = _
    rw [hbrk, plain_addr (by decide) (fun h => absurd h (by decide)) (by decide), ← hbrk]
    have := addr_brk [] r hr (by simp) (by simp)
    rw [List.nil_append] at this
    rw [this]
    simp [adr, rsp]
  · have hx1 := hx0 (by omega)
    subst hx1
    refine ⟨0, ?_⟩
    show plainF (45 :: brk r) = _
    rw [plain_addr (by decide) (fun h => absurd h (by decide)) (by decide)]
    have := addr_brk [45] r hr (by simp) (by simp)
    rw [show (45 :: brk r : Tx) = [45] ++ brk r from rfl, this]
    simp [adr, rsp]
  · have hx1 := hx0 (by omega)
    subst hx1
    refine ⟨0, ?_⟩
    show plainF (brk r ++ [43]) = _
    have e : brk r ++ [43] = 40 :: (rnm r.toNat ++ [41] ++ [43]) := by rw [hbrk, List.cons_append]
    rw [e, plain_addr (by decide) (fun h => absurd h (by decide)) (by decide), ← e, addr_up r hr]
    simp [adr, rsp]
  · have hx1 := hx0 (by omega)
    subst hx1
    refine ⟨0, ?_⟩
    show plainF (64 :: (brk r ++ [43])) = _
    rw [plain_addr (by decide) (by intro _; rw [hbrk]; simp) (by decide), addr_upat r hr]
    simp [adr, rsp]
  · refine ⟨0, ?_⟩
    show plainF (numt x ++ brk r) = _
    have h40 := numt_no x 40 (by decide) (by decide)
    have h64 := numt_no x 64 (by decide) (by decide)
    have hn := numt_not x
    have hnb := numb_numt x hx.1 hx.2
    obtain ⟨b, l, e, hb⟩ := numt_cons x
    have hb' := num_head hb
    have e2 : numt x ++ brk r = b :: (l ++ brk r) := by rw [e]; rfl
    rw [e2, plain_addr hb'.1 (fun h => absurd h hb'.2.1) hb'.2.2, ← e2, addr_brk _ r hr h40 h64]
    unfold adr
    rw [if_neg (by simp), if_neg hn.1, if_neg hn.2, hnb]
    simp [rsp]
  · refine ⟨0, ?_⟩
    show plainF (64 :: (numt x ++ brk r)) = _
    have h40 := numt_no x 40 (by decide) (by decide)
    have hn := numt_not x
    have hnb := numb_numt x hx.1 hx.2
    obtain ⟨b, l, e, hb⟩ := numt_cons x
    have hb' := num_head hb
    rw [plain_addr (by decide) (fun _ => by rw [e]; simpa using hb'.1) (by decide), addr_at _ r hr h40]
    unfold adr
    rw [if_neg (by simp), if_neg hn.1, if_neg hn.2, hnb]
    simp [rsp]

theorem kindt_mem {s : Sp} (h : Spk s) : ∀ c ∈ kindt s, okc c = true ∧ c ≠ 91 ∧ c ≠ 93 := by
  have hn : ∀ c ∈ numt s.x, okc c = true ∧ c ≠ 91 ∧ c ≠ 93 := fun c hc => ⟨numt_okc _ c hc, fun e => numt_no s.x 91 (by decide) (by decide) (e ▸ hc), fun e => numt_no s.x 93 (by decide) (by decide) (e ▸ hc)⟩
  have hr : ∀ c ∈ rnm s.r.toNat, okc c = true ∧ c ≠ 91 ∧ c ≠ 93 := fun c hc => ⟨rnm_okc _ (by have := h.r; omega) c hc, fun e => rnm_no _ (by have := h.r; omega) 91 (by decide) (by decide) (e ▸ hc), fun e => rnm_no _ (by have := h.r; omega) 93 (by decide) (by decide) (e ▸ hc)⟩
  have hb : ∀ c ∈ brk s.r, okc c = true ∧ c ≠ 91 ∧ c ≠ 93 := fun c hc => by
    unfold brk at hc
    rcases List.mem_cons.1 hc with rfl | hc
    · decide
    · rcases List.mem_append.1 hc with hc | hc
      · exact hr c hc
      · rw [List.mem_singleton] at hc; subst hc; decide
  intro c hc
  unfold kindt at hc
  (repeat' split at hc)
  · rcases List.mem_cons.1 hc with rfl | hc
    · decide
    · exact hn c hc
  · rcases List.mem_cons.1 hc with rfl | hc
    · decide
    · rcases List.mem_cons.1 hc with rfl | hc
      · decide
      · exact hn c hc
  · exact hr c hc
  · exact hb c hc
  · rcases List.mem_cons.1 hc with rfl | hc
    · decide
    · exact hb c hc
  · rcases List.mem_append.1 hc with hc | hc
    · exact hb c hc
    · rw [List.mem_singleton] at hc; subst hc; decide
  · rcases List.mem_cons.1 hc with rfl | hc
    · decide
    · rcases List.mem_append.1 hc with hc | hc
      · exact hb c hc
      · rw [List.mem_singleton] at hc; subst hc; decide
  · rcases List.mem_append.1 hc with hc | hc
    · exact hn c hc
    · exact hb c hc
  · rcases List.mem_cons.1 hc with rfl | hc
    · decide
    · rcases List.mem_append.1 hc with hc | hc
      · exact hn c hc
      · exact hb c hc
  · simp at hc
theorem toldF_okc {s : Sp} (h : Spk s) (a : Int) : ∀ c ∈ toldF s a, okc c = true := by
  intro c hc
  unfold toldF at hc
  split at hc
  · exact numt_okc _ c hc
  · next h98 =>
    rcases List.mem_append.1 hc with hc | hc
    · exact (kindt_mem h c hc).1
    · split at hc
      · simp at hc
      · next hi =>
        rcases List.mem_cons.1 hc with rfl | hc
        · rfl
        · rcases List.mem_append.1 hc with hc | hc
          · exact rnm_okc _ (by have := h.i; omega) c hc
          · rw [List.mem_singleton] at hc; subst hc; rfl
/-- what is told is read -/
theorem read_told {s : Sp} {a : Int} (h : Dsh s a) : readF (toldF s a) a = (⟨rsp s a, []⟩, true) := by
  have hs := h.spk
  by_cases h98 : a = 98
  · obtain ⟨hk, hi⟩ := h.br h98
    have hr : s.r = 0 := by
      have := congrArg Sp.r h.td_
      simp only [td, if_pos (show s.k = 0 ∨ s.k = 12 ∨ s.k = 13 by omega)] at this
      exact this.symm
    unfold toldF readF rsp
    rw [if_pos h98, if_pos h98, vald_num 12 _ hs.x.1 hs.x.2, hk, hi, hr]
    simp [h98]
  · obtain ⟨i, hp⟩ := plain_kindt h h98
    unfold toldF
    rw [if_neg h98]
    unfold readF
    rw [if_neg h98]
    by_cases hi : s.i = -1
    · rw [if_pos hi, List.append_nil, suf_not_mem (fun hm => (kindt_mem hs 93 hm).2.2 rfl)]
      simp only [if_neg Bool.false_ne_true]
      rw [hp]
      simp [wix, rsp, hi]
    · rw [if_neg hi, show kindt s ++ 91 :: (rnm s.i.toNat ++ [93]) = (kindt s ++ 91 :: rnm s.i.toNat) ++ [93] by simp, suf_yes]
      simp only [if_true]
      rw [cutc_at _ (fun hm => (kindt_mem hs 91 hm).2.1 rfl)]
      simp only
      have e : ((s.i.toNat : Nat) : Int) = s.i := by have := hs.i; omega
      rw [rgn_rnm _ (by have := hs.i; omega), hp]
      simp [wix, rsp, e]
theorem toldF_ne {s : Sp} {a : Int} (h : Spk s) : toldF s a ≠ [] := by
  have hn := (numt_not s.x).1
  unfold toldF
  split
  · exact hn
  · intro e
    have e := (List.append_eq_nil_iff.1 e).1
    have hr : rnm s.r.toNat ≠ [] := by unfold rnm; simp
    have hk := h.k
    unfold kindt brk at e
    (repeat' split at e) <;> first | (simp at e; done) | exact hr e | exact hn (List.append_eq_nil_iff.1 e).1 | omega

end Go.Proofs.YtppkpfkoggnbmaaGreatDoor.Cs.Ka

/- What Text says is assembled to bytes of which Text says the same: no program in sight. -/
namespace Go.Proofs.YtppkpfkoggnbmaaGreatDoor.Cs.Ka
open Go.RowKit Es
open Ia (sb)
set_option linter.unusedVariables false
set_option linter.unusedSimpArgs false

theorem hd_lit {x z : Int} (h : (hd x z).k = 0) : (hd x z).w = 0 ∧ (hd x z).v < 64 := by
  unfold hd at h ⊢
  by_cases h1 : x / 16 < 4
  · simp only [if_pos h1] at h ⊢
    exact ⟨trivial, by omega⟩
  · exfalso
    simp only [if_neg h1] at h
    (repeat' split at h) <;> simp at h <;> omega
theorem dec_dsh {l : List Int} {a z : Int} {t : Sp} (hb : Byt l) (h : dec l a z = (t, 0)) (hk : t.k ≠ 14) : Dsh t a := by
  have hs := (dec_ok hb h hk).1
  have hg : gd a z = true := by
    by_cases hg : gd a z = true
    · exact hg
    · rw [dec_arg (by simpa using hg)] at h; simp at h
  have hz := gd_sz hg
  by_cases h98 : a = 98
  · subst h98
    unfold dec at h
    rw [if_neg (by simp [hg]), if_pos rfl] at h
    split at h
    · simp at h
    · have ht := (Prod.mk.inj h).1
      subst ht
      exact ⟨hs, by simp [td], by simp, fun _ => ⟨rfl, rfl⟩, fun h => absurd rfl h⟩
  · have key : ∀ (x : Int) (u : List Int) (i : Int) (c : Nat), Byt (x :: u) → -1 ≤ i → fin x u a z i c = (t, 0) → Dsh t a := by
      intro x u i c hb hi h
      obtain ⟨w, _, htd, _, _, hti, _, _, _⟩ := fin_back hb hz h hk hi h98
      unfold fin at h
      split at h
      · next hc =>
        split at h
        · simp at h
        · have ht := (Prod.mk.inj h).1
          subst ht
          refine ⟨hs, htd, fun h0 => ?_, fun h => absurd h h98, fun _ h12 => ?_⟩
          · have := hd_lit h0
            simp only [if_pos this.1]
            exact this.2
          · simp only at h12
            rw [h12] at hc
            simp [cn] at hc
            exact hc
      · have ht := (Prod.mk.inj h).1
        subst ht
        exact absurd rfl hk
    match l, hb with
    | [], _ => rw [dec_nil hg h98] at h; simp at h
    | x :: u, hb =>
      by_cases hx : x / 16 = 4
      · by_cases h15 : x % 16 = 15
        · rw [dec_15 hg h98 hx h15] at h
          have ht := (Prod.mk.inj h).1
          subst ht
          exact absurd rfl hk
        · match u, hb with
          | [], _ => rw [dec_short hg h98 hx h15] at h; simp at h
          | y :: v, hb =>
            rw [dec_1 hg h98 hx h15] at h
            exact key y v (x % 16) 2 hb.tl (by omega) h
      · rw [dec_0 hg h98 hx] at h
        exact key x u (-1) 1 hb (by omega) h
theorem enw_n (s : Sp) (m a z : Int) : ∀ l, enw (td ⟨s.k, s.r, s.i, s.x, m⟩) a z l = enw (td s) a z l
  | [] => rfl
  | w :: l => by
    have e : rd (td ⟨s.k, s.r, s.i, s.x, m⟩) a z w = rd (td s) a z w := rfl
    have e2 : wr (td ⟨s.k, s.r, s.i, s.x, m⟩) a w = wr (td s) a w := rfl
    unfold enw
    rw [e, e2, enw_n s m a z l]
theorem enc_n (s : Sp) (m a z : Int) : enc ⟨s.k, s.r, s.i, s.x, m⟩ a z = enc s a z := by
  unfold enc
  rw [enw_n]

/-- an operand's text and bytes, each of which tells the other -/
structure Tb (q : Int × Int) (l : Tx) (b : List Int) : Prop where
  okc : ∀ c ∈ l, okc c = true
  ne : l ≠ []
  tl : l.length ≤ 40
  bl : b.length ≤ 6
  one : ∃ s, readF l q.1 = (⟨s, []⟩, true) ∧ enc s q.1 q.2 = some b
  dec : ∃ u, dec b q.1 q.2 = (u, 0) ∧ u.k ≠ 14 ∧ toldF u q.1 = l ∧ u.n = b.length

theorem lit_enc {x z : Int} (h0 : 0 ≤ x) (h : x < 64) (hz : gd 114 z = true) : enc ⟨0, 0, -1, x, 0⟩ 114 z = some [x] ∧ dec [x] 114 z = (⟨0, 0, -1, x, 1⟩, 0) := by
  have e : x % 64 = x := by omega
  have hx : x / 16 ≠ 4 := by omega
  have h4 : x / 16 < 4 := by omega
  have hd0 : hd x z = ⟨0, 0, x, 0⟩ := by unfold hd; rw [if_pos h4, e]
  have hd1 : dec [x] 114 z = (⟨0, 0, -1, x, 1⟩, 0) := by
    rw [dec_0 hz (by decide) hx]
    unfold fin
    rw [hd0]
    simp [cn]
  refine ⟨?_, hd1⟩
  have ht : td ⟨0, 0, -1, x, 0⟩ = ⟨0, 0, -1, x, 0⟩ := by simp [td]
  unfold enc
  rw [if_pos ⟨hz, by simp⟩, ht]
  have hw : ws (Sp.mk 0 0 (-1) x 0).k z.toNat = [0] := by simp [ws]
  have hwr : wr ⟨0, 0, -1, x, 0⟩ 114 0 = [x] := by simp [wr, bg, low, e]
  rw [hw]
  unfold enw
  rw [if_pos, hwr]
  unfold rd
  rw [hwr, hd1]
  simp [eqs]

theorem tb_of {l : List Int} {a z : Int} {t : Sp} (hb : Byt l) (h : Es.dec l a z = (t, 0)) (hk : t.k ≠ 14) : ∃ b, Tb (a, z) (toldF t a) b ∧ (b.length : Int) ≤ t.n := by
  have hD := dec_dsh hb h hk
  have hs := hD.spk
  have hg : gd a z = true := by
    by_cases hg : gd a z = true
    · exact hg
    · rw [dec_arg (by simpa using hg)] at h; simp at h
  have hr := read_told hD
  have hn := (dec_ok hb h hk).2.1
  by_cases hc : a ≠ 98 ∧ t.k = 12 ∧ t.x < 64
  · obtain ⟨rfl, hi⟩ := hD.one hc.1 hc.2.1
    have hr0 : t.r = 0 := by
      have := congrArg Sp.r hD.td_
      simp only [td, if_pos (show t.k = 0 ∨ t.k = 12 ∨ t.k = 13 by omega)] at this
      exact this.symm
    have e : rsp t 114 = ⟨0, 0, -1, t.x, 0⟩ := by unfold rsp; rw [if_pos hc, hr0, hi]
    obtain ⟨h1, h2⟩ := lit_enc hs.x.1 hc.2.2 hg
    refine ⟨[t.x], ⟨toldF_okc hs _, toldF_ne hs, toldF_len hs _, by simp, ⟨_, hr, by rw [e]; exact h1⟩, ⟨_, h2, by simp, ?_, rfl⟩⟩, by simpa using hn⟩
    unfold toldF kindt
    simp [hc.2.1, hi]
  · have e : rsp t a = ⟨t.k, t.r, t.i, t.x, 0⟩ := by unfold rsp; rw [if_neg hc]
    obtain ⟨b, h1, h2⟩ := enc_back hb h hk
    have h3 := enc_some h1
    rw [hD.td_] at h3
    exact ⟨b, ⟨toldF_okc hs _, toldF_ne hs, toldF_len hs _, enc_len h1, ⟨_, hr, by rw [e, enc_n]; exact h1⟩, ⟨_, h3, hk, rfl, rfl⟩⟩, h2⟩

def Tbs : List (Int × Int) → List (Tx × List Int) → Prop
  | [], [] => True
  | q :: qs, p :: ps => Tb q p.1 p.2 ∧ Tbs qs ps
  | _, _ => False
/-- texts behind one another, each behind something -/
def jn : Tx → List Tx → Tx
  | _, [] => []
  | b, l :: ls => b ++ (l ++ jn [44, 32] ls)
abbrev bsl (ps : List (Tx × List Int)) : List Int := ps.flatMap (·.2)
abbrev tsl (ps : List (Tx × List Int)) : List Tx := ps.map (·.1)

theorem txtG_back {ys : List Int} (hb : Byt ys) : ∀ (qs : List (Int × Int)) (t b : Tx) (at_ : Nat) (T : Tx) (N : Int), txtG ys t b at_ qs = (T, N, 0) →
    ∃ ps, Tbs qs ps ∧ T = t ++ jn b (tsl ps) ∧ (at_ : Int) + (bsl ps).length ≤ N
  | [], t, b, at_, T, N, h => by
    unfold txtG at h
    simp only [Prod.mk.injEq, and_true] at h
    exact ⟨[], trivial, by simp [jn, h.1], by simp [h.2]⟩
  | q :: qs, t, b, at_, T, N, h => by
    rw [txtG_cons] at h
    split at h
    · next h0 =>
      split at h
      · simp at h
      · next h14 =>
        obtain ⟨q1, q2⟩ := q
        obtain ⟨s, e⟩ : ∃ s, Es.dec (ys.drop at_) q1 q2 = (s, 0) := ⟨_, Prod.ext rfl h0⟩
        simp only at h h14
        rw [e] at h h14
        simp only at h h14
        obtain ⟨bb, hT, hl⟩ := tb_of (hb.drop at_) e h14
        obtain ⟨ps, h1, h2, h3⟩ := txtG_back hb qs _ _ _ T N h
        have hn := (dec_ok (hb.drop at_) e h14).2.1
        refine ⟨(toldF s q1, bb) :: ps, ⟨hT, h1⟩, ?_, ?_⟩
        · rw [h2]
          simp [jn]
        · simp only [bsl, List.flatMap_cons, List.length_append] at h3 ⊢
          omega
    · next h0 =>
      simp only [Prod.mk.injEq] at h
      exact absurd h.2.2 h0
theorem txtG_err {ys : List Int} : ∀ (qs : List (Int × Int)) (t b : Tx) (at_ : Nat) (T : Tx) (N e : Int), txtG ys t b at_ qs = (T, N, e) → e ≠ 0 → T = [] ∧ N = 0
  | [], t, b, at_, T, N, e, h, he => by
    unfold txtG at h
    simp only [Prod.mk.injEq] at h
    exact absurd h.2.2.symm he
  | q :: qs, t, b, at_, T, N, e, h, he => by
    rw [txtG_cons] at h
    split at h
    · split at h
      · simp only [Prod.mk.injEq] at h
        exact ⟨h.1.symm, h.2.1.symm⟩
      · exact txtG_err qs _ _ _ T N e h he
    · simp only [Prod.mk.injEq] at h
      exact ⟨h.1.symm, h.2.1.symm⟩
theorem txtF_err {ys : List Int} {T : Tx} {N e : Int} (h : txtF ys = (T, N, e)) (he : e ≠ 0) : T = [] ∧ N = 0 := by
  unfold txtF at h
  split at h
  · simp only [Prod.mk.injEq] at h
    exact ⟨h.1.symm, h.2.1.symm⟩
  · split at h
    · exact txtG_err _ _ _ _ T N e h he
    · simp only [Prod.mk.injEq] at h
      exact ⟨h.1.symm, h.2.1.symm⟩
theorem txtG_same : ∀ (qs : List (Int × Int)) (ps : List (Tx × List Int)), Tbs qs ps → ∀ (pre : List Int) (t b : Tx), txtG (pre ++ bsl ps) t b pre.length qs = (t ++ jn b (tsl ps), ((pre.length + (bsl ps).length : Nat) : Int), 0)
  | [], [], _, pre, t, b => by simp [txtG, jn]
  | q :: qs, p :: ps, ⟨h, hs⟩, pre, t, b => by
    obtain ⟨u, h1, h2, h3, h4⟩ := h.dec
    rw [txtG_cons]
    have e : (pre ++ bsl (p :: ps)).drop pre.length = p.2 ++ bsl ps := by simp [bsl]
    rw [e, dec_app h1]
    simp only
    rw [if_pos trivial, if_neg h2, h3, h4]
    have e2 : pre ++ bsl (p :: ps) = (pre ++ p.2) ++ bsl ps := by simp [bsl]
    have e3 : pre.length + ((p.2.length : Nat) : Int).toNat = (pre ++ p.2).length := by simp
    rw [e2, e3, txtG_same qs ps hs]
    refine Prod.ext ?_ (Prod.ext ?_ rfl)
    · simp [jn]
    · simp [bsl]; omega
theorem opsF_same (line : Int) : ∀ (qs : List (Int × Int)) (ps : List (Tx × List Int)) (ts : List Tx) (s : St), Tbs qs ps → ts.map trm = tsl ps → opsF line s qs ts = some ⟨s.code ++ bsl ps, s.pl, s.gp⟩
  | [], [], ts, s, _, ht => by
    have : ts = [] := by simpa using ht
    subst this
    simp [opsF]
  | q :: qs, p :: ps, [], s, _, ht => by simp at ht
  | q :: qs, p :: ps, t :: ts, s, ⟨h, hs⟩, ht => by
    simp only [tsl, List.map_cons, List.cons.injEq] at ht
    obtain ⟨h1, h2⟩ := ht
    obtain ⟨o, hr, he⟩ := h.one
    rw [opsF_cons]
    have e : oneF s t q.1 q.2 line = some ⟨s.code ++ p.2, s.pl, s.gp⟩ := by
      unfold oneF
      rw [h1, hr, if_pos rfl]
      unfold addF
      simp only
      rw [he]
      simp
    rw [e]
    simp only
    rw [opsF_same line qs ps ts _ hs h2]
    simp
theorem jn_cons (b l : Tx) (ls : List Tx) : jn b (l :: ls) = b ++ (l ++ jn [44, 32] ls) := rfl
theorem spl_jn : ∀ (ls : List Tx) (l : Tx), (44 : UInt8) ∉ l → (∀ x ∈ ls, (44 : UInt8) ∉ x) → spl 44 (l ++ jn [44, 32] ls) = l :: ls.map (32 :: ·)
  | [], l, h, _ => by simp [jn, spl_no h]
  | x :: ls, l, h, hs => by
    rw [jn_cons, show l ++ ([44, 32] ++ (x ++ jn [44, 32] ls)) = l ++ 44 :: ((32 :: x) ++ jn [44, 32] ls) by simp, spl_at _ h]
    rw [spl_jn ls (32 :: x) (by simpa using hs x List.mem_cons_self) (fun y hy => hs y (List.mem_cons_of_mem _ hy))]
    simp
theorem Tbs.all {qs : List (Int × Int)} : ∀ {ps : List (Tx × List Int)}, Tbs qs ps → qs.length = ps.length ∧ (∀ l ∈ tsl ps, (∀ c ∈ l, okc c = true) ∧ l ≠ [] ∧ l.length ≤ 40) ∧ (bsl ps).length ≤ 6 * ps.length := by
  induction qs with
  | nil =>
    intro ps h
    cases ps with
    | nil => exact ⟨rfl, by simp, by simp⟩
    | cons p ps => cases h
  | cons q qs ih =>
    intro ps h
    cases ps with
    | nil => cases h
    | cons p ps =>
      obtain ⟨h1, h2⟩ := h
      obtain ⟨a, b, c⟩ := ih h2
      have := h1.bl
      refine ⟨by simp [a], fun l hl => ?_, ?_⟩
      · rcases List.mem_cons.1 hl with rfl | hl
        · exact ⟨h1.okc, h1.ne, h1.tl⟩
        · exact b l hl
      · simp only [bsl, List.flatMap_cons, List.length_append, List.length_cons] at c ⊢
        omega

/-- signs of instructions' names -/
def nmc (c : UInt8) : Bool := (decide (65 ≤ c.toNat) && decide (c.toNat ≤ 90)) || (decide (48 ≤ c.toNat) && decide (c.toNat ≤ 57))
theorem nm_all : Ia.upto 256 (fun k => !(Ia.prg (k : Int)).2 || ((Ia.prg (k : Int)).1.name.all nmc && (!(Ia.prg (k : Int)).1.name.isEmpty && (decide ((Ia.prg (k : Int)).1.name = Ia.nm (k : Int)) && (decide ((Ia.prg (k : Int)).1.code = (k : Int))))))) = true := by kernel_rfl
theorem nm_in {y : Int} (h : 0 ≤ y ∧ y < 256) (hp : (Ia.prg y).2 = true) : (∀ c ∈ (Ia.prg y).1.name, nmc c = true) ∧ (Ia.prg y).1.name ≠ [] ∧ fnq (Ia.prg y).1.name = Ia.prg y ∧ (Ia.prg y).1.code = y := by
  obtain ⟨k, rfl⟩ : ∃ k : Nat, y = k := ⟨y.toNat, by omega⟩
  have := Ia.upto_at nm_all k (by omega)
  rw [hp] at this
  simp only [Bool.not_true, Bool.false_or, Bool.and_eq_true, List.all_eq_true, Bool.not_eq_true', List.isEmpty_eq_false_iff, decide_eq_true_eq] at this
  obtain ⟨h1, h2, h3, h4⟩ := this
  refine ⟨h1, h2, ?_, h4⟩
  unfold fnq
  rw [h3]
  rw [h3] at h2
  exact Ia.name_at k (by omega) h2
theorem nmc_not : ∀ n : Fin 256, nmc (UInt8.ofNat n.val) = true → Lib.isSp (UInt8.ofNat n.val) = false ∧ UInt8.ofNat n.val ≠ 46 ∧ UInt8.ofNat n.val ≠ 32 ∧ UInt8.ofNat n.val ≠ 58 ∧ UInt8.ofNat n.val ≠ 59 ∧ UInt8.ofNat n.val ≠ 10 ∧ (UInt8.ofNat n.val).toNat < 128 := by decide +kernel
theorem nmc_in {c : UInt8} (h : nmc c = true) : Lib.isSp c = false ∧ c ≠ 46 ∧ c ≠ 32 ∧ c ≠ 58 ∧ c ≠ 59 ∧ c ≠ 10 ∧ c.toNat < 128 := by
  have := nmc_not ⟨c.toNat, c.toNat_lt⟩
  simp only [u8_of] at this
  exact this h
theorem okc_not : ∀ n : Fin 256, okc (UInt8.ofNat n.val) = true → UInt8.ofNat n.val ≠ 32 ∧ UInt8.ofNat n.val ≠ 58 ∧ UInt8.ofNat n.val ≠ 59 ∧ UInt8.ofNat n.val ≠ 10 ∧ UInt8.ofNat n.val ≠ 44 := by decide +kernel
theorem okc_in {c : UInt8} (h : okc c = true) : c ≠ 32 ∧ c ≠ 58 ∧ c ≠ 59 ∧ c ≠ 10 ∧ c ≠ 44 := by
  have := okc_not ⟨c.toNat, c.toNat_lt⟩
  simp only [u8_of] at this
  exact this h
theorem jn_mem : ∀ (ls : List Tx) (b : Tx), (∀ c ∈ b, c = 44 ∨ c = 32) → (∀ l ∈ ls, ∀ c ∈ l, okc c = true) → ∀ c ∈ jn b ls, c = 44 ∨ c = 32 ∨ okc c = true
  | [], b, _, _, c, hc => by simp [jn] at hc
  | l :: ls, b, hb, hl, c, hc => by
    rw [jn_cons] at hc
    rcases List.mem_append.1 hc with hc | hc
    · rcases hb c hc with h | h
      · exact .inl h
      · exact .inr (.inl h)
    · rcases List.mem_append.1 hc with hc | hc
      · exact .inr (.inr (hl l List.mem_cons_self c hc))
      · exact jn_mem ls _ (by simp) (fun x hx => hl x (List.mem_cons_of_mem _ hx)) c hc
theorem jn_last : ∀ (ls : List Tx) (b : Tx), ls ≠ [] → (∀ l ∈ ls, l ≠ [] ∧ ∀ c ∈ l, okc c = true) → ∃ c, (jn b ls).getLast? = some c ∧ okc c = true
  | [], b, h, _ => absurd rfl h
  | [l], b, _, hl => by
    obtain ⟨h1, h2⟩ := hl l List.mem_cons_self
    rw [jn_cons, last_app (by simp [jn, h1])]
    simp only [jn, List.append_nil]
    exact ⟨_, List.getLast?_eq_some_getLast h1, h2 _ (List.getLast_mem h1)⟩
  | l :: x :: ls, b, _, hl => by
    have h1 := (hl l List.mem_cons_self).1
    obtain ⟨c, hc, hk⟩ := jn_last (x :: ls) [44, 32] (by simp) (fun y hy => hl y (List.mem_cons_of_mem _ hy))
    refine ⟨c, ?_, hk⟩
    have hne : jn [44, 32] (x :: ls) ≠ [] := by simp [jn]
    rw [jn_cons, last_app (by simp [h1]), last_app hne]
    exact hc
theorem jn_len : ∀ (ls : List Tx) (b : Tx), b.length ≤ 2 → (∀ l ∈ ls, l.length ≤ 40) → (jn b ls).length ≤ 42 * ls.length
  | [], b, _, _ => by simp [jn]
  | l :: ls, b, hb, hl => by
    have h1 := hl l List.mem_cons_self
    have h2 := jn_len ls [44, 32] (by simp) (fun x hx => hl x (List.mem_cons_of_mem _ hx))
    rw [jn_cons]
    simp only [List.length_append, List.length_cons]
    omega


end Go.Proofs.YtppkpfkoggnbmaaGreatDoor.Cs.Ka

/- What Text says is assembled to bytes of which Text says the same: no program in sight. -/
namespace Go.Proofs.YtppkpfkoggnbmaaGreatDoor.Cs.Ka
open Go.RowKit Es
open Ia (sb)
set_option linter.unusedVariables false
set_option linter.unusedSimpArgs false

/-- what Text says, assembled -/
theorem back_all {ys : List Int} {T : Tx} {N : Int} (hb : Byt ys) (h : txtF ys = (T, N, 0)) :
    ∃ c, asmF T = (c, 0, 0) ∧ (c.length : Int) ≤ N ∧ txtF c = (T, ((c.length : Nat) : Int), 0) ∧ Asc T ∧ T.length ≤ 1000 ∧ c.length ≤ 256 ∧ Byt c := by
  unfold txtF at h
  split at h
  · simp at h
  · next hne =>
    split at h
    · next hp =>
      have hy := hb.at_ 0
      generalize ys.getD 0 0 = y at *
      obtain ⟨n1, n2, n3, n4⟩ := nm_in hy hp
      have n5 := prg_in hy
      obtain ⟨ps, t1, t2, t3⟩ := txtG_back hb _ _ _ _ _ _ h
      obtain ⟨l1, l2, l3⟩ := t1.all
      have hops := n5.2.1
      have hname := n5.2.2
      have hsig : ∀ c ∈ T, c ≠ 58 ∧ c ≠ 59 ∧ c ≠ 10 ∧ c.toNat < 128 := by
        intro c hc
        rw [t2] at hc
        rcases List.mem_append.1 hc with hc | hc
        · have := nmc_in (n1 c hc)
          exact ⟨this.2.2.2.1, this.2.2.2.2.1, this.2.2.2.2.2.1, this.2.2.2.2.2.2⟩
        · rcases jn_mem _ [32] (by simp) (fun l hl => (l2 l hl).1) c hc with rfl | rfl | hk
          · decide
          · decide
          · have := okc_in hk
            exact ⟨this.2.1, this.2.2.1, this.2.2.2.1, okc_asc hk⟩
      have hTn : T ≠ [] := by rw [t2]; simp [n2]
      have htrm : trm T = T := by
        refine trm_ends (fun b hb => ?_) (fun b hb => ?_)
        · obtain ⟨x, nt, hx⟩ := List.exists_cons_of_ne_nil n2
          rw [t2, hx] at hb
          simp only [List.cons_append, List.head?_cons, Option.some.injEq] at hb
          subst hb
          exact (nmc_in (n1 x (by rw [hx]; exact List.mem_cons_self))).1
        · by_cases hps : tsl ps = []
          · rw [t2, hps] at hb
            simp only [jn, List.append_nil] at hb
            exact (nmc_in (n1 b (List.mem_of_mem_getLast? hb))).1
          · obtain ⟨c, hc, hk⟩ := jn_last (tsl ps) [32] hps (fun l hl => ⟨(l2 l hl).2.1, (l2 l hl).1⟩)
            have hne : jn [32] (tsl ps) ≠ [] := fun e => by rw [e] at hc; simp at hc
            rw [t2, last_app hne, hc] at hb
            simp only [Option.some.injEq] at hb
            subst hb
            exact okc_white hk
      have h32 : (32 : UInt8) ∉ (Ia.prg y).1.name := fun hm => (nmc_in (n1 _ hm)).2.2.1 rfl
      have h46 : ([46] : Tx).isPrefixOf (Ia.prg y).1.name = false := by
        cases hq : ([46] : Tx).isPrefixOf (Ia.prg y).1.name
        · rfl
        · exact absurd rfl (nmc_in (n1 46 (pre_mem hq 46 (by simp)))).2.1
      have hins : ∀ ts : List Tx, ts.map trm = tsl ps → insF ⟨[], [], []⟩ (Ia.prg y).1.name ts ((0 + 1 : Nat) : Int) = some ⟨y :: bsl ps, [], []⟩ := by
        intro ts hts
        have hlen : ts.length = (Ia.prg y).1.ops.length := by
          have := congrArg List.length hts
          simp at this
          omega
        unfold insF
        rw [n3, if_pos ⟨hp, hlen⟩, opsF_same _ _ ps ts _ t1 hts, n4]
        have e : y % 256 = y := by omega
        simp [e]
      have htak : takF ⟨[], [], []⟩ T ((0 + 1 : Nat) : Int) = some ⟨y :: bsl ps, [], []⟩ := by
        unfold takF
        rw [cutc_no (fun hm => (hsig 59 hm).2.1 rfl), htrm]
        unfold linF
        rw [cutc_no (fun hm => (hsig 58 hm).1 rfl), if_neg (by simp)]
        unfold bodF
        rw [if_neg hTn]
        cases hps : ps with
        | nil =>
          have e : T = (Ia.prg y).1.name := by rw [t2, hps]; simp [jn]
          rw [e, cutc_no h32]
          simp only [h46, if_neg Bool.false_ne_true]
          have := hins [] (by rw [hps]; rfl)
          rw [hps] at this
          exact this
        | cons p ps' =>
          have e : T = (Ia.prg y).1.name ++ 32 :: (p.1 ++ jn [44, 32] (tsl ps')) := by rw [t2, hps]; simp [jn]
          rw [e, cutc_at _ h32]
          simp only [h46, if_neg Bool.false_ne_true, if_true]
          have hok : ∀ l ∈ tsl ps, (44 : UInt8) ∉ l ∧ trm l = l := fun l hl => ⟨fun hm => (okc_in ((l2 l hl).1 _ hm)).2.2.2.2 rfl, trm_no (fun b hb => okc_white ((l2 l hl).1 b hb))⟩
          rw [hps] at hok
          rw [spl_jn _ _ (hok p.1 (by simp)).1 (fun x hx => (hok x (by simp only [tsl, List.map_cons]; exact List.mem_cons_of_mem _ hx)).1)]
          rw [← hps]
          refine hins _ ?_
          rw [hps]
          simp only [tsl, List.map_cons, List.map_map]
          rw [(hok p.1 (by simp)).2]
          congr 1
          refine List.map_congr_left fun x hx => ?_
          simp only [Function.comp]
          rw [trm_ahead rfl]
          exact (hok x.1 (by simp only [tsl, List.map_cons]; exact List.mem_cons_of_mem _ (List.mem_map_of_mem hx))).2
      have hcl : (y :: bsl ps).length ≤ 40 := by simp only [List.length_cons]; omega
      have hTl : T.length ≤ 1000 := by
        have := jn_len (tsl ps) [32] (by simp) (fun l hl => (l2 l hl).2.2)
        rw [t2]
        simp only [List.length_append, tsl, List.length_map] at this ⊢
        omega
      have hbc : Byt (y :: bsl ps) := by
        refine Byt.cons hy ?_
        have : ∀ (qs : List (Int × Int)) (ps : List (Tx × List Int)), Tbs qs ps → Byt (bsl ps) := by
          intro qs
          induction qs with
          | nil => intro ps h; cases ps with
            | nil => exact Byt.nil
            | cons => cases h
          | cons q qs ih => intro ps h; cases ps with
            | nil => cases h
            | cons p ps =>
              obtain ⟨s, _, he⟩ := h.1.one
              simp only [bsl, List.flatMap_cons]
              exact (enc_byt he).app (ih ps h.2)
        exact this _ _ t1
      refine ⟨y :: bsl ps, ?_, ?_, ?_, fun b hb => (hsig b hb).2.2.2, hTl, by omega, hbc⟩
      · unfold asmF
        rw [if_neg (by omega), spl_no (fun hm => (hsig 10 hm).2.2.1 rfl)]
        have hl : lnsF ⟨[], [], []⟩ 0 [T] = (⟨y :: bsl ps, [], []⟩, 0) := by
          rw [lns_cons, htak]
          simp only
          rw [if_neg (by omega)]
          rfl
        unfold asmL
        rw [hl]
        simp [gpsF]
      · simp only [List.length_cons]
        omega
      · have h1 := txtG_same _ ps t1 [y] (Ia.prg y).1.name [32]
        unfold txtF
        rw [if_neg (by simp)]
        simp only [List.getD_cons_zero]
        rw [if_pos hp]
        refine Eq.trans h1 ?_
        rw [← t2]
        refine Prod.ext rfl (Prod.ext ?_ rfl)
        simp; omega
    · simp at h

end Go.Proofs.YtppkpfkoggnbmaaGreatDoor.Cs.Ka
