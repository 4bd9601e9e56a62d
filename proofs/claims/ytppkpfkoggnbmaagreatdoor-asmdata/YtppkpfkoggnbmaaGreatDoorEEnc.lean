/- Specifiers written: what Encode of layer 11 answers. No program in sight. -/
import Derived.Test.YtppkpfkoggnbmaaGreatDoorEBoth
namespace Go.Proofs.YtppkpfkoggnbmaaGreatDoor.Cs.Es
open Go.RowKit
set_option linter.unusedVariables false

/-- a number's lowest bytes -/
def low (x : Int) (k : Nat) : List Int := (List.range k).map fun i => x / 256 ^ i % 256
theorem low_length (x : Int) (k : Nat) : (low x k).length = k := by simp [low]
theorem low_succ (x : Int) (k : Nat) : low x (k + 1) = low x k ++ [x / 256 ^ k % 256] := by simp [low, List.range_succ]
theorem low_byt (x : Int) (k : Nat) : Byt (low x k) := by
  intro y hy
  simp only [low, List.mem_map] at hy
  obtain ⟨i, _, rfl⟩ := hy
  omega
theorem low_one (x : Int) : low x 1 = [x % 256] := by simp [low, List.range_succ]
theorem low_two (x : Int) : low x 2 = [x % 256, x / 256 % 256] := by simp [low, List.range_succ]
theorem low_four (x : Int) : low x 4 = [x % 256, x / 256 % 256, x / 65536 % 256, x / 16777216 % 256] := by simp [low, List.range_succ]
/-- bytes of which a number is made are its bytes -/
theorem low_nb {l : List Int} (hb : Byt l) (hz : Sz l.length) : low (nb l) l.length = l := by
  have h4 : l.length = 1 ∨ l.length = 2 ∨ l.length = 4 := by rcases hz with h | h | h <;> omega
  rcases h4 with h | h | h
  · match l, h with
    | [x], _ =>
      have h0 := hb.hd
      show low (nb [x]) 1 = _
      rw [low_one]
      have : nb [x] % 256 = x := by
        unfold nb ex sg W; simp [num]; split <;> omega
      rw [this]
  · match l, h with
    | [x, y], _ =>
      have h0 := hb.hd
      have h1 := hb.tl.hd
      show low (nb [x, y]) 2 = _
      rw [low_two]
      have e : nb [x, y] % 65536 = x + 256 * y := by
        unfold nb ex sg W; simp [num]; split <;> omega
      have e1 : nb [x, y] % 256 = x := by omega
      have e2 : nb [x, y] / 256 % 256 = y := by omega
      rw [e1, e2]
  · match l, h with
    | [x, y, u, v], _ =>
      have h0 := hb.hd
      have h1 := hb.tl.hd
      have h2 := hb.tl.tl.hd
      have h3 := hb.tl.tl.tl.hd
      show low (nb [x, y, u, v]) 4 = _
      rw [low_four]
      have e : nb [x, y, u, v] = x + 256 * (y + 256 * (u + 256 * v)) := by
        unfold nb ex sg W; simp [num]; split <;> omega
      rw [e]
      have e1 : (x + 256 * (y + 256 * (u + 256 * v))) % 256 = x := by omega
      have e2 : (x + 256 * (y + 256 * (u + 256 * v))) / 256 % 256 = y := by omega
      have e3 : (x + 256 * (y + 256 * (u + 256 * v))) / 65536 % 256 = u := by omega
      have e4 : (x + 256 * (y + 256 * (u + 256 * v))) / 16777216 % 256 = v := by omega
      rw [e1, e2, e3, e4]

/-- a specifier with nothing but what its kind tells -/
def td (s : Sp) : Sp := ⟨s.k, if s.k = 0 ∨ s.k = 12 ∨ s.k = 13 then 0 else s.r, max s.i (-1), if 5 ≤ s.k ∧ s.k ≤ 9 then 0 else s.x, s.n⟩
/-- how many bytes the number of a kind can have -/
def ws (k : Int) (z : Nat) : List Nat := if k = 0 ∨ (5 ≤ k ∧ k ≤ 9) then [0] else if k = 10 ∨ k = 11 then [1, 2, 4] else if k = 12 then [z] else if k = 13 then [4] else []
/-- the byte of a mode and a register -/
def fs (m r : Int) : Int := m * 16 + r % 16
/-- the byte that says a kind -/
def bg (s : Sp) (w : Nat) : Int := if s.k = 0 then s.x % 64 else if s.k = 12 then 143 else if s.k = 13 then 159 else if s.k = 10 ∨ s.k = 11 then fs (s.k + (w / 2 * 2 : Nat)) s.r else fs s.k s.r
/-- a specifier's bytes -/
def wr (s : Sp) (a : Int) (w : Nat) : List Int := (if s.i = -1 then [] else [fs 4 s.i]) ++ ((if a = 98 then [] else [bg s w]) ++ low s.x w)
/-- whether they are read as they were written -/
def rd (s : Sp) (a z : Int) (w : Nat) : Bool := (dec (wr s a w) a z).2 == 0 && eqs (dec (wr s a w) a z).1 ⟨s.k, s.r, s.i, s.x, (wr s a w).length⟩
def enw (s : Sp) (a z : Int) : List Nat → Option (List Int)
  | [] => none
  | w :: l => if rd s a z w = true then some (wr s a w) else enw s a z l
/-- what Encode answers -/
def enc (s : Sp) (a z : Int) : Option (List Int) := if gd a z = true ∧ 0 ≤ s.r ∧ s.r ≤ 15 then enw (td s) a z (ws s.k z.toNat) else none

theorem wr_len (s : Sp) (a : Int) (w : Nat) : (wr s a w).length = (if s.i = -1 then 0 else 1) + ((if a = 98 then 0 else 1) + w) := by
  unfold wr
  simp only [List.length_append, low_length]
  congr 1
  · split <;> rfl
  · congr 1
    split <;> rfl
theorem ws_le {k : Int} {z : Nat} (hz : z ≤ 4) : ∀ w ∈ ws k z, w ≤ 4 := by
  intro w hw
  unfold ws at hw
  (repeat' split at hw) <;> simp at hw <;> omega
theorem enw_some {s : Sp} {a z : Int} {l : List Nat} {b : List Int} (h : enw s a z l = some b) : ∃ w, w ∈ l ∧ rd s a z w = true ∧ b = wr s a w := by
  induction l with
  | nil => simp [enw] at h
  | cons w l ih =>
    unfold enw at h
    split at h
    · rename_i h1
      simp at h
      exact ⟨w, List.mem_cons_self, h1, h.symm⟩
    · obtain ⟨w', h1, h2⟩ := ih h
      exact ⟨w', List.mem_cons_of_mem _ h1, h2⟩
theorem rd_iff {s : Sp} {a z : Int} {w : Nat} (h : rd s a z w = true) : dec (wr s a w) a z = (⟨s.k, s.r, s.i, s.x, (wr s a w).length⟩, 0) := by
  unfold rd at h
  simp only [Bool.and_eq_true, beq_iff_eq] at h
  exact Prod.ext (eqs_iff.1 h.2) h.1
/-- what is encoded is decoded -/
theorem enc_some {s : Sp} {a z : Int} {b : List Int} (h : enc s a z = some b) : dec b a z = (⟨(td s).k, (td s).r, (td s).i, (td s).x, b.length⟩, 0) := by
  unfold enc at h
  split at h
  · obtain ⟨w, _, h2, rfl⟩ := enw_some h
    exact rd_iff h2
  · simp at h

/-- a specifier that was decoded tells nothing that its kind doesn't tell, and has the bytes that it is written in -/
theorem hd_back {x z a i : Int} (hb : 0 ≤ x ∧ x < 256) (hz : Sz z) (hc : cn (hd x z).k (hd x z).r i a = true) (v n : Int) (hv : (hd x z).w = 0 → v = (hd x z).v) (hi : -1 ≤ i) :
    td ⟨(hd x z).k, (hd x z).r, i, v, n⟩ = ⟨(hd x z).k, (hd x z).r, i, v, n⟩ ∧ bg ⟨(hd x z).k, (hd x z).r, i, v, n⟩ (hd x z).w = x ∧ (hd x z).w ∈ ws (hd x z).k z.toNat ∧ (hd x z).k ≠ 14 ∧ 0 ≤ (hd x z).r ∧ (hd x z).r ≤ 15 ∧
      ((hd x z).w = 0 ∨ Sz (hd x z).w) := by
  have hmax : max i (-1) = i := by omega
  have h4 : z.toNat = 1 ∨ z.toNat = 2 ∨ z.toNat = 4 := by rcases hz with rfl | rfl | rfl <;> simp
  unfold hd at hc hv ⊢
  by_cases c1 : x / 16 < 4
  · simp only [if_pos c1] at hv ⊢
    have := hv trivial
    subst this
    refine ⟨by simp [td, hmax], by simp [bg]; omega, by simp [ws], by simp, by simp, by simp, by simp⟩
  · simp only [if_neg c1] at hc hv ⊢
    by_cases c2 : x / 16 = 4
    · simp only [if_pos c2] at hc; simp [cn] at hc
    · simp only [if_neg c2] at hc hv ⊢
      by_cases c3 : x / 16 = 8 ∧ x % 16 = 15
      · simp only [if_pos c3]
        refine ⟨by simp [td, hmax], by simp [bg]; omega, by simp [ws], by simp, by simp, by simp, ?_⟩
        simp only [Sz]; omega
      · simp only [if_neg c3] at hc hv ⊢
        by_cases c4 : x / 16 = 9 ∧ x % 16 = 15
        · simp only [if_pos c4]
          refine ⟨by simp [td, hmax], by simp [bg]; omega, by simp [ws], by simp, by simp, by simp, by simp [Sz]⟩
        · simp only [if_neg c4] at hc hv ⊢
          by_cases c5 : x / 16 < 10
          · simp only [if_pos c5] at hc hv ⊢
            have hv0 : v = 0 := hv (by simp)
            have hk : x / 16 = 5 ∨ x / 16 = 6 ∨ x / 16 = 7 ∨ x / 16 = 8 ∨ x / 16 = 9 := by omega
            rcases hk with hk | hk | hk | hk | hk
            all_goals
              rw [hk]
              refine ⟨by simp [td, hmax, hv0], by simp [bg, fs]; omega, by simp [ws], by simp, by omega, by omega, by simp⟩
          · simp only [if_neg c5] at hc hv ⊢
            have hk : x / 16 = 10 ∨ x / 16 = 11 ∨ x / 16 = 12 ∨ x / 16 = 13 ∨ x / 16 = 14 ∨ x / 16 = 15 := by omega
            rcases hk with hk | hk | hk | hk | hk | hk
            all_goals
              rw [hk]
              refine ⟨by simp [td, hmax], by simp [bg, fs]; omega, by simp [ws], by simp, by omega, by omega, by simp [Sz]⟩

theorem enw_le {s : Sp} {a z : Int} {l : List Nat} (hl : l.Pairwise (· ≤ ·)) {w0 : Nat} (h0 : w0 ∈ l) (hr : rd s a z w0 = true) : ∃ b, enw s a z l = some b ∧ b.length ≤ (wr s a w0).length := by
  induction l with
  | nil => simp at h0
  | cons w l ih =>
    rw [List.pairwise_cons] at hl
    unfold enw
    by_cases h : rd s a z w = true
    · rw [if_pos h]
      refine ⟨_, rfl, ?_⟩
      rw [wr_len, wr_len]
      rcases List.mem_cons.1 h0 with rfl | h1
      · exact Nat.le_refl _
      · have := hl.1 w0 h1; omega
    · rw [if_neg h]
      rcases List.mem_cons.1 h0 with rfl | h1
      · exact absurd hr h
      · exact ih hl.2 h1
theorem ws_sorted (k : Int) (z : Nat) : (ws k z).Pairwise (· ≤ ·) := by
  unfold ws
  (repeat' split) <;> simp
/-- the bytes in which a specifier stood -/
theorem fin_back {x a z i : Int} {c : Nat} {u : List Int} {t : Sp} (hb : Byt (x :: u)) (hz : Sz z) (h : fin x u a z i c = (t, 0)) (hk : t.k ≠ 14) (hi : -1 ≤ i) (h98 : a ≠ 98) :
    ∃ w, w ∈ ws t.k z.toNat ∧ td t = t ∧ 0 ≤ t.r ∧ t.r ≤ 15 ∧ t.i = i ∧ t.n = c + w ∧ w ≤ u.length ∧ bg t w :: low t.x w = x :: u.take w := by
  unfold fin at h
  by_cases hc : cn (hd x z).k (hd x z).r i a = true
  · rw [if_pos hc] at h
    by_cases hl : u.length < (hd x z).w
    · rw [if_pos hl] at h; simp at h
    · rw [if_neg hl] at h
      have ht := (Prod.mk.inj h).1
      subst ht
      obtain ⟨h1, h2, h3, h4, h5, h6, h7⟩ := hd_back hb.hd hz hc (if (hd x z).w = 0 then (hd x z).v else nb (u.take (hd x z).w)) (c + (hd x z).w) (fun h0 => by rw [if_pos h0]) hi
      refine ⟨(hd x z).w, h3, h1, h5, h6, rfl, rfl, by omega, ?_⟩
      rw [h2]
      congr 1
      rcases h7 with h7 | h7
      · rw [h7]; simp [low]
      · have hne : (hd x z).w ≠ 0 := by rcases h7 with h | h | h <;> omega
        simp only [if_neg hne]
        have hlen : (u.take (hd x z).w).length = (hd x z).w := by rw [List.length_take]; omega
        have := low_nb (l := u.take (hd x z).w) (hb.tl.take _) (by rw [hlen]; exact h7)
        rw [hlen] at this
        exact this
  · rw [if_neg hc] at h
    have ht := (Prod.mk.inj h).1
    subst ht
    exact absurd rfl hk
/-- what is decoded can be encoded, in no more bytes -/
theorem enc_back {l : List Int} {a z : Int} {t : Sp} (hb : Byt l) (h : dec l a z = (t, 0)) (hk : t.k ≠ 14) : ∃ b, enc t a z = some b ∧ (b.length : Int) ≤ t.n := by
  obtain ⟨m, e1, e2, e3, e4, e5, _⟩ := dec_take h
  have hg : gd a z = true := by
    by_cases hg : gd a z = true
    · exact hg
    · rw [dec_arg (by simpa using hg)] at h; simp at h
  have hz := gd_sz hg
  have key : ∃ w, w ∈ ws t.k z.toNat ∧ td t = t ∧ 0 ≤ t.r ∧ t.r ≤ 15 ∧ wr t a w = l.take m := by
    by_cases h98 : a = 98
    · subst h98
      unfold dec at h
      rw [if_neg (by simp [hg]), if_pos rfl] at h
      by_cases hl : l.length < z.toNat
      · rw [if_pos hl] at h; simp at h
      · rw [if_neg hl] at h
        have ht := (Prod.mk.inj h).1
        subst ht
        have hm : m = z.toNat := by simp only at e1; omega
        subst hm
        have hlen : (l.take z.toNat).length = z.toNat := by rw [List.length_take]; omega
        refine ⟨z.toNat, by simp [ws], by simp [td], by simp, by simp, ?_⟩
        unfold wr
        simp only [if_true, List.nil_append]
        have := low_nb (l := l.take z.toNat) (hb.take _) (by rw [hlen]; rcases hz with rfl | rfl | rfl <;> simp [Sz])
        rw [hlen] at this
        exact this
    · match l, hb with
      | [], _ => simp at e3; omega
      | x :: u, hb =>
        by_cases hx : x / 16 = 4
        · by_cases h15 : x % 16 = 15
          · rw [dec_15 hg h98 hx h15] at h
            have ht := (Prod.mk.inj h).1
            subst ht
            exact absurd rfl hk
          · match u, hb with
            | [], _ => rw [dec_short hg h98 hx h15] at h; simp at h
            | y :: v, hb =>
              rw [dec_1 hg h98 hx h15] at h
              obtain ⟨w, w1, w2, w3, w4, w5, w6, w7, w8⟩ := fin_back (c := 2) hb.tl hz h hk (by omega) h98
              refine ⟨w, w1, w2, w3, w4, ?_⟩
              have hm : m = w + 2 := by omega
              have hbx := hb.hd
              have hi : t.i ≠ -1 := by omega
              unfold wr
              rw [if_neg hi, if_neg h98, w5, hm, List.singleton_append, List.singleton_append, w8, List.take_succ_cons, List.take_succ_cons]
              congr 1
              unfold fs; omega
        · rw [dec_0 hg h98 hx] at h
          obtain ⟨w, w1, w2, w3, w4, w5, w6, w7, w8⟩ := fin_back (c := 1) hb hz h hk (by omega) h98
          refine ⟨w, w1, w2, w3, w4, ?_⟩
          have hm : m = w + 1 := by omega
          unfold wr
          rw [if_pos w5, if_neg h98, hm, List.nil_append, List.singleton_append, w8, List.take_succ_cons]
  obtain ⟨w, w1, w2, w3, w4, w5⟩ := key
  have hlen : (wr t a w).length = m := by rw [w5, List.length_take]; omega
  have hr : rd t a z w = true := by
    unfold rd
    rw [hlen, w5, e5]
    simp only [Bool.and_eq_true, beq_iff_eq]
    refine ⟨trivial, eqs_iff.2 ?_⟩
    rw [← e1]
  obtain ⟨b, b1, b2⟩ := enw_le (ws_sorted _ _) w1 hr
  refine ⟨b, ?_, by omega⟩
  unfold enc
  rw [if_pos ⟨hg, w3, w4⟩, w2]
  exact b1

end Go.Proofs.YtppkpfkoggnbmaaGreatDoor.Cs.Es
