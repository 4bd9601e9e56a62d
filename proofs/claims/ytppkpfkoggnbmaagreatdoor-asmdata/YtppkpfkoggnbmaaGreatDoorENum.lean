/- Specifiers as numbers: what Decode of layer 11 answers. No program in sight. -/
import Derived.Test.YtppkpfkoggnbmaaGreatDoorGBit
namespace Go.Proofs.YtppkpfkoggnbmaaGreatDoor.Cs.Es

/-- A specifier. -/
structure Sp where
  k : Int
  r : Int
  i : Int
  x : Int
  n : Int
abbrev Sp.val (s : Sp) : Value := .agg #[.int .i64 s.k, .int .i64 s.r, .int .i64 s.i, .int .u32 s.x, .int .i64 s.n]
abbrev Sp.cells (s : Sp) : List Value := [.int .i64 s.k, .int .i64 s.r, .int .i64 s.i, .int .u32 s.x, .int .i64 s.n]
def eqs (a b : Sp) : Bool := a.k == b.k && (a.r == b.r && (a.i == b.i && (a.x == b.x && a.n == b.n)))
theorem eqs_iff {a b : Sp} : eqs a b = true ↔ a = b := by
  obtain ⟨a1, a2, a3, a4, a5⟩ := a
  obtain ⟨b1, b2, b3, b4, b5⟩ := b
  simp [eqs]
/-- nothing at all -/
def zs : Sp := ⟨0, 0, 0, 0, 0⟩
/-- one that can't be -/
def bd (n : Int) : Sp := ⟨14, 0, -1, 0, n⟩

/-- Every number is a byte. -/
def Byt (l : List Int) : Prop := ∀ x ∈ l, 0 ≤ x ∧ x < 256
theorem Byt.drop {l : List Int} (h : Byt l) (n : Nat) : Byt (l.drop n) := fun x hx => h x (List.mem_of_mem_drop hx)
theorem Byt.take {l : List Int} (h : Byt l) (n : Nat) : Byt (l.take n) := fun x hx => h x (List.mem_of_mem_take hx)
theorem Byt.app {l k : List Int} (h : Byt l) (j : Byt k) : Byt (l ++ k) := fun x hx => by
  rcases List.mem_append.1 hx with hx | hx
  · exact h x hx
  · exact j x hx
theorem Byt.nil : Byt [] := fun x hx => by simp at hx
theorem Byt.cons {x : Int} {l : List Int} (h : 0 ≤ x ∧ x < 256) (j : Byt l) : Byt (x :: l) := fun y hy => by
  rcases List.mem_cons.1 hy with rfl | hy
  · exact h
  · exact j y hy
theorem Byt.hd {x : Int} {l : List Int} (h : Byt (x :: l)) : 0 ≤ x ∧ x < 256 := h x List.mem_cons_self
theorem Byt.tl {x : Int} {l : List Int} (h : Byt (x :: l)) : Byt l := fun y hy => h y (List.mem_cons_of_mem _ hy)
theorem Byt.at_ {xs : List Int} (h : Byt xs) (i : Nat) : 0 ≤ xs.getD i 0 ∧ xs.getD i 0 < 256 := by
  by_cases hi : i < xs.length
  · simp only [List.getD, List.getElem?_eq_getElem hi, Option.getD_some]
    exact h _ (List.getElem_mem hi)
  · simp [List.getD, List.getElem?_eq_none (by omega : xs.length ≤ i)]

/-- the number that bytes are, the lowest first -/
def num : List Int → Int
  | [] => 0
  | x :: l => x + 256 * num l
theorem num_snoc (l : List Int) (x : Int) : num (l ++ [x]) = num l + 256 ^ l.length * x := by
  induction l with
  | nil => simp [num]
  | cons y l ih =>
    simp only [List.cons_append, num, ih, List.length_cons, Int.pow_succ]
    rw [Int.mul_add, ← Int.mul_assoc, Int.mul_comm 256 (256 ^ l.length), Int.add_assoc]
theorem num_bound {l : List Int} (h : Byt l) : 0 ≤ num l ∧ num l < 256 ^ l.length := by
  induction l with
  | nil => simp [num]
  | cons y l ih =>
    have h1 := ih h.tl
    have h2 := h.hd
    simp only [num, List.length_cons, Int.pow_succ]
    omega
theorem num_drop (ys : List Int) (k : Nat) (h : k < ys.length) : num (ys.drop k) = ys.getD k 0 + 256 * num (ys.drop (k + 1)) := by
  rw [List.drop_eq_getElem_cons h, num]
  simp [List.getD, h]
theorem num_take (ys : List Int) (k : Nat) (h : k < ys.length) : num (ys.take (k + 1)) = num (ys.take k) + 256 ^ k * ys.getD k 0 := by
  rw [List.take_succ_eq_append_getElem h, num_snoc, List.length_take, Nat.min_eq_left (by omega)]
  simp [List.getD, h]
/-- with its sign, in 32 bits -/
def nb (l : List Int) : Int := ex (num l) l.length
theorem ex_U (x s : Int) : U (ex x s) := by unfold ex U; omega

/-- one of the operands that there are -/
def gd (a z : Int) : Bool := (z == 1 || (z == 2 || z == 4)) && (a == 114 || (a == 119 || (a == 109 || (a == 97 || (a == 118 || a == 98)))))
theorem gd_sz {a z : Int} (h : gd a z = true) : Sz z := by
  simp [gd] at h
  exact h.1
/-- what an operand's byte says -/
structure Hd where
  k : Int
  r : Int
  v : Int
  w : Nat
def hd (x z : Int) : Hd :=
  if x / 16 < 4 then ⟨0, 0, x % 64, 0⟩
  else if x / 16 = 4 then ⟨14, 0, 0, 0⟩
  else if x / 16 = 8 ∧ x % 16 = 15 then ⟨12, 0, 0, z.toNat⟩
  else if x / 16 = 9 ∧ x % 16 = 15 then ⟨13, 0, 0, 4⟩
  else if x / 16 < 10 then ⟨x / 16, x % 16, 0, 0⟩
  else ⟨10 + x / 16 % 2, x % 16, 0, if x / 16 < 12 then 1 else if x / 16 < 14 then 2 else 4⟩
/-- whether it can be -/
def cn (k r i a : Int) : Bool :=
  if k = 14 then false else if k = 0 ∨ k = 12 then a == 114 && i == -1
  else if k = 5 then a != 97 && (i == -1 && r != 15) else if k = 6 ∨ k = 7 then r != 15 else true
/-- an operand's byte and what is behind; c bytes up to it, with it -/
def fin (x : Int) (t : List Int) (a z i c : Int) : Sp × Int :=
  if cn (hd x z).k (hd x z).r i a = true then
    if t.length < (hd x z).w then (zs, 3)
    else (⟨(hd x z).k, (hd x z).r, i, if (hd x z).w = 0 then (hd x z).v else nb (t.take (hd x z).w), c + (hd x z).w⟩, 0)
  else (bd c, 0)
/-- what Decode answers -/
def dec (l : List Int) (a z : Int) : Sp × Int :=
  if gd a z = false then (zs, 1)
  else if a = 98 then (if l.length < z.toNat then (zs, 3) else (⟨12, 0, -1, nb (l.take z.toNat), z⟩, 0))
  else match l with
    | [] => (zs, 3)
    | x :: t => if x / 16 = 4 then (if x % 16 = 15 then (bd 1, 0) else match t with
        | [] => (zs, 3)
        | y :: u => fin y u a z (x % 16) 2)
      else fin x t a z (-1) 1

theorem hd_w {x z : Int} (hz : Sz z) : (hd x z).w ≤ 4 := by
  unfold hd
  rcases hz with rfl | rfl | rfl <;> (repeat' split) <;> simp <;> omega
theorem fin_app {x a z i c : Int} {t ys : List Int} {s : Sp} (h : fin x t a z i c = (s, 0)) : fin x (t ++ ys) a z i c = (s, 0) := by
  unfold fin at h ⊢
  split at h
  · rename_i h1
    rw [if_pos h1]
    split at h
    · simp at h
    · rename_i h2
      rw [if_neg (by simp; omega), ← h]
      rw [List.take_append_of_le_length (by omega)]
  · rename_i h1
    rw [if_neg h1]; exact h
theorem dec_app {l ys : List Int} {a z : Int} {s : Sp} (h : dec l a z = (s, 0)) : dec (l ++ ys) a z = (s, 0) := by
  unfold dec at h ⊢
  split at h
  · simp at h
  · rename_i h1
    rw [if_neg h1]
    split at h
    · rename_i h2
      rw [if_pos h2]
      split at h
      · simp at h
      · rename_i h3
        rw [if_neg (by simp; omega), ← h, List.take_append_of_le_length (by omega)]
    · rename_i h2
      rw [if_neg h2]
      match l, h with
      | [], h => simp at h
      | x :: t, h =>
        simp only [List.cons_append] at h ⊢
        by_cases h4 : x / 16 = 4
        · rw [if_pos h4] at h ⊢
          by_cases h5 : x % 16 = 15
          · rw [if_pos h5] at h ⊢; exact h
          · rw [if_neg h5] at h ⊢
            match t, h with
            | [], h => simp at h
            | y :: u, h => exact fin_app h
        · rw [if_neg h4] at h ⊢
          exact fin_app h
theorem fin_take {x a z i : Int} {c : Nat} {t : List Int} {s : Sp} (hz : Sz z) (h : fin x t a z i c = (s, 0)) :
    ∃ m : Nat, s.n = c + m ∧ m ≤ t.length ∧ m ≤ 4 ∧ fin x (t.take m) a z i c = (s, 0) ∧ ∀ j, j < m → fin x (t.take j) a z i c = (zs, 3) := by
  unfold fin at h ⊢
  by_cases h1 : cn (hd x z).k (hd x z).r i a = true
  · simp only [if_pos h1] at h ⊢
    by_cases h2 : t.length < (hd x z).w
    · rw [if_pos h2] at h; simp at h
    · rw [if_neg h2] at h
      refine ⟨(hd x z).w, ?_, by omega, hd_w hz, ?_, fun j hj => ?_⟩
      · rw [← (Prod.mk.inj h).1]
      · rw [if_neg (by simp; omega), List.take_take, Nat.min_self]; exact h
      · rw [if_pos (by simp; omega)]
  · simp only [if_neg h1] at h ⊢
    refine ⟨0, ?_, by omega, by omega, h, fun j hj => by omega⟩
    rw [← (Prod.mk.inj h).1]
    simp [bd]
theorem dec_take {l : List Int} {a z : Int} {s : Sp} (h : dec l a z = (s, 0)) :
    ∃ m : Nat, s.n = m ∧ 1 ≤ m ∧ m ≤ l.length ∧ m ≤ 6 ∧ dec (l.take m) a z = (s, 0) ∧ ∀ j, j < m → dec (l.take j) a z = (zs, 3) := by
  unfold dec at h ⊢
  by_cases h1 : gd a z = false
  · rw [if_pos h1] at h; simp at h
  · simp only [if_neg h1] at h ⊢
    have hz : Sz z := gd_sz (by simpa using h1)
    by_cases h2 : a = 98
    · simp only [if_pos h2] at h ⊢
      by_cases h3 : l.length < z.toNat
      · rw [if_pos h3] at h; simp at h
      · rw [if_neg h3] at h
        have hz1 : 1 ≤ z.toNat ∧ z.toNat ≤ 4 ∧ ((z.toNat : Nat) : Int) = z := by rcases hz with rfl | rfl | rfl <;> simp
        refine ⟨z.toNat, ?_, hz1.1, by omega, by omega, ?_, fun j hj => ?_⟩
        · rw [← (Prod.mk.inj h).1]; exact hz1.2.2.symm
        · rw [if_neg (by simp; omega), List.take_take, Nat.min_self]; exact h
        · rw [if_pos (by simp; omega)]
    · simp only [if_neg h2] at h ⊢
      match l, h with
      | [], h => simp at h
      | x :: t, h =>
        simp only at h
        by_cases h4 : x / 16 = 4
        · rw [if_pos h4] at h
          by_cases h5 : x % 16 = 15
          · rw [if_pos h5] at h
            refine ⟨1, by rw [← (Prod.mk.inj h).1]; rfl, by omega, by simp, by omega, ?_, fun j hj => ?_⟩
            · simp only [List.take_succ_cons, if_pos h4, if_pos h5]; exact h
            · obtain rfl : j = 0 := by omega
              rfl
          · rw [if_neg h5] at h
            match t, h with
            | [], h => simp at h
            | y :: u, h =>
              obtain ⟨m, e1, e2, e3, e4, e5⟩ := fin_take (c := 2) hz h
              refine ⟨m + 2, by rw [e1]; push_cast; omega, by omega, by simp; omega, by omega, ?_, fun j hj => ?_⟩
              · simp only [List.take_succ_cons, if_pos h4, if_neg h5]; exact e4
              · match j, hj with
                | 0, _ => rfl
                | 1, _ => simp only [List.take_succ_cons, List.take_zero, if_pos h4, if_neg h5]
                | j + 2, hj => simp only [List.take_succ_cons, if_pos h4, if_neg h5]; exact e5 j (by omega)
        · rw [if_neg h4] at h
          obtain ⟨m, e1, e2, e3, e4, e5⟩ := fin_take (c := 1) hz h
          refine ⟨m + 1, by rw [e1]; push_cast; omega, by omega, by simp; omega, by omega, ?_, fun j hj => ?_⟩
          · simp only [List.take_succ_cons, if_neg h4]; exact e4
          · match j, hj with
            | 0, _ => rfl
            | j + 1, hj => simp only [List.take_succ_cons, if_neg h4]; exact e5 j (by omega)

end Go.Proofs.YtppkpfkoggnbmaaGreatDoor.Cs.Es
