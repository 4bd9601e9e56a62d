import Derived.Test.YteohkobdmkbcpaaGreatDoorGBit
import Derived.Test.YteohkobdmkbcpaaGreatDoorGTlb
import Derived.WalkKit
import Derived.Deep.Slices
import Derived.ChangeSame
import Derived.Lib.Bytealg
import Derived.Lib.Walk
import Derived.Laws.Strings3
import Derived.Handy
import Derived.Laws.StructEq
import Derived.Deep.RegionHeld3

/- Specifiers as numbers: what Decode of layer 11 answers. No program in sight. -/
namespace Go.Proofs.YteohkobdmkbcpaaGreatDoor.Bt.Es

/-- A specifier. -/
structure Sp where
  k : Int
  r : Int
  i : Int
  x : Int
  n : Int
abbrev Sp.val (s : Sp) : Value := .agg #[.int .i64 s.k, .int .i64 s.r, .int .i64 s.i, .int .u32 s.x, .int .i64 s.n]
abbrev Sp.cells (s : Sp) : List Value := [.int .i64 s.k, .int .i64 s.r, .int .i64 s.i, .int .u32 s.x, .int .i64 s.n]
def eqs (a b : Sp) : Bool := a.k == b.k && (a.r == b.r && (a.i == b.i && (a.x == b.x && a.n == b.n)))
theorem eqs_iff {a b : Sp} : eqs a b = true ↔ a = b := by
  obtain ⟨a1, a2, a3, a4, a5⟩ := a
  obtain ⟨b1, b2, b3, b4, b5⟩ := b
  simp [eqs]
/-- nothing at all -/
def zs : Sp := ⟨0, 0, 0, 0, 0⟩
/-- one that can't be -/
def bd (n : Int) : Sp := ⟨14, 0, -1, 0, n⟩

/-- Every number is a byte. -/
def Byt (l : List Int) : Prop := ∀ x ∈ l, 0 ≤ x ∧ x < 256
theorem Byt.drop {l : List Int} (h : Byt l) (n : Nat) : Byt (l.drop n) := fun x hx => h x (List.mem_of_mem_drop hx)
theorem Byt.take {l : List Int} (h : Byt l) (n : Nat) : Byt (l.take n) := fun x hx => h x (List.mem_of_mem_take hx)
theorem Byt.app {l k : List Int} (h : Byt l) (j : Byt k) : Byt (l ++ k) := fun x hx => by
  rcases List.mem_append.1 hx with hx | hx
  · exact h x hx
  · exact j x hx
theorem Byt.nil : Byt [] := fun x hx => by simp at hx
theorem Byt.cons {x : Int} {l : List Int} (h : 0 ≤ x ∧ x < 256) (j : Byt l) : Byt (x :: l) := fun y hy => by
  rcases List.mem_cons.1 hy with rfl | hy
  · exact h
  · exact j y hy
theorem Byt.hd {x : Int} {l : List Int} (h : Byt (x :: l)) : 0 ≤ x ∧ x < 256 := h x List.mem_cons_self
theorem Byt.tl {x : Int} {l : List Int} (h : Byt (x :: l)) : Byt l := fun y hy => h y (List.mem_cons_of_mem _ hy)
theorem Byt.at_ {xs : List Int} (h : Byt xs) (i : Nat) : 0 ≤ xs.getD i 0 ∧ xs.getD i 0 < 256 := by
  by_cases hi : i < xs.length
  · simp only [List.getD, List.getElem?_eq_getElem hi, Option.getD_some]
    exact h _ (List.getElem_mem hi)
  · simp [List.getD, List.getElem?_eq_none (by omega : xs.length ≤ i)]

/-- the number that bytes are, the lowest first -/
def num : List Int → Int
  | [] => 0
  | x :: l => x + 256 * num l
theorem num_snoc (l : List Int) (x : Int) : num (l ++ [x]) = num l + 256 ^ l.length * x := by
  induction l with
  | nil => simp [num]
  | cons y l ih =>
    simp only [List.cons_append, num, ih, List.length_cons, Int.pow_succ]
    rw [Int.mul_add, ← Int.mul_assoc, Int.mul_comm 256 (256 ^ l.length), Int.add_assoc]
theorem num_bound {l : List Int} (h : Byt l) : 0 ≤ num l ∧ num l < 256 ^ l.length := by
  induction l with
  | nil => simp [num]
  | cons y l ih =>
    have h1 := ih h.tl
    have h2 := h.hd
    simp only [num, List.length_cons, Int.pow_succ]
    omega
theorem num_drop (ys : List Int) (k : Nat) (h : k < ys.length) : num (ys.drop k) = ys.getD k 0 + 256 * num (ys.drop (k + 1)) := by
  rw [List.drop_eq_getElem_cons h, num]
  simp [List.getD, h]
theorem num_take (ys : List Int) (k : Nat) (h : k < ys.length) : num (ys.take (k + 1)) = num (ys.take k) + 256 ^ k * ys.getD k 0 := by
  rw [List.take_succ_eq_append_getElem h, num_snoc, List.length_take, Nat.min_eq_left (by omega)]
  simp [List.getD, h]
/-- with its sign, in 32 bits -/
def nb (l : List Int) : Int := ex (num l) l.length
theorem ex_U (x s : Int) : U (ex x s) := by unfold ex U; omega

/-- one of the operands that there are -/
def gd (a z : Int) : Bool := (z == 1 || (z == 2 || z == 4)) && (a == 114 || (a == 119 || (a == 109 || (a == 97 || (a == 118 || a == 98)))))
theorem gd_sz {a z : Int} (h : gd a z = true) : Sz z := by
  simp [gd] at h
  exact h.1
/-- what an operand's byte says -/
structure Hd where
  k : Int
  r : Int
  v : Int
  w : Nat
def hd (x z : Int) : Hd :=
  if x / 16 < 4 then ⟨0, 0, x % 64, 0⟩
  else if x / 16 = 4 then ⟨14, 0, 0, 0⟩
  else if x / 16 = 8 ∧ x % 16 = 15 then ⟨12, 0, 0, z.toNat⟩
  else if x / 16 = 9 ∧ x % 16 = 15 then ⟨13, 0, 0, 4⟩
  else if x / 16 < 10 then ⟨x / 16, x % 16, 0, 0⟩
  else ⟨10 + x / 16 % 2, x % 16, 0, if x / 16 < 12 then 1 else if x / 16 < 14 then 2 else 4⟩
/-- whether it can be -/
def cn (k r i a : Int) : Bool :=
  if k = 14 then false else if k = 0 ∨ k = 12 then a == 114 && i == -1
  else if k = 5 then a != 97 && (i == -1 && r != 15) else if k = 6 ∨ k = 7 then r != 15 else true
/-- an operand's byte and what is behind; c bytes up to it, with it -/
def fin (x : Int) (t : List Int) (a z i c : Int) : Sp × Int :=
  if cn (hd x z).k (hd x z).r i a = true then
    if t.length < (hd x z).w then (zs, 3)
    else (⟨(hd x z).k, (hd x z).r, i, if (hd x z).w = 0 then (hd x z).v else nb (t.take (hd x z).w), c + (hd x z).w⟩, 0)
  else (bd c, 0)
/-- what Decode answers -/
def dec (l : List Int) (a z : Int) : Sp × Int :=
  if gd a z = false then (zs, 1)
  else if a = 98 then (if l.length < z.toNat then (zs, 3) else (⟨12, 0, -1, nb (l.take z.toNat), z⟩, 0))
  else match l with
    | [] => (zs, 3)
    | x :: t => if x / 16 = 4 then (if x % 16 = 15 then (bd 1, 0) else match t with
        | [] => (zs, 3)
        | y :: u => fin y u a z (x % 16) 2)
      else fin x t a z (-1) 1

theorem hd_w {x z : Int} (hz : Sz z) : (hd x z).w ≤ 4 := by
  unfold hd
  rcases hz with rfl | rfl | rfl <;> (repeat' split) <;> simp <;> omega
theorem fin_app {x a z i c : Int} {t ys : List Int} {s : Sp} (h : fin x t a z i c = (s, 0)) : fin x (t ++ ys) a z i c = (s, 0) := by
  unfold fin at h ⊢
  split at h
  · rename_i h1
    rw [if_pos h1]
    split at h
    · simp at h
    · rename_i h2
      rw [if_neg (by simp; omega), ← h]
      rw [List.take_append_of_le_length (by omega)]
  · rename_i h1
    rw [if_neg h1]; exact h
theorem dec_app {l ys : List Int} {a z : Int} {s : Sp} (h : dec l a z = (s, 0)) : dec (l ++ ys) a z = (s, 0) := by
  unfold dec at h ⊢
  split at h
  · simp at h
  · rename_i h1
    rw [if_neg h1]
    split at h
    · rename_i h2
      rw [if_pos h2]
      split at h
      · simp at h
      · rename_i h3
        rw [if_neg (by simp; omega), ← h, List.take_append_of_le_length (by omega)]
    · rename_i h2
      rw [if_neg h2]
      match l, h with
      | [], h => simp at h
      | x :: t, h =>
        simp only [List.cons_append] at h ⊢
        by_cases h4 : x / 16 = 4
        · rw [if_pos h4] at h ⊢
          by_cases h5 : x % 16 = 15
          · rw [if_pos h5] at h ⊢; exact h
          · rw [if_neg h5] at h ⊢
            match t, h with
            | [], h => simp at h
            | y :: u, h => exact fin_app h
        · rw [if_neg h4] at h ⊢
          exact fin_app h
theorem fin_take {x a z i : Int} {c : Nat} {t : List Int} {s : Sp} (hz : Sz z) (h : fin x t a z i c = (s, 0)) :
    ∃ m : Nat, s.n = c + m ∧ m ≤ t.length ∧ m ≤ 4 ∧ fin x (t.take m) a z i c = (s, 0) ∧ ∀ j, j < m → fin x (t.take j) a z i c = (zs, 3) := by
  unfold fin at h ⊢
  by_cases h1 : cn (hd x z).k (hd x z).r i a = true
  · simp only [if_pos h1] at h ⊢
    by_cases h2 : t.length < (hd x z).w
    · rw [if_pos h2] at h; simp at h
    · rw [if_neg h2] at h
      refine ⟨(hd x z).w, ?_, by omega, hd_w hz, ?_, fun j hj => ?_⟩
      · rw [← (Prod.mk.inj h).1]
      · rw [if_neg (by simp; omega), List.take_take, Nat.min_self]; exact h
      · rw [if_pos (by simp; omega)]
  · simp only [if_neg h1] at h ⊢
    refine ⟨0, ?_, by omega, by omega, h, fun j hj => by omega⟩
    rw [← (Prod.mk.inj h).1]
    simp [bd]
theorem dec_take {l : List Int} {a z : Int} {s : Sp} (h : dec l a z = (s, 0)) :
    ∃ m : Nat, s.n = m ∧ 1 ≤ m ∧ m ≤ l.length ∧ m ≤ 6 ∧ dec (l.take m) a z = (s, 0) ∧ ∀ j, j < m → dec (l.take j) a z = (zs, 3) := by
  unfold dec at h ⊢
  by_cases h1 : gd a z = false
  · rw [if_pos h1] at h; simp at h
  · simp only [if_neg h1] at h ⊢
    have hz : Sz z := gd_sz (by simpa using h1)
    by_cases h2 : a = 98
    · simp only [if_pos h2] at h ⊢
      by_cases h3 : l.length < z.toNat
      · rw [if_pos h3] at h; simp at h
      · rw [if_neg h3] at h
        have hz1 : 1 ≤ z.toNat ∧ z.toNat ≤ 4 ∧ ((z.toNat : Nat) : Int) = z := by rcases hz with rfl | rfl | rfl <;> simp
        refine ⟨z.toNat, ?_, hz1.1, by omega, by omega, ?_, fun j hj => ?_⟩
        · rw [← (Prod.mk.inj h).1]; exact hz1.2.2.symm
        · rw [if_neg (by simp; omega), List.take_take, Nat.min_self]; exact h
        · rw [if_pos (by simp; omega)]
    · simp only [if_neg h2] at h ⊢
      match l, h with
      | [], h => simp at h
      | x :: t, h =>
        simp only at h
        by_cases h4 : x / 16 = 4
        · rw [if_pos h4] at h
          by_cases h5 : x % 16 = 15
          · rw [if_pos h5] at h
            refine ⟨1, by rw [← (Prod.mk.inj h).1]; rfl, by omega, by simp, by omega, ?_, fun j hj => ?_⟩
            · simp only [List.take_succ_cons, if_pos h4, if_pos h5]; exact h
            · obtain rfl : j = 0 := by omega
              rfl
          · rw [if_neg h5] at h
            match t, h with
            | [], h => simp at h
            | y :: u, h =>
              obtain ⟨m, e1, e2, e3, e4, e5⟩ := fin_take (c := 2) hz h
              refine ⟨m + 2, by rw [e1]; push_cast; omega, by omega, by simp; omega, by omega, ?_, fun j hj => ?_⟩
              · simp only [List.take_succ_cons, if_pos h4, if_neg h5]; exact e4
              · match j, hj with
                | 0, _ => rfl
                | 1, _ => simp only [List.take_succ_cons, List.take_zero, if_pos h4, if_neg h5]
                | j + 2, hj => simp only [List.take_succ_cons, if_pos h4, if_neg h5]; exact e5 j (by omega)
        · rw [if_neg h4] at h
          obtain ⟨m, e1, e2, e3, e4, e5⟩ := fin_take (c := 1) hz h
          refine ⟨m + 1, by rw [e1]; push_cast; omega, by omega, by simp; omega, by omega, ?_, fun j hj => ?_⟩
          · simp only [List.take_succ_cons, if_neg h4]; exact e4
          · match j, hj with
            | 0, _ => rfl
            | j + 1, hj => simp only [List.take_succ_cons, if_neg h4]; exact e5 j (by omega)

end Go.Proofs.YteohkobdmkbcpaaGreatDoor.Bt.Es

/- Slices of bytes, as they come in and as calls make them; append; parts of a slice; a specifier and an operand in a variable. No program is walked here. -/
namespace Go.Proofs.YteohkobdmkbcpaaGreatDoor.Bt.Es
open Go.RowKit Go.ChangeShapes Go.WideShapes Tl

/-- Bytes as cells. -/
def cel (xs : List Int) : List Value := xs.map fun x => .int .u8 x
theorem cel_length (xs : List Int) : (cel xs).length = xs.length := by simp [cel]
theorem cel_get (xs : List Int) (i : Nat) (h : i < xs.length) : (cel xs)[i]? = some (.int .u8 (xs.getD i 0)) := by
  simp [cel, List.getD, h]
theorem cel_one (xs : List Int) : ∀ v ∈ cel xs, v.oneCell' = true := by
  intro v hv
  simp only [cel, List.mem_map] at hv
  obtain ⟨x, _, rfl⟩ := hv
  rfl
theorem block_add (a : Addr) (n : Nat) : (a.add n).block = a.block := by unfold Addr.add; split <;> rfl
theorem Addr.add_lit' (b j : Nat) : (⟨b, 0, none⟩ : Addr).add j = ⟨b, j, none⟩ := by unfold Addr.add; split <;> simp_all

/-- A slice of bytes that is read. -/
structure By (w : World) (A : Option Addr) (n c : Nat) (ys : List Int) : Prop where
  len : ys.length = n
  byt : Byt ys
  src : 0 < ys.length → ∃ ad : Addr, A = some ad ∧ ad.block < w.heap.size ∧ ∀ j v, (cel ys)[j]? = some v → w.cell? (ad.add j) = some v
  cap : n ≤ c
  max : c ≤ 9223372036854775807
section
variable {w W : World} {A : Option Addr} {n c : Nat} {ys : List Int}
theorem By.below {B : Nat} (h : By w A n c ys) (hb : Below B w W) (hB : w.heap.size ≤ B) : By W A n c ys :=
  ⟨h.len, h.byt, fun h0 => by
    obtain ⟨ad, e, hlt, hc⟩ := h.src h0
    exact ⟨ad, e, Nat.lt_of_lt_of_le hlt hb.size, fun j v hv => (hb.cell (by rw [block_add]; omega)).trans (hc j v hv)⟩, h.cap, h.max⟩
theorem By.drew (h : By w A n c ys) : By w.drew A n c ys := h.below ((Below.refl _ _).drew) (Nat.le_refl _)
theorem By.at_ (h : By w A n c ys) {j : Nat} (hj : j < n) : ∃ ad : Addr, A = some ad ∧ w.cell? (ad.add j) = some (.int .u8 (ys.getD j 0)) := by
  obtain ⟨ad, e, _, hc⟩ := h.src (by rw [h.len]; omega)
  exact ⟨ad, e, hc j _ (cel_get _ _ (by rw [h.len]; omega))⟩
theorem By.some_ (h : By w A n c ys) (hn : 0 < n) : ∃ ad : Addr, A = some ad := by
  obtain ⟨ad, e, _⟩ := h.src (by rw [h.len]; omega)
  exact ⟨ad, e⟩
theorem By.take {k : Nat} (h : By w A n c ys) (hk : k ≤ n) : By w A k c (ys.take k) := by
  refine ⟨by rw [List.length_take, h.len]; omega, h.byt.take _, fun h0 => ?_, by have := h.cap; omega, h.max⟩
  obtain ⟨ad, e, hl, hc⟩ := h.src (by rw [List.length_take] at h0; omega)
  refine ⟨ad, e, hl, fun j v hv => hc j v ?_⟩
  rw [cel, List.map_take, List.getElem?_take] at hv
  split at hv
  · exact hv
  · cases hv
theorem By.drop {ad : Addr} {k : Nat} (h : By w (some ad) n c ys) (hk : k ≤ n) : By w (some (if c = k then ad else ad.add k)) (n - k) (c - k) (ys.drop k) := by
  have hl := h.len
  have h1 := h.cap
  have h2 := h.max
  split
  · rename_i e
    have e2 : ys.drop k = [] := List.drop_eq_nil_of_le (by omega)
    rw [e2]
    exact ⟨by simp; omega, Byt.nil, fun h0 => by simp at h0, by omega, by omega⟩
  · refine ⟨by rw [List.length_drop]; omega, h.byt.drop _, fun h0 => ?_, by omega, by omega⟩
    obtain ⟨ad', e, hl, hc⟩ := h.src (by rw [List.length_drop] at h0; omega)
    injection e with e
    subst e
    refine ⟨_, rfl, by rw [block_add]; exact hl, fun j v hv => ?_⟩
    rw [Deep.add_add]
    refine hc (k + j) v ?_
    rw [cel, List.map_drop, List.getElem?_drop] at hv
    exact hv
end

theorem under_slice : Tryz.prog.underlying 22 = some (.slice 5) := by kernel_rfl
theorem u8_info : (Tryz.prog.info? 5).map (fun i => (i.zero, i.size, i.bytes)) = some (some (.int .u8 0), 1, 1) := by kernel_rfl

/-- Parts of a slice. -/
theorem run_hi (ad : Addr) (n c k : Nat) (h : k ≤ c) (w : World) : (Instr.slice 22 (.slice (some ad) n c) none (some (.int .i64 k)) none).run Tryz.prog w = .ok (.slice (some ad) k c) w := by
  simp [Instr.slice, Instr.sliceBounds, Instr.sliceBound, asIntOf, run_underlying under_slice, go_sem]
  intro h'
  omega
theorem run_lo (ad : Addr) (n c k : Nat) (h : k ≤ n) (w : World) : (Instr.slice 22 (.slice (some ad) n c) (some (.int .i64 k)) none none).run Tryz.prog w = .ok (.slice (some (if c = k then ad else ad.add k)) (n - k) (c - k)) w := by
  simp [Instr.slice, Instr.sliceBounds, Instr.sliceBound, asIntOf, run_underlying under_slice, go_sem, h]
  split <;> rfl
theorem run_mid (ad : Addr) (n c k m : Nat) (h : k ≤ m) (h2 : m ≤ c) (w : World) : (Instr.slice 22 (.slice (some ad) n c) (some (.int .i64 k)) (some (.int .i64 m)) none).run Tryz.prog w = .ok (.slice (some (if c = k then ad else ad.add k)) (m - k) (c - k)) w := by
  simp [Instr.slice, Instr.sliceBounds, Instr.sliceBound, asIntOf, run_underlying under_slice, go_sem]
  by_cases h5 : c = k
  · subst h5
    simp [h, h2]
  · simp [h5, h2]
    intro h6
    omega

/-- A row of bytes of one's own. -/
def R8 (w : World) (v : Value) (ys : List Int) : Prop := w.ownsRow 0 5 1 v ys.length (cel ys)
theorem R8.nil (w : World) : R8 w (.slice none 0 0) [] := ⟨by simp [cel], .inl ⟨rfl, rfl⟩⟩
theorem R8.lit (w : World) (ys : List Int) (n : Nat) (hn : ys.length = n) (hm : n ≤ 1000) : R8 (w.alloc (.cells (cel ys).toArray 5)) (.slice (some ⟨w.heap.size, 0, none⟩) n n) ys := by
  subst hn
  have := World.ownsRow_lit (e := 5) (size := 1) (base := 0) w (cel ys).toArray ys.length (Nat.zero_le _) (by simp only [maxLen]; omega) (by simp [cel])
  exact this
theorem R8.shape {w : World} {v : Value} {l : List Int} (h : R8 w v l) : ∃ A c, v = .slice A l.length c := by
  rcases own_shape h with ⟨rfl, h0⟩ | ⟨r, cap, rfl, _⟩
  · exact ⟨none, 0, by rw [h0]⟩
  · exact ⟨_, cap, rfl⟩
theorem R8.by {w : World} {A : Option Addr} {n c : Nat} {ys : List Int} (h : R8 w (.slice A n c) ys) (hn : ys.length = n) (hb : Byt ys) : By w A n c ys := by
  rcases own_shape h with ⟨h1, h0⟩ | ⟨r, cap, e, hc, hm, hrl, hcs, _⟩
  · injection h1 with h1 h2 h3
    subst h1 h3
    exact ⟨hn, hb, fun hh => by omega, by omega, by omega⟩
  · injection e with e1 e2 e3
    subst e1 e3
    refine ⟨hn, hb, fun _ => ⟨_, rfl, hrl, fun j v hv => ?_⟩, by omega, hm⟩
    rw [Addr.add_lit']
    exact hcs j v hv

/-- append of bytes to a row of one's own. -/
theorem run_app8 (w : World) (v : Value) (ys zs : List Int) (A : Option Addr) (m c : Nat) (h : R8 w v ys) (hs : By w A m c zs) (hl : ys.length + m ≤ 1000000000) :
    ∃ A' c' w', (Builtin.append_ #[22, 22] 22 #[v, .slice A m c]).run Tryz.prog w = .ok (.slice A' (ys.length + m) c') w' ∧
      Hid (R8 w' (.slice A' (ys.length + m) c') (ys ++ zs) ∧ Step (Bl v) (Bl (.slice A' (ys.length + m) c')) w w') := by
  obtain ⟨i, hi, hz, hsz, hb⟩ := info_parts u8_info
  by_cases h0 : m = 0
  · subst h0
    obtain rfl : zs = [] := List.eq_nil_of_length_eq_zero hs.len
    have h' := h
    rcases own_shape h' with ⟨rfl, h1⟩ | ⟨r, cap, rfl, h2, h3, _⟩
    all_goals
      refine ⟨_, _, w, ?_, by rw [List.append_nil]; first | exact h | (rw [h1] at *; exact h), Step.of_below (Below.refl _ _)⟩
      cases A <;> simp [*, Builtin.append_, run_underlying under_slice, sizeOf, typeInfo, Builtin.lenOf, Builtin.firstCells, loadCells, loadCellsFrom, storeCells]
  · obtain ⟨ad, rfl, hlt, hc⟩ := hs.src (by rw [hs.len]; omega)
    obtain ⟨v', w', hrun, ho, hg, _, hat⟩ := run_append_own_at (P := Tryz.prog) w 0 22 22 5 i (.int .u8 0) 1 1 under_slice hi hz hsz hb rfl (by omega) v ys.length (cel ys) h ad m c (cel zs)
      (by rw [cel_length, hs.len]; omega) (fun j u hj => hc j u hj) (cel_one _) (by simp only [maxLen]; omega) (by omega) (by simp)
    have hR : R8 w' v' (ys ++ zs) := by
      show w'.ownsRow _ _ _ _ _ _
      have e : cel (ys ++ zs) = cel ys ++ cel zs := by simp [cel]
      rw [List.length_append, e, hs.len]; exact ho
    obtain ⟨A', c', rfl⟩ := hR.shape
    have e : (ys ++ zs).length = ys.length + m := by rw [List.length_append, hs.len]
    rw [e] at hrun hR hat
    refine ⟨A', c', w', hrun, hR, ?_, ?_⟩
    · exact Mods.of_grown hg (fun k e => e)
    · intro k hk
      rcases hat with e | e
      · exact .inl (by rw [Bl, ← e]; exact hk)
      · right
        rw [Bl, e] at hk
        injection hk with hk
        omega

/-- Block g is a variable of type T with these cells. -/
def Bk (w : World) (g T : Nat) (cs : List Value) : Prop := w.heap[g]? = some (.cells cs.toArray T (0, 0))
section
variable {w W : World} {g T : Nat} {cs : List Value}
theorem Bk.lt (h : Bk w g T cs) : g < w.heap.size := lt_of_heap h
theorem Bk.new (w : World) (T : Nat) (cs : List Value) : Bk (w.alloc (.cells cs.toArray T)) w.heap.size T cs := heap_alloc_new _ _
theorem Bk.below {B : Nat} (h : Bk w g T cs) (b : Below B w W) (hB : w.heap.size ≤ B) : Bk W g T cs := (b.block _ (by have := h.lt; omega)).trans h
theorem Bk.cell (h : Bk w g T cs) (i : Nat) (v : Value) (hv : cs[i]? = some v) : w.cell? ⟨g, i, none⟩ = some v := by
  rw [cell_of_row w g i _ _ _ h]; simpa using hv
theorem Bk.free (h : Bk w g T cs) (i : Nat) : w.frozen? ⟨g, i, none⟩ = false := frozen_of_row w g i _ _ h
theorem Bk.set (h : Bk w g T cs) (i : Nat) (v : Value) : Bk (w.setCell ⟨g, i, none⟩ v) g T (cs.set i v) := by
  show _ = _
  rw [heap_setCell_same w g i _ _ v h]
  simp
theorem Bk.far (h : Bk w g T cs) {p : Nat} (hp : g ≠ p) (i : Nat) (v : Value) : Bk (w.setCell ⟨p, i, none⟩ v) g T cs := by
  show _ = _
  rw [Below.heap_setCell _ _ _ _ hp]; exact h
end
theorem bcell {W w1 : World} (hb : Below W.heap.size W w1) : (∀ b o, b < W.heap.size → w1.cell? ⟨b, o, none⟩ = W.cell? ⟨b, o, none⟩) ∧ (∀ b o, b < W.heap.size → w1.frozen? ⟨b, o, none⟩ = W.frozen? ⟨b, o, none⟩) :=
  ⟨fun b o h => hb.cell (p := ⟨b, o, none⟩) h, fun b o h => hb.frozen (p := ⟨b, o, none⟩) h⟩
theorem al1 (w : World) (o : Obj) : Below w.heap.size w (w.alloc o) := (Below.refl _ _).alloc (Nat.le_refl _) _

end Go.Proofs.YteohkobdmkbcpaaGreatDoor.Bt.Es

/- Contracts of package spec's smaller functions. -/
namespace Go.Proofs.YteohkobdmkbcpaaGreatDoor.Bt.Es
open Go.RowKit Tl

/-- the accesses' letters -/
abbrev lts : ByteArray := ⟨#[114, 119, 109, 97, 118, 98]⟩
def ix (c : Int) : Int := Lib.indexByte lts.data.toList c.toNat.toUInt8
set_option maxHeartbeats 400000 in
set_option maxRecDepth 100000 in
theorem ixl_any (c : Int) (w : World) : Calls Tryz.prog 263 #[.string lts, .int .u8 c] w fun e w' => e = .returned (.int .i64 (ix c)) ∧ w = w' := by
  go_enter Tryz.func263, Tryz.ntmps263
  go_wp2
  rw [run_callFunc_extern Tryz.func268 (by kernel_rfl) (by kernel_rfl) (by kernel_rfl) (e := Extern.BytealgIndexByte.indexByte) (by kernel_rfl), Lib.run_indexByteString]
  simp only [Result.andThen]
  rw [Oper.upon_value]
  go_wp2
  go_ret
  exact ⟨rfl, rfl⟩
set_option maxHeartbeats 400000 in
set_option maxRecDepth 100000 in
theorem ixs_any (c : Int) (w : World) : Calls Tryz.prog 247 #[.string lts, .int .u8 c] w fun e w' => e = .returned (.int .i64 (ix c)) ∧ w = w' := by
  go_enter Tryz.func247, Tryz.ntmps247
  go_wp2_with (go_at_call 263; refine (ixl_any _ _).mono ?_; rintro e w' ⟨rfl, rfl⟩)
  go_ret
  exact ⟨rfl, rfl⟩
theorem ix_nat : ∀ k : Fin 256, decide (0 ≤ ix (k.val : Int)) = ((k.val : Int) == 114 || ((k.val : Int) == 119 || ((k.val : Int) == 109 || ((k.val : Int) == 97 || ((k.val : Int) == 118 || (k.val : Int) == 98))))) := by decide +kernel
theorem ix_gd {c : Int} (h : 0 ≤ c ∧ c < 256) : decide (0 ≤ ix c) = (c == 114 || (c == 119 || (c == 109 || (c == 97 || (c == 118 || c == 98))))) := by
  obtain ⟨k, rfl⟩ := Int.eq_ofNat_of_zero_le h.1
  exact ix_nat ⟨k, by omega⟩

set_option maxHeartbeats 400000 in
set_option maxRecDepth 100000 in
theorem is_any (a z : Int) (ha : 0 ≤ a ∧ a < 256) (w : World) :
    Calls Tryz.prog 207 #[.agg #[.int .u8 a, .int .i64 z]] w fun e w' => e = .returned (.bool (gd a z)) ∧ Below w.heap.size w w' := by
  have HI := Lib.hid (ix_gd ha)
  obtain ⟨a0, a1⟩ := ha
  have hc : z = 1 ∨ z = 2 ∨ z = 4 ∨ (z ≠ 1 ∧ z ≠ 2 ∧ z ≠ 4) := by omega
  rcases hc with rfl | rfl | rfl | ⟨h1, h2, h4⟩
  · have HE : Hid (gd a 1 = decide (0 ≤ ix a)) := by show gd a 1 = _; rw [HI.out]; simp [gd]
    go_enter Tryz.func207, Tryz.ntmps207
    go_wp2_with (go_at_call 247; refine (ixs_any _ _).mono ?_; rintro e w' ⟨rfl, rfl⟩)
    go_ret
    exact ⟨ret_bool HE.out.symm, al1 _ _⟩
  · have HE : Hid (gd a 2 = decide (0 ≤ ix a)) := by show gd a 2 = _; rw [HI.out]; simp [gd]
    go_enter Tryz.func207, Tryz.ntmps207
    go_wp2_with (go_at_call 247; refine (ixs_any _ _).mono ?_; rintro e w' ⟨rfl, rfl⟩)
    go_ret
    exact ⟨ret_bool HE.out.symm, al1 _ _⟩
  · have HE : Hid (gd a 4 = decide (0 ≤ ix a)) := by show gd a 4 = _; rw [HI.out]; simp [gd]
    go_enter Tryz.func207, Tryz.ntmps207
    go_wp2_with (go_at_call 247; refine (ixs_any _ _).mono ?_; rintro e w' ⟨rfl, rfl⟩)
    go_ret
    exact ⟨ret_bool HE.out.symm, al1 _ _⟩
  · have HE : Hid (gd a z = false) := by show gd a z = _; simp [gd, h1, h2, h4]
    have g1 : (z == 1) = false := by simpa using h1
    have g2 : (z == 2) = false := by simpa using h2
    have g4 : (z == 4) = false := by simpa using h4
    clear h1 h2 h4
    go_enter Tryz.func207, Tryz.ntmps207
    go_wp2
    go_ret
    exact ⟨ret_bool HE.out.symm, al1 _ _⟩

theorem and15 {x : Int} (h0 : 0 ≤ x) (h1 : x < 256) : bits .and .u8 x 15 = x % 16 := by
  have : ∀ k : Fin 256, bits .and .u8 (k.val : Int) 15 = (k.val : Int) % 16 := by decide +kernel
  obtain ⟨k, rfl⟩ := Int.eq_ofNat_of_zero_le h0
  exact this ⟨k, by omega⟩
theorem and63 {x : Int} (h0 : 0 ≤ x) (h1 : x < 256) : bits .and .u8 x 63 = x % 64 := by
  have : ∀ k : Fin 256, bits .and .u8 (k.val : Int) 63 = (k.val : Int) % 64 := by decide +kernel
  obtain ⟨k, rfl⟩ := Int.eq_ofNat_of_zero_le h0
  exact this ⟨k, by omega⟩

set_option maxHeartbeats 400000 in
set_option maxRecDepth 100000 in
theorem register_any (x : Int) (hx : 0 ≤ x ∧ x < 256) (w : World) :
    Calls Tryz.prog 209 #[.int .u8 x] w fun e w' => e = .returned (.int .i64 (x % 16)) ∧ w = w' := by
  have h := and15 hx.1 hx.2
  have h2 : 0 ≤ x % 16 := by omega
  have h3 : x % 16 < 16 := by omega
  generalize x % 16 = r at *
  go_enter Tryz.func209, Tryz.ntmps209
  go_wp2
  go_ret
  exact ⟨rfl, rfl⟩

set_option maxHeartbeats 400000 in
set_option maxRecDepth 100000 in
theorem bad_any (n : Int) (w : World) :
    Calls Tryz.prog 210 #[.int .i64 n] w fun e w' => e = .returned (bd n).val ∧ Below w.heap.size w w' := by
  go_enter Tryz.func210, Tryz.ntmps210
  go_wp2
  exact bodyPost_ret (v := (bd n).val) (by simp [results, Tryz.results210, go_sem, bd]) rfl ⟨rfl, by go_grown⟩

end Go.Proofs.YteohkobdmkbcpaaGreatDoor.Bt.Es

/- Contracts of package spec: head, can. -/
namespace Go.Proofs.YteohkobdmkbcpaaGreatDoor.Bt.Es
open Go.RowKit Tl

/-- what head answers -/
def Hd.sp (h : Hd) : Sp := ⟨h.k, h.r, 0, h.v, 0⟩

set_option maxHeartbeats 4000000 in
set_option maxRecDepth 100000 in
theorem head_any (x z : Int) (hx : 0 ≤ x ∧ x < 256) (hz : Sz z) (w : World) :
    Calls Tryz.prog 211 #[.int .u8 x, .int .i64 z] w fun e w' => e = .returned (.tuple #[(hd x z).sp.val, .int .i64 (hd x z).w]) ∧ Below w.heap.size w w' := by
  have K := fun w => Lib.hid (register_any x hx w)
  have h63 := Lib.hid (and63 hx.1 hx.2)
  have hzt : ((z.toNat : Nat) : Int) = z := by rcases hz with rfl | rfl | rfl <;> rfl
  have HZ := Lib.hid hzt
  clear hzt
  obtain ⟨x0, x1⟩ := hx
  obtain ⟨r, hr⟩ : ∃ r, x % 16 = r := ⟨_, rfl⟩
  have hr0 : 0 ≤ r := by omega
  have hr1 : r < 16 := by omega
  rw [hr] at K
  by_cases hlo : x / 16 < 4
  · have HE : Hid (hd x z = ⟨0, 0, x % 64, 0⟩) := by show hd x z = _; unfold hd; rw [if_pos hlo]
    have h6 := h63.out
    have h60 : 0 ≤ x % 64 := by omega
    have h61 : x % 64 < 64 := by omega
    generalize x % 64 = q at *
    clear h63 hr
    go_enter Tryz.func211, Tryz.ntmps211
    go_wp2_with (go_at_call 209; refine (K _).out.mono ?_; rintro e w' ⟨rfl, rfl⟩)
    refine bodyPost_ret (v := .tuple #[(Sp.mk 0 0 0 q 0).val, .int .i64 0]) (by simp [results, Tryz.results211, go_sem]) rfl ⟨by rw [HE.out]; rfl, by go_grown⟩
  · have hm : ∃ m, x / 16 = m := ⟨_, rfl⟩
    obtain ⟨m, hm⟩ := hm
    have hz0 : 0 ≤ z := by rcases hz with rfl | rfl | rfl <;> omega
    have h16 : m = 8 ∨ m = 9 ∨ m = 4 ∨ m = 5 ∨ m = 6 ∨ m = 7 ∨ m = 10 ∨ m = 11 ∨ m = 12 ∨ m = 13 ∨ m = 14 ∨ m = 15 := by omega
    obtain ⟨hh, hE⟩ : ∃ hh, hd x z = hh := ⟨_, rfl⟩
    rw [hE]
    unfold hd at hE
    rw [hr, hm] at hE
    have HE := Lib.hid hE
    clear hE hlo h63 hr
    by_cases h89 : m = 8 ∨ m = 9
    · clear h16
      by_cases h15 : r = 15
      · subst h15
        rcases h89 with rfl | rfl
        all_goals
          obtain rfl := HE.out
          clear HE
          go_enter Tryz.func211, Tryz.ntmps211
          go_wp2_with (first | (go_at_call 209; refine (K _).out.mono ?_; rintro e w' ⟨rfl, rfl⟩) | fail)
          refine bodyPost_ret (v := .tuple #[(Hd.sp _).val, .int .i64 _]) (by simp [results, Tryz.results211, go_sem]; first | rfl | (simp [Hd.sp]; done) | (simp [Hd.sp]; omega)) rfl ⟨rfl, by go_grown⟩
      · have g15 : (r == 15) = false := by simpa using h15
        rcases h89 with rfl | rfl
        all_goals
          rw [if_neg (by omega), if_neg (by omega), if_neg (by omega), if_neg (by omega), if_pos (by omega)] at HE
          obtain rfl := HE.out
          clear HE h15
          go_enter Tryz.func211, Tryz.ntmps211
          go_wp2_with (first | (go_at_call 209; refine (K _).out.mono ?_; rintro e w' ⟨rfl, rfl⟩) | fail)
          refine bodyPost_ret (v := .tuple #[(Hd.sp _).val, .int .i64 _]) (by simp [results, Tryz.results211, go_sem]; first | rfl | (simp [Hd.sp]; done)) rfl ⟨rfl, by go_grown⟩
    · rcases h16 with h | h | rfl | rfl | rfl | rfl | rfl | rfl | rfl | rfl | rfl | rfl
      · exact absurd (.inl h) h89
      · exact absurd (.inr h) h89
      all_goals
        obtain rfl := HE.out
        clear HE h89
        go_enter Tryz.func211, Tryz.ntmps211
        go_wp2_with (first | (go_at_call 209; refine (K _).out.mono ?_; rintro e w' ⟨rfl, rfl⟩) | fail)
        try (go_region; go_wp2)
        refine bodyPost_ret (v := .tuple #[(Hd.sp _).val, .int .i64 _]) (by simp [results, Tryz.results211, go_sem]; first | rfl | (simp [Hd.sp]; done)) rfl ⟨rfl, by go_grown⟩

/-- a specifier in memory whose answer is asked of -/
def Sp.can (s : Sp) (a : Int) : Bool := cn s.k s.r s.i a

set_option maxHeartbeats 4000000 in
set_option maxRecDepth 100000 in
theorem can_any (s : Sp) (a : Int) (w : World) :
    Calls Tryz.prog 212 #[s.val, .int .u8 a] w fun e w' => e = .returned (.bool (s.can a)) ∧ Below w.heap.size w w' := by
  obtain ⟨k, r, i, x, n⟩ := s
  have h16 : k = 14 ∨ k = 0 ∨ k = 12 ∨ k = 5 ∨ k = 6 ∨ k = 7 ∨ (k ≠ 14 ∧ k ≠ 0 ∧ k ≠ 12 ∧ k ≠ 5 ∧ k ≠ 6 ∧ k ≠ 7) := by omega
  obtain ⟨b, hE⟩ : ∃ b, Sp.can ⟨k, r, i, x, n⟩ a = b := ⟨_, rfl⟩
  rw [hE]
  rcases h16 with rfl | rfl | rfl | rfl | rfl | rfl | ⟨h1, h2, h3, h4, h5, h6⟩
  · obtain rfl : false = b := hE
    go_enter Tryz.func212, Tryz.ntmps212
    go_wp2
    go_ret
    exact ⟨rfl, al1 _ _⟩
  · have HE : Hid ((a == 114 && i == -1) = b) := hE
    clear hE
    by_cases ha : a = 114
    · subst ha
      go_enter Tryz.func212, Tryz.ntmps212
      go_wp2
      go_ret
      exact ⟨ret_bool (by rw [← HE.out]; rfl), al1 _ _⟩
    · have ga : (a == 114) = false := by simpa using ha
      clear ha
      go_enter Tryz.func212, Tryz.ntmps212
      go_wp2
      go_ret
      exact ⟨ret_bool (by rw [← HE.out, ga]; rfl), al1 _ _⟩
  · have HE : Hid ((a == 114 && i == -1) = b) := hE
    clear hE
    by_cases ha : a = 114
    · subst ha
      go_enter Tryz.func212, Tryz.ntmps212
      go_wp2
      go_ret
      exact ⟨ret_bool (by rw [← HE.out]; rfl), al1 _ _⟩
    · have ga : (a == 114) = false := by simpa using ha
      clear ha
      go_enter Tryz.func212, Tryz.ntmps212
      go_wp2
      go_ret
      exact ⟨ret_bool (by rw [← HE.out, ga]; rfl), al1 _ _⟩
  · have HE : Hid ((a != 97 && (i == -1 && r != 15)) = b) := hE
    clear hE
    by_cases ha : a = 97
    · subst ha
      go_enter Tryz.func212, Tryz.ntmps212
      go_wp2
      go_ret
      exact ⟨ret_bool (by rw [← HE.out]; rfl), al1 _ _⟩
    · have ga : (a != 97) = true := by simpa using ha
      clear ha
      by_cases hi : i = -1
      · subst hi
        go_enter Tryz.func212, Tryz.ntmps212
        go_wp2
        go_ret
        exact ⟨ret_bool (by rw [← HE.out, ga]; rfl), al1 _ _⟩
      · have gi : (i == -1) = false := by simpa using hi
        clear hi
        go_enter Tryz.func212, Tryz.ntmps212
        go_wp2
        go_ret
        exact ⟨ret_bool (by rw [← HE.out, ga, gi]; rfl), al1 _ _⟩
  · have HE : Hid ((r != 15) = b) := hE
    clear hE
    go_enter Tryz.func212, Tryz.ntmps212
    go_wp2
    go_ret
    exact ⟨ret_bool HE.out, al1 _ _⟩
  · have HE : Hid ((r != 15) = b) := hE
    clear hE
    go_enter Tryz.func212, Tryz.ntmps212
    go_wp2
    go_ret
    exact ⟨ret_bool HE.out, al1 _ _⟩
  · have g1 : (k == 14) = false := by simpa using h1
    have g2 : (k == 0) = false := by simpa using h2
    have g3 : (k == 12) = false := by simpa using h3
    have g4 : (k == 5) = false := by simpa using h4
    have g5 : (k == 6) = false := by simpa using h5
    have g6 : (k == 7) = false := by simpa using h6
    have HE : Hid (b = true) := by
      show b = true
      rw [← hE]
      simp [Sp.can, cn, h1, h2, h3, h4, h5, h6]
    clear hE h1 h2 h3 h4 h5 h6
    go_enter Tryz.func212, Tryz.ntmps212
    go_wp2
    go_ret
    exact ⟨ret_bool HE.out.symm, al1 _ _⟩

end Go.Proofs.YteohkobdmkbcpaaGreatDoor.Bt.Es

/- Contracts of package spec: number. -/
namespace Go.Proofs.YteohkobdmkbcpaaGreatDoor.Bt.Es
open Go.RowKit Tl

theorem or_next {x y : Int} (k : Nat) (hk : k < 4) (hx0 : 0 ≤ x) (hx : x < 256 ^ k) (hy0 : 0 ≤ y) (hy : y < 256) : bits .or .u32 x (256 ^ k * y) = x + 256 ^ k * y := by
  have h4 : k = 0 ∨ k = 1 ∨ k = 2 ∨ k = 3 := by omega
  have hU : U (256 ^ k * y) := by rcases h4 with rfl | rfl | rfl | rfl <;> exact ⟨by omega, by omega⟩
  have hX : U x := by rcases h4 with rfl | rfl | rfl | rfl <;> exact ⟨by omega, by omega⟩
  have hc : bits .or .u32 x (256 ^ k * y) = bits .or .u32 (256 ^ k * y) x := by
    rw [u32_or _ _ hX.1 hX.2 hU.1 hU.2, u32_or _ _ hU.1 hU.2 hX.1 hX.2, Nat.or_comm]
  rw [hc, or_join (8 * k) _ _ hU hx0 ?_ ?_ hX]
  · omega
  · rcases h4 with rfl | rfl | rfl | rfl <;> omega
  · rcases h4 with rfl | rfl | rfl | rfl <;> simpa using hx

set_option maxHeartbeats 1000000 in
set_option maxRecDepth 100000 in
theorem number_any (A : Option Addr) (n c : Nat) (ys : List Int) (w : World) (hz : Sz n) (h : By w A n c ys) :
    Calls Tryz.prog 248 #[.slice A n c] w fun e w' => e = .returned (.int .u32 (nb ys)) ∧ w = w' := by
  have HY := Lib.hid h
  have hn4 : n ≤ 4 := by rcases hz with h | h | h <;> omega
  have hx : U (num ys) := by
    have h1 := num_bound h.byt
    rw [h.len] at h1
    have h4 : n = 1 ∨ n = 2 ∨ n = 4 := by rcases hz with h | h | h <;> omega
    rcases h4 with rfl | rfl | rfl <;> exact ⟨by omega, by omega⟩
  have KX : Hid (∀ w, Calls Tryz.prog 164 #[.int .u32 (num ys), .int .i64 (n : Int)] w fun e w' => e = .returned (.int .u32 (nb ys)) ∧ w = w') := by
    show ∀ w, Calls _ _ _ _ _
    intro w
    have := extend_any (num ys) n hz hx w
    unfold nb
    rw [h.len]
    exact this
  generalize nb ys = q at *
  clear h hz
  go_enter Tryz.func248, Tryz.ntmps248
  go_wp2
  go_loop [3, 8] (fun x i => ∃ k : Nat, k ≤ n ∧ i = .int .i64 k ∧ x = .int .u32 (num (ys.take k))) (fun _ i => n - (intOf i).toNat)
  case atStart => exact ⟨0, Nat.zero_le _, rfl, rfl⟩
  case round =>
    obtain ⟨k, hk, rfl, rfl⟩ := hrel
    by_cases hlt : k < n
    · obtain ⟨ad, rfl, hcl⟩ := HY.out.at_ hlt
      obtain ⟨y0, y1⟩ := HY.out.byt.at_ k
      have hb := num_bound (HY.out.byt.take k)
      rw [List.length_take, HY.out.len, Nat.min_eq_left hk] at hb
      have HS := Lib.hid (num_take ys k (by rw [HY.out.len]; exact hlt))
      obtain ⟨b0, b1⟩ := hb
      have HO := Lib.hid (or_next k (by omega) b0 b1 y0 y1)
      have HB1 := Lib.hid b1
      clear b1
      generalize hv1 : num (ys.take (k + 1)) = v1 at HS
      have HV1 := Lib.hid hv1
      clear hv1
      generalize num (ys.take k) = v0 at *
      generalize ys.getD k 0 = y at *
      have h4 : k = 0 ∨ k = 1 ∨ k = 2 ∨ k = 3 := by omega
      rcases h4 with rfl | rfl | rfl | rfl
      all_goals
        simp only [Addr.add] at hcl
        simp at hcl
        go_wp2
        go_round
        case rel => exact ⟨_, hlt, rfl, congrArg (Value.int .u32) (by rw [HV1.out, HS.out, ← HO.out]; first | rfl | (congr 1; omega))⟩
        case measure => first | (simp [intOf]; done) | (simp [intOf]; omega)
    · obtain rfl : k = n := by omega
      rw [List.take_of_length_le (by rw [HY.out.len]; exact Nat.le_refl _)]
      go_wp2_with (go_at_call 164; refine (KX.out _).mono ?_; rintro e w' ⟨rfl, rfl⟩)
      go_ret
      exact ⟨rfl, rfl⟩

end Go.Proofs.YteohkobdmkbcpaaGreatDoor.Bt.Es

/- Contracts of package spec: behind. -/
namespace Go.Proofs.YteohkobdmkbcpaaGreatDoor.Bt.Es
open Go.RowKit Tl

theorem run_part (ad : Addr) (n c p m : Nat) (h : p + m ≤ n) (hc : n ≤ c) (w : World) : (Instr.slice 22 (.slice (some ad) n c) (some (.int .i64 p)) (some (.int .i64 ((p : Int) + (m : Int)))) none).run Tryz.prog w = .ok (.slice (some (if c = p then ad else ad.add p)) m (c - p)) w := by
  have := run_mid ad n c p (p + m) (by omega) (by omega) w
  rw [Nat.add_sub_cancel_left, Int.natCast_add] at this
  exact this

set_option maxHeartbeats 400000 in
set_option maxRecDepth 100000 in
theorem behind_long (A : Option Addr) (n c p m : Nat) (s : Sp) (w : World) (hn : n ≤ 1000000) (hp : p ≤ 2) (hm : m ≤ 4) (h : n < p + m) :
    Calls Tryz.prog 208 #[.slice A n c, .int .i64 p, s.val, .int .i64 m] w fun e w' => e = .returned (.tuple #[zs.val, .int .i64 3]) ∧ Below w.heap.size w w' := by
  obtain ⟨k, r, i, x, b⟩ := s
  have h1 : (n : Int) < (p : Int) + (m : Int) := by omega
  clear h
  go_enter Tryz.func208, Tryz.ntmps208
  go_wp2
  exact bodyPost_ret (v := .tuple #[zs.val, .int .i64 3]) (by simp [results, Tryz.results208, go_sem, zs]) rfl ⟨rfl, by go_grown⟩

set_option maxHeartbeats 400000 in
set_option maxRecDepth 100000 in
theorem behind_none (A : Option Addr) (n c p : Nat) (s : Sp) (w : World) (hp : p ≤ 2) (h : p ≤ n) :
    Calls Tryz.prog 208 #[.slice A n c, .int .i64 p, s.val, .int .i64 0] w fun e w' => e = .returned (.tuple #[(Sp.mk s.k s.r s.i s.x p).val, .int .i64 0]) ∧ Below w.heap.size w w' := by
  obtain ⟨k, r, i, x, b⟩ := s
  have h1 : ¬ (n : Int) < (p : Int) := by omega
  clear h
  go_enter Tryz.func208, Tryz.ntmps208
  go_wp2
  exact bodyPost_ret (v := .tuple #[(Sp.mk k r i x p).val, .int .i64 0]) (by simp [results, Tryz.results208, go_sem]) rfl ⟨rfl, by go_grown⟩

set_option maxHeartbeats 800000 in
set_option maxRecDepth 100000 in
theorem behind_some (A : Option Addr) (n c p m : Nat) (ys : List Int) (s : Sp) (w : World) (hy : By w A n c ys) (hn : n ≤ 1000000) (hp : p ≤ 2) (hm : Sz m) (h : p + m ≤ n) :
    Calls Tryz.prog 208 #[.slice A n c, .int .i64 p, s.val, .int .i64 m] w fun e w' => e = .returned (.tuple #[(Sp.mk s.k s.r s.i (nb ((ys.drop p).take m)) ((p : Int) + (m : Int))).val, .int .i64 0]) ∧ Below w.heap.size w w' := by
  obtain ⟨k, r, i, x, b⟩ := s
  have h1 : ¬ (n : Int) < (p : Int) + (m : Int) := by omega
  have hm1 : 1 ≤ m ∧ m ≤ 4 := by rcases hm with h | h | h <;> omega
  obtain ⟨ad, rfl⟩ := hy.some_ (by omega)
  have hR := run_part ad n c p m h hy.cap
  have hP : ∀ W, Below w.heap.size w W → By W (some (if c = p then ad else ad.add p)) m (c - p) ((ys.drop p).take m) := fun W hb =>
    ((hy.below hb (Nat.le_refl _)).drop (by omega)).take (by omega)
  have HP := Lib.hid hP
  have HM := Lib.hid hm
  generalize (ys.drop p).take m = zs at *
  generalize some (if c = p then ad else ad.add p) = A' at *
  obtain ⟨m0, m4⟩ := hm1
  have g0 : (0 : Int) < (m : Int) := by omega
  clear hP hy hm h
  go_enter Tryz.func208, Tryz.ntmps208
  go_wp2_with (go_at_call 248; refine (number_any _ _ _ zs _ HM.out (HP.out _ (by go_grown))).mono ?_; rintro e w' ⟨rfl, rfl⟩)
  generalize nb zs = q at *
  exact bodyPost_ret (v := .tuple #[(Sp.mk k r i q ((p : Int) + (m : Int))).val, .int .i64 0]) (by simp [results, Tryz.results208, go_sem]) rfl ⟨rfl, by go_grown⟩

end Go.Proofs.YteohkobdmkbcpaaGreatDoor.Bt.Es
