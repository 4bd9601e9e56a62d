import Derived.Test.YtppkpfkoggnbmaaGreatDoorIMem
import Derived.Lib.CutLaws
import Derived.Lib.SplitLaws
import Derived.Lib.Space
import Derived.Lib.ItoaNum
import Derived.Test.YtppkpfkoggnbmaaGreatDoorKShelf
import Derived.Test.YtppkpfkoggnbmaaGreatDoorEMem
import Derived.Test.YtppkpfkoggnbmaaGreatDoorEEnc
import Derived.Test.YtppkpfkoggnbmaaGreatDoorILit

/- Texts as lists of bytes: pieces, numbers, names, registers. No program in sight. -/
namespace Go.Proofs.YtppkpfkoggnbmaaGreatDoor.Cs.Ka
open Go.RowKit
open Ia (sb)
set_option linter.unusedVariables false

abbrev Tx := List UInt8
/-- what stands ahead of and behind the first sign of some kind; whether there is one -/
def cutc (c : UInt8) : Tx → Tx × Tx × Bool
  | [] => ([], [], false)
  | b :: l => if b = c then ([], l, true) else (b :: (cutc c l).1, (cutc c l).2.1, (cutc c l).2.2)
/-- the pieces between signs of some kind -/
def spl (c : UInt8) : Tx → List Tx
  | [] => [[]]
  | b :: l => if b = c then [] :: spl c l else ((b :: (spl c l).headD []) :: (spl c l).tail)
def pref (p l : Tx) : Tx × Bool := if p.isPrefixOf l = true then (l.drop p.length, true) else (l, false)
def suf (c : UInt8) (l : Tx) : Tx × Bool := if l.getLast? = some c then (l.dropLast, true) else (l, false)
/-- without white signs at both ends -/
abbrev trm (l : Tx) : Tx := Lib.trimSpace l

/-- a digit's worth -/
def dgv (h : Bool) (c : UInt8) : Int := if 48 ≤ c.toNat ∧ c.toNat ≤ 57 then (c.toNat : Int) - 48 else if h = true ∧ 97 ≤ c.toNat ∧ c.toNat ≤ 102 then (c.toNat : Int) - 87 else -1
def bs (h : Bool) : Int := if h = true then 16 else 10
def acc (h : Bool) (most : Int) : Int → Tx → Option Int
  | n, [] => some n
  | n, c :: l => if dgv h c < 0 then none else if most < n * bs h + dgv h c then none else acc h most (n * bs h + dgv h c) l
def mst (m : Bool) : Int := if m = true then 2147483648 else 4294967295
/-- the number behind its beginnings -/
def numh (m h : Bool) (l : Tx) : Int × Bool := match acc h (mst m) 0 l with
  | none => (0, false)
  | some n => (if m = true then (-n) % 4294967296 else n, !l.isEmpty)
/-- the number that a text is -/
def numb (l : Tx) : Int × Bool := numh (pref [45] l).2 (pref [48, 120] (pref [45] l).1).2 (pref [48, 120] (pref [45] l).1).1

def dig (c : UInt8) : Bool := decide (48 ≤ c.toNat) && decide (c.toNat ≤ 57)
def ltr (c : UInt8) : Bool := (decide (97 ≤ c.toNat) && decide (c.toNat ≤ 122)) || ((decide (65 ≤ c.toNat) && decide (c.toNat ≤ 90)) || c == 95)
def nmh (first : Bool) : Tx → Bool
  | [] => true
  | c :: l => (ltr c || (!first && dig c)) && nmh false l
/-- whether a text is a name -/
def isnm (l : Tx) : Bool := nmh true l && (!l.isEmpty && decide (l.length ≤ 24))

/-- a register's name by its number -/
def rnm (i : Nat) : Tx := 82 :: (if i < 10 then [UInt8.ofNat (48 + i)] else [49, UInt8.ofNat (48 + (i - 10))])
def rgf : Nat → Nat → Tx → Int × Bool
  | 0, _, _ => (0, false)
  | n + 1, i, l => if l = rnm i then ((i : Int), true) else rgf n (i + 1) l
/-- the register that a text names -/
def rgn (l : Tx) : Int × Bool := if l = [65, 80] then (12, true) else if l = [70, 80] then (13, true) else if l = [83, 80] then (14, true) else if l = [80, 67] then (15, true) else rgf 16 0 l

theorem index_one (c b : UInt8) (l : Tx) : Lib.index (b :: l) [c] = if b = c then 0 else if Lib.index l [c] = -1 then -1 else Lib.index l [c] + 1 := by
  rw [Lib.index]
  by_cases h : b = c
  · subst h; simp [List.isPrefixOf]
  · rw [if_neg (by simp [List.isPrefixOf, Ne.symm h]), if_neg h]
    simp only [beq_iff_eq]
theorem cut_cutc (c : UInt8) (l : Tx) : Lib.cut l [c] = cutc c l := by
  induction l with
  | nil => rfl
  | cons b l ih =>
    unfold Lib.cut
    rw [index_one]
    by_cases h : b = c
    · subst h
      simp [cutc]
    · have hg := Lib.index_ge l [c]
      unfold Lib.cut at ih
      rw [if_neg h]
      unfold cutc
      rw [if_neg h, ← ih]
      by_cases h1 : Lib.index l [c] = -1
      · rw [if_pos h1, if_neg (by omega), if_neg (by omega)]
      · rw [if_neg h1, if_pos (by omega), if_pos (by omega)]
        obtain ⟨k, hk⟩ : ∃ k : Nat, Lib.index l [c] = k := ⟨(Lib.index l [c]).toNat, by omega⟩
        rw [hk]
        have e : ((k : Int) + 1).toNat = k + 1 := by omega
        rw [e]
        simp
theorem splitK_one (c : UInt8) : ∀ (l : Tx), Lib.splitK [c] 0 (l.count c) l = spl c l
  | [] => rfl
  | b :: l => by
    have ih := splitK_one c l
    by_cases h : b = c
    · subst h
      rw [List.count_cons_self, Lib.splitK, index_one, if_pos rfl, if_neg (by decide)]
      simp [spl, ih]
    · rw [List.count_cons_of_ne (by simpa using h)]
      unfold spl
      rw [if_neg h, ← ih]
      have hg := Lib.index_ge l [c]
      cases hk : l.count c with
      | zero => simp [Lib.splitK]
      | succ k =>
        unfold Lib.splitK
        rw [index_one, if_neg h]
        by_cases h1 : Lib.index l [c] = -1
        · rw [if_pos h1]; simp [h1]
        · obtain ⟨j, hj⟩ : ∃ k : Nat, Lib.index l [c] = k := ⟨(Lib.index l [c]).toNat, by omega⟩
          rw [if_neg h1, hj]
          have e : ((j : Int) + 1).toNat = j + 1 := by omega
          rw [if_neg (by simp; omega), if_neg (by simp), e]
          simp
theorem split_spl (c : UInt8) (l : Tx) : Lib.split l [c] = spl c l := by
  unfold Lib.split; rw [Lib.count_one]; exact splitK_one c l
theorem suf_eq (c : UInt8) (l : Tx) : ([c] : Tx).isSuffixOf l = decide (l.getLast? = some c) := by
  rw [Bool.eq_iff_iff, List.isSuffixOf_iff_suffix, decide_eq_true_iff]
  constructor
  · rintro ⟨t, rfl⟩; simp
  · intro h
    refine ⟨l.dropLast, ?_⟩
    have hne : l ≠ [] := by rintro rfl; simp at h
    have := List.dropLast_concat_getLast hne
    rw [List.getLast?_eq_some_getLast hne] at h
    injection h with h
    rw [h] at this; exact this

theorem pref_lib (p l : Tx) : (Lib.trimPrefix l p, Lib.hasPrefix l p) = pref p l := by
  unfold pref Lib.trimPrefix Lib.hasPrefix
  cases h : p.isPrefixOf l <;> rfl
theorem suf_lib (c : UInt8) (l : Tx) : (Lib.trimSuffix l [c], Lib.hasSuffix l [c]) = suf c l := by
  unfold suf Lib.trimSuffix Lib.hasSuffix
  rw [suf_eq]
  by_cases h : l.getLast? = some c
  · simp [h, List.dropLast_eq_take]
  · simp [h]

end Go.Proofs.YtppkpfkoggnbmaaGreatDoor.Cs.Ka

/- Go's library at texts that are lists of bytes. -/
namespace Go.Proofs.YtppkpfkoggnbmaaGreatDoor.Cs.Ka
open Go.RowKit
open Ia (sb cst)
set_option linter.unusedVariables false

theorem drewN_bel (W : World) (n : Nat) : Below W.heap.size W (W.drewN n) := by
  induction n with
  | zero => exact Below.refl _ _
  | succ n ih => exact ih.drew
theorem grow_bel (w : World) (os : Array Obj) : Below w.heap.size w (Go.Sort.grow w os) :=
  ⟨rfl, rfl, rfl, by simp [Go.Sort.grow], fun j hj => by simp [Go.Sort.grow, Array.getElem?_append, hj]⟩

/-- All signs are below 128. -/
def Asc (l : Tx) : Prop := ∀ b ∈ l, b.toNat < 128
theorem Asc.at_ {l : Tx} (h : Asc l) (j : Nat) (b : UInt8) (hj : l[j]? = some b) : b.toNat < 128 := h b (List.mem_of_getElem? hj)

/-- The library's variables that the walks read. -/
structure Gt (w : World) : Prop where
  ml : ∃ m, w.cell? ⟨6, 0, none⟩ = some (.int .i64 m)
  sp : Lib.TabIs Tryz.prog w "strings.asciiSpace" .u8 Lib.asciiSpaceTab
  pw : Lib.TabIs Tryz.prog w "internal/strconv.uint64pow10" .u64 Lib.pow10Tab
theorem tab_below {w w' : World} {n : String} {k : IntKind} {zs : List Int} (h : Lib.TabIs Tryz.prog w n k zs) (b : Below w.heap.size w w') : Lib.TabIs Tryz.prog w' n k zs := by
  unfold Lib.TabIs World.var? at *
  cases hg : Tryz.prog.globalNamed n with
  | none => rw [hg] at h; cases h
  | some g =>
    rw [hg] at h
    simp only [Option.bind_some] at h ⊢
    cases hc : w.heap[g]? with
    | none => rw [hc] at h; cases h
    | some o => rw [b.block g (lt_of_heap hc), ← h]
theorem Gt.below {w w' : World} (h : Gt w) (b : Below w.heap.size w w') : Gt w' := by
  obtain ⟨m, hm⟩ := h.ml
  exact ⟨⟨m, (b.cell (p := ⟨6, 0, none⟩) (World.block_lt_of_cell? _ _ hm)).trans hm⟩, tab_below h.sp b, tab_below h.pw b⟩

theorem cutp_any (p l : Tx) (w : World) : Calls Tryz.prog 125 #[.string (sb l), .string (sb p)] w fun e w' => e = .returned (.tuple #[.string (sb (pref p l).1), .bool (pref p l).2]) ∧ w = w' :=
  (strings_CutPrefix (sb l) (sb p) w).mono fun e w' ⟨he, hw⟩ => ⟨by rw [he, ← pref_lib], hw.symm⟩
theorem cuts_any (c : UInt8) (l : Tx) (w : World) (hl : l.length ≤ 1000000) : Calls Tryz.prog 103 #[.string (sb l), .string (sb [c])] w fun e w' => e = .returned (.tuple #[.string (sb (suf c l).1), .bool (suf c l).2]) ∧ w = w' :=
  (strings_CutSuffix (sb l) (sb [c]) w (by rw [Ia.sb_size]; omega)).mono fun e w' ⟨he, hw⟩ => ⟨by rw [he, ← suf_lib], hw.symm⟩
theorem hasp_any (p l : Tx) (w : World) : Calls Tryz.prog 44 #[.string (sb l), .string (sb p)] w fun e w' => e = .returned (.bool (p.isPrefixOf l)) ∧ w = w' :=
  (strings_HasPrefix (sb l) (sb p) w).mono fun e w' ⟨he, hw⟩ => ⟨he, hw.symm⟩
theorem cut_any (c : UInt8) (l : Tx) (w : World) (hl : l.length ≤ 1000000) (hg : Gt w) : Calls Tryz.prog 41 #[.string (sb l), .string (sb [c])] w fun e w' => e = .returned (.tuple #[.string (sb (cutc c l).1), .string (sb (cutc c l).2.1), .bool (cutc c l).2.2]) ∧ Below w.heap.size w w' := by
  obtain ⟨m, hm⟩ := hg.ml
  exact (strings_Cut (sb l) (sb [c]) m w (by rw [Ia.sb_size]; omega) hm).mono fun e w' ⟨he, n, hw⟩ => ⟨by rw [he, ← cut_cutc], by rw [hw]; exact drewN_bel _ _⟩
theorem spl_length_count (c : UInt8) (l : Tx) : (spl c l).length = Lib.countB (sb l) (sb [c]) + 1 := by
  have h := Lib.splitB_all (sb [c]) (by rw [Ia.sb_size]; simp) 0 _ (sb l) rfl
  have h2 := congrArg List.length (Lib.splitB_data (sb [c]) 0 (Lib.countB (sb l) (sb [c])) (sb l))
  rw [List.length_map, h] at h2
  have h3 : Lib.splitK [c] 0 (Lib.countB (sb l) (sb [c])) l = spl c l := by
    rw [← split_spl]; unfold Lib.split
    have : Lib.countB (sb l) (sb [c]) = Lib.count l [c] := rfl
    rw [this]
  rw [← h3]
  exact h2.symm
theorem spl_split (c : UInt8) (l : Tx) : (Lib.splitB (sb [c]) 0 (Lib.countB (sb l) (sb [c])) (sb l)).map Value.string = cst (spl c l) := by
  have h2 := Lib.splitB_data (sb [c]) 0 (Lib.countB (sb l) (sb [c])) (sb l)
  have h3 : Lib.splitK [c] 0 (Lib.countB (sb l) (sb [c])) l = spl c l := by
    rw [← split_spl]; unfold Lib.split
    have : Lib.countB (sb l) (sb [c]) = Lib.count l [c] := rfl
    rw [this]
  have h4 : (Lib.splitB (sb [c]) 0 (Lib.countB (sb l) (sb [c])) (sb l)).map (·.data.toList) = spl c l := h2.trans h3
  rw [cst, ← h4, List.map_map]
  apply List.map_congr_left
  intro x _
  show Value.string x = Value.string (sb x.data.toList)
  rw [← Ia.sb_of]
/-- strings.Split: one new block, the pieces. -/
theorem split_any (c : UInt8) (l : Tx) (w : World) (hl : l.length ≤ 1000000) (hg : Gt w) : Calls Tryz.prog 20 #[.string (sb l), .string (sb [c])] w fun e w' =>
    e = .returned (.slice (some ⟨w.heap.size, 0, none⟩) (spl c l).length (spl c l).length) ∧ w' = w.alloc (.cells (cst (spl c l)).toArray 9) := by
  obtain ⟨m, hm⟩ := hg.ml
  refine (strings_Split (sb l) (sb [c]) m w (by rw [Ia.sb_size]; omega) hm (by rw [Ia.sb_size]; simp)).mono fun e w' ⟨he, hw⟩ => ⟨?_, ?_⟩
  · rw [he, spl_length_count]
  · rw [hw, spl_split]
theorem trim_any (l : Tx) (w : World) (hl : l.length ≤ 1000000) (ha : Asc l) (hg : Gt w) : Calls Tryz.prog 42 #[.string (sb l)] w fun e w' => e = .returned (.string (sb (trm l))) ∧ Below w.heap.size w w' := by
  refine (strings_TrimSpace (sb l) w (by rw [Ia.sb_size]; omega) (fun j b hj => ha.at_ j b hj) hg.sp).mono fun e w' ⟨he, hw⟩ => ⟨he, ?_⟩
  rw [hw]
  exact ⟨rfl, rfl, rfl, by rw [Lib.bytesWorld_size]; omega, fun j hj => Lib.bytesWorld_at_old w _ _ j hj⟩
theorem itoa_any (n : Int) (w : World) (h0 : -9223372036854775808 ≤ n) (h1 : n ≤ 9223372036854775807) (hg : Gt w) : Calls Tryz.prog 32 #[.int .i64 n] w fun e w' => e = .returned (.string (sb (Lib.itoa n))) ∧ Below w.heap.size w w' :=
  (strconv_Itoa n h0 h1 w hg.pw).mono fun e w' ⟨he, k, os, hw⟩ => ⟨he, by rw [hw]; exact bel2 (drewN_bel w k) (grow_bel _ _)⟩
theorem itoa_small (i : Nat) (hi : i < 100) (w : World) : Calls Tryz.prog 32 #[.int .i64 i] w fun e w' => e = .returned (.string (sb (Lib.decDigits i))) ∧ w = w' :=
  (strconv_Itoa_small i hi w).mono fun e w' ⟨he, hw⟩ => ⟨he, hw.symm⟩

/-- a digit's place among the digits is its worth -/
theorem dgv_all : ∀ n : Fin 256, Lib.indexByte [48, 49, 50, 51, 52, 53, 54, 55, 56, 57] (UInt8.ofNat n.val) = dgv false (UInt8.ofNat n.val) ∧ Lib.indexByte [48, 49, 50, 51, 52, 53, 54, 55, 56, 57, 97, 98, 99, 100, 101, 102] (UInt8.ofNat n.val) = dgv true (UInt8.ofNat n.val) := by decide +kernel
theorem u8_of (c : UInt8) : UInt8.ofNat c.toNat = c := by simp
theorem dgv_ix (h : Bool) (c : UInt8) : Lib.indexByte (if h = true then [48, 49, 50, 51, 52, 53, 54, 55, 56, 57, 97, 98, 99, 100, 101, 102] else [48, 49, 50, 51, 52, 53, 54, 55, 56, 57]) c = dgv h c := by
  have := dgv_all ⟨c.toNat, c.toNat_lt⟩
  simp only [u8_of] at this
  cases h
  · exact this.1
  · exact this.2
theorem ixb_any (h : Bool) (c : UInt8) (w : World) : Calls Tryz.prog 56 #[.string (sb (if h = true then [48, 49, 50, 51, 52, 53, 54, 55, 56, 57, 97, 98, 99, 100, 101, 102] else [48, 49, 50, 51, 52, 53, 54, 55, 56, 57])), .int .u8 c.toNat] w fun e w' => e = .returned (.int .i64 (dgv h c)) ∧ w = w' := by
  refine (strings_IndexByte _ _ w).mono fun e w' ⟨he, hw⟩ => ⟨?_, hw.symm⟩
  rw [he]
  have e : ((c.toNat : Int)).toNat.toUInt8 = c := by simp
  rw [e]
  exact congrArg (fun x => Ending.returned (.int .i64 x)) (dgv_ix h c)

end Go.Proofs.YtppkpfkoggnbmaaGreatDoor.Cs.Ka

/- Programs as lines: what the functions of package asm answer. No program in sight. -/
namespace Go.Proofs.YtppkpfkoggnbmaaGreatDoor.Cs.Ka
open Go.RowKit Es
open Ia (sb)
set_option linter.unusedVariables false

/-- an operand as it is written -/
structure Op where
  s : Sp
  l : Tx
abbrev Op.val (o : Op) : Value := .agg #[.int .i64 o.s.k, .int .i64 o.s.r, .int .i64 o.s.i, .int .u32 o.s.x, .int .i64 o.s.n, .string (sb o.l)]
abbrev Op.cells (o : Op) : List Value := [.int .i64 o.s.k, .int .i64 o.s.r, .int .i64 o.s.i, .int .u32 o.s.x, .int .i64 o.s.n, .string (sb o.l)]
def zo : Op := ⟨zs, []⟩
def vald (k : Int) (l : Tx) : Op × Bool := if (numb l).2 = true then (⟨⟨k, 0, -1, (numb l).1, 0⟩, []⟩, true) else if isnm l = true then (⟨⟨k, 0, -1, 0, 0⟩, l⟩, true) else (zo, false)
def imm (l : Tx) : Op × Bool := (⟨⟨if (vald 12 l).1.l = [] ∧ (vald 12 l).1.s.x < 64 then 0 else (vald 12 l).1.s.k, (vald 12 l).1.s.r, (vald 12 l).1.s.i, (vald 12 l).1.s.x, (vald 12 l).1.s.n⟩, (vald 12 l).1.l⟩, (vald 12 l).2)
/-- a register in brackets: at: an @ stood ahead; up: a + behind; ah: what stands ahead of the bracket -/
def adr (at_ up : Bool) (ah : Tx) (reg : Int) : Sp × Bool :=
  if up = true then (⟨if at_ = true then 9 else 8, reg, 0, 0, 0⟩, ah == [])
  else if ah = [] then (⟨6, reg, 0, 0, 0⟩, !at_)
  else if ah = [45] then (⟨7, reg, 0, 0, 0⟩, !at_)
  else (⟨if at_ = true then 11 else 10, reg, 0, (numb ah).1, 0⟩, (numb ah).2)
def adc (at_ up : Bool) (p : Tx × Tx × Bool) : Sp × Bool := if (suf 41 p.2.1).2 = true ∧ (rgn (suf 41 p.2.1).1).2 = true then adr at_ up p.1 (rgn (suf 41 p.2.1).1).1 else (zs, false)
def addr (l : Tx) : Sp × Bool := adc (pref [64] l).2 (suf 43 (pref [64] l).1).2 (cutc 40 (suf 43 (pref [64] l).1).1)
def plainF (l : Tx) : Op × Bool :=
  if (pref [64, 35] l).2 = true then vald 13 (pref [64, 35] l).1
  else if (pref [35] l).2 = true then imm (pref [35] l).1
  else if (rgn l).2 = true then (⟨⟨5, (rgn l).1, 0, 0, 0⟩, []⟩, true)
  else (⟨(addr l).1, []⟩, (addr l).2)
def wix (i : Int) (p : Op × Bool) : Op × Bool := (⟨⟨p.1.s.k, p.1.s.r, i, p.1.s.x, p.1.s.n⟩, p.1.l⟩, p.2)
/-- the operand that a text says -/
def readF (l : Tx) (a : Int) : Op × Bool :=
  if a = 98 then vald 12 l
  else if (suf 93 l).2 = true then
    (if (rgn (cutc 91 (suf 93 l).1).2.1).2 = true then wix (rgn (cutc 91 (suf 93 l).1).2.1).1 (plainF (cutc 91 (suf 93 l).1).1) else (zo, false))
  else wix (-1) (plainF l)

/-- an operand whose value is a label's place -/
structure Gp where
  line : Int
  at_ : Nat
  be : Nat
  o : Op
  a : Int
  z : Int
abbrev Gp.cells (g : Gp) : List Value := [.int .i64 g.line, .int .i64 (g.at_ : Nat), .int .i64 (g.be : Nat), .int .i64 g.o.s.k, .int .i64 g.o.s.r, .int .i64 g.o.s.i, .int .u32 g.o.s.x, .int .i64 g.o.s.n, .string (sb g.o.l), .int .u8 g.a, .int .i64 g.z]
abbrev Gp.val (g : Gp) : Value := .agg #[.int .i64 g.line, .int .i64 (g.at_ : Nat), .int .i64 (g.be : Nat), .int .i64 g.o.s.k, .int .i64 g.o.s.r, .int .i64 g.o.s.i, .int .u32 g.o.s.x, .int .i64 g.o.s.n, .string (sb g.o.l), .int .u8 g.a, .int .i64 g.z]
/-- what the lines so far have come to -/
structure St where
  code : List Int
  pl : List (Tx × Nat)
  gp : List Gp
/-- a label's place -/
def lk : List (Tx × Nat) → Tx → Option Nat
  | [], _ => none
  | p :: xs, l => if p.1 = l then some p.2 else lk xs l
def labF (s : St) (l : Tx) : Option St := if (rgn l).2 = true ∨ isnm l = false then none else if (lk s.pl l).isSome = true then none else some ⟨s.code, (l, s.code.length) :: s.pl, s.gp⟩
def numsF (k : Nat) : List Int → List Tx → Option (List Int)
  | c, [] => some c
  | c, t :: l => if (numb (trm t)).2 = true then numsF k (c ++ low (numb (trm t)).1 k) l else none
def spcF (c : List Int) (t : Tx) : Option (List Int) := if (numb (trm t)).2 = true ∧ (numb (trm t)).1 ≤ 4096 then some (c ++ List.replicate (numb (trm t)).1.toNat 0) else none
def wcode (s : St) : Option (List Int) → Option St
  | none => none
  | some c => some ⟨c, s.pl, s.gp⟩
def dsz : Tx → Nat := fun n => if n = [46, 98, 121, 116, 101] then 1 else if n = [46, 119, 111, 114, 100] then 2 else if n = [46, 108, 111, 110, 103] then 4 else 0
def dirF (s : St) (n rest : Tx) : Option St := if n = [46, 115, 112, 97, 99, 101] then wcode s (spcF s.code rest) else if dsz n = 0 then none else wcode s (numsF (dsz n) s.code (spl 44 rest))
def addF (s : St) (o : Op) (a z : Int) (line : Int) : Option St := match enc o.s a z with
  | none => none
  | some b => some ⟨s.code ++ b, s.pl, if o.l = [] then s.gp else s.gp ++ [⟨line, s.code.length, s.code.length + b.length, o, a, z⟩]⟩
def oneF (s : St) (t : Tx) (a z : Int) (line : Int) : Option St := if (readF (trm t) a).2 = true then addF s (readF (trm t) a).1 a z line else none
def opsF (line : Int) : St → List (Int × Int) → List Tx → Option St
  | s, q :: qs, t :: ts => match oneF s t q.1 q.2 line with
    | none => none
    | some s' => opsF line s' qs ts
  | s, _, _ => some s
def fnq (n : Tx) : Ia.Oq × Bool := Ia.fnd (Ia.docs.find? fun x => x.name == n)
def insF (s : St) (n : Tx) (ts : List Tx) (line : Int) : Option St :=
  if (fnq n).2 = true ∧ ts.length = (fnq n).1.ops.length then opsF line ⟨s.code ++ [(fnq n).1.code % 256], s.pl, s.gp⟩ (fnq n).1.ops ts else none
/-- a line without a label -/
def bodF (s : St) (t : Tx) (line : Int) : Option St :=
  if t = [] then some s
  else if ([46] : Tx).isPrefixOf (cutc 32 t).1 = true then dirF s (cutc 32 t).1 (cutc 32 t).2.1
  else insF s (cutc 32 t).1 (if (cutc 32 t).2.2 = true then spl 44 (cutc 32 t).2.1 else []) line
/-- a line behind its comment -/
def linF (s : St) (t : Tx) (line : Int) : Option St :=
  if (cutc 58 t).2.2 = true then (match labF s (cutc 58 t).1 with
    | none => none
    | some s' => bodF s' (trm (cutc 58 t).2.1) line)
  else bodF s t line
def takF (s : St) (t : Tx) (line : Int) : Option St := linF s (trm (cutc 59 t).1) line
/-- lines, one behind the other: what comes of them, or the first that can't be -/
def lnsF : St → Nat → List Tx → St × Nat
  | s, _, [] => (s, 0)
  | s, n, t :: ts => match takF s t (n + 1 : Nat) with
    | none => (s, n + 1)
    | some s' => if 65536 < s'.code.length then (s, n + 1) else lnsF s' (n + 1) ts
def filF (pl : List (Tx × Nat)) (c : List Int) (g : Gp) : Option (List Int) := match lk pl g.o.l with
  | none => none
  | some p => match enc ⟨g.o.s.k, g.o.s.r, g.o.s.i, (if g.a = 98 then (p : Int) - g.be else (p : Int)) % 4294967296, g.o.s.n⟩ g.a g.z with
    | none => none
    | some b => some (c.take g.at_ ++ b.take (g.be - g.at_) ++ c.drop (g.at_ + (b.take (g.be - g.at_)).length))
def gpsF (pl : List (Tx × Nat)) : List Int → List Gp → List Int × Int
  | c, [] => (c, 0)
  | c, g :: gs => match filF pl c g with
    | none => ([], g.line)
    | some c' => gpsF pl c' gs
def asmL (ls : List Tx) : List Int × Int := if (lnsF ⟨[], [], []⟩ 0 ls).2 = 0 then gpsF (lnsF ⟨[], [], []⟩ 0 ls).1.pl (lnsF ⟨[], [], []⟩ 0 ls).1.code (lnsF ⟨[], [], []⟩ 0 ls).1.gp else ([], ((lnsF ⟨[], [], []⟩ 0 ls).2 : Nat))
/-- what Assemble answers: bytes, a line, an error -/
def asmF (t : Tx) : List Int × Int × Int := if 65536 < t.length then ([], 0, 3) else ((asmL (spl 10 t)).1, (asmL (spl 10 t)).2, if (asmL (spl 10 t)).2 = 0 then 0 else 60)

end Go.Proofs.YtppkpfkoggnbmaaGreatDoor.Cs.Ka

/- Cells of a block; rows of operands. -/
namespace Go.Proofs.YtppkpfkoggnbmaaGreatDoor.Cs.Es
open Go.RowKit

/-- six cells of a block -/
theorem Bk.six {W : World} {g T : Nat} {a0 a1 a2 a3 a4 a5 : Value} (h : Es.Bk W g T [a0, a1, a2, a3, a4, a5]) :
    W.cell? ⟨g, 0, none⟩ = some a0 ∧ W.cell? ⟨g, 1, none⟩ = some a1 ∧ W.cell? ⟨g, 2, none⟩ = some a2 ∧ W.cell? ⟨g, 3, none⟩ = some a3 ∧ W.cell? ⟨g, 4, none⟩ = some a4 ∧ W.cell? ⟨g, 5, none⟩ = some a5 ∧ (∀ i, W.frozen? ⟨g, i, none⟩ = false) ∧ g < W.heap.size :=
  ⟨h.cell 0 _ rfl, h.cell 1 _ rfl, h.cell 2 _ rfl, h.cell 3 _ rfl, h.cell 4 _ rfl, h.cell 5 _ rfl, h.free, h.lt⟩
/-- five cells of a block -/
theorem Bk.five {W : World} {g T : Nat} {a0 a1 a2 a3 a4 : Value} (h : Es.Bk W g T [a0, a1, a2, a3, a4]) :
    W.cell? ⟨g, 0, none⟩ = some a0 ∧ W.cell? ⟨g, 1, none⟩ = some a1 ∧ W.cell? ⟨g, 2, none⟩ = some a2 ∧ W.cell? ⟨g, 3, none⟩ = some a3 ∧ W.cell? ⟨g, 4, none⟩ = some a4 ∧ (∀ i, W.frozen? ⟨g, i, none⟩ = false) ∧ g < W.heap.size :=
  ⟨h.cell 0 _ rfl, h.cell 1 _ rfl, h.cell 2 _ rfl, h.cell 3 _ rfl, h.cell 4 _ rfl, h.free, h.lt⟩

end Go.Proofs.YtppkpfkoggnbmaaGreatDoor.Cs.Es
namespace Go.Proofs.YtppkpfkoggnbmaaGreatDoor.Cs.Ia
open Go.RowKit

theorem drop_cons (xs : List (Int × Int)) (k : Nat) (h : k < xs.length) : xs.drop k = Ia.opn xs k :: xs.drop (k + 1) := by
  rw [List.drop_eq_getElem_cons h]; simp [Ia.opn, List.getD, h]
theorem opn_mem (xs : List (Int × Int)) (k : Nat) (h : k < xs.length) : Ia.opn xs k ∈ xs := by
  simp [Ia.opn, List.getD, h]

end Go.Proofs.YtppkpfkoggnbmaaGreatDoor.Cs.Ia
