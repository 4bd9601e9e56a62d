import Derived.Test.YtppkpfkoggnbmaaGreatDoorGKop
import Derived.Lib.ItoaLen
import Derived.Test.YtppkpfkoggnbmaaGreatDoorGKtx
import Derived.Test.YtppkpfkoggnbmaaGreatDoorEEnc4

/- Contracts of package asm: an operand as a text. -/
namespace Go.Proofs.YtppkpfkoggnbmaaGreatDoor.Cs.Ka
open Go.RowKit Es
open Ia (sb cst sb_size sb_get sb_append)
set_option linter.unusedVariables false
set_option linter.unusedSimpArgs false

/-- a number with its sign -/
def sgn (x : Int) : Int := if x < 2147483648 then x else x - 4294967296
def numt (x : Int) : Tx := Lib.itoa (sgn x)
def brk (r : Int) : Tx := 40 :: (rnm r.toNat ++ [41])
def kindt (s : Sp) : Tx :=
  if s.k = 0 ∨ s.k = 12 then 35 :: numt s.x
  else if s.k = 13 then 64 :: 35 :: numt s.x
  else if s.k = 5 then rnm s.r.toNat
  else if s.k = 6 then brk s.r
  else if s.k = 7 then 45 :: brk s.r
  else if s.k = 8 then brk s.r ++ [43]
  else if s.k = 9 then 64 :: (brk s.r ++ [43])
  else if s.k = 10 then numt s.x ++ brk s.r
  else if s.k = 11 then 64 :: (numt s.x ++ brk s.r)
  else []
/-- an operand as a text -/
def toldF (s : Sp) (a : Int) : Tx := if a = 98 then numt s.x else kindt s ++ (if s.i = -1 then [] else 91 :: (rnm s.i.toNat ++ [93]))
theorem rnm_len (i : Nat) : (rnm i).length ≤ 3 := by unfold rnm; split <;> simp
theorem numt_len (x : Int) (h : 0 ≤ x) (h1 : x < 4294967296) : (numt x).length ≤ 21 := Lib.itoa_length_le _ (by unfold sgn; split <;> omega) (by unfold sgn; split <;> omega)
theorem ret_str {a b : ByteArray} (h : a = b) : Ending.returned (.string a) = .returned (.string b) := by rw [h]

theorem bracketed_any (i : Nat) (hi : i < 16) (w : World) : Calls Tryz.prog 34 #[.int .i64 i] w fun e w' => e = .returned (.string (sb (40 :: (rnm i ++ [41])))) ∧ w = w' := by
  have HI := Lib.hid (fun W => named_any i hi W)
  have hz := rnm_len i
  generalize rnm i = r at *
  go_enter Tryz.func34, Tryz.ntmps34
  go_wp2_with (first | (go_at_call 33; refine (HI.out _).mono ?_; rintro e w' ⟨rfl, rfl⟩) | fail)
  go_ret
  exact ⟨ret_str (by show sb [40] ++ sb r ++ sb [41] = _; rw [sb_append [40] r, sb_append _ [41]]; rfl), rfl⟩

theorem wrap_sgn (x : Int) (h : 0 ≤ x) (h1 : x < 4294967296) : wrap64 (wrap32 x) = sgn x := by
  unfold wrap64 wrap32 sgn
  split <;> omega
theorem itoa_sgn (x : Int) (w : World) (h : 0 ≤ x) (h1 : x < 4294967296) (hg : Gt w) : Calls Tryz.prog 32 #[.int .i64 (wrap64 (wrap32 x))] w fun e w' => e = .returned (.string (sb (numt x))) ∧ Below w.heap.size w w' := by
  rw [wrap_sgn x h h1]
  exact itoa_any _ w (by unfold sgn; split <;> omega) (by unfold sgn; split <;> omega) hg
theorem glue (a b : Tx) : (⟨a.toArray⟩ : ByteArray) ++ ⟨b.toArray⟩ = ⟨(a ++ b).toArray⟩ := ByteArray.mk_append_mk a b
theorem glue_told_0 (r t : Tx) : sb [35] ++ sb t = sb (35 :: t) := by
  simp only [glue, List.append_assoc, List.cons_append, List.nil_append]
theorem glue_told_0i (r t q : Tx) : (sb [35] ++ sb t) ++ (sb [91] ++ sb q ++ sb [93]) = sb ((35 :: t) ++ (91 :: (q ++ [93]))) := by
  simp only [glue, List.append_assoc, List.cons_append, List.nil_append]
theorem glue_told_12 (r t : Tx) : sb [35] ++ sb t = sb (35 :: t) := by
  simp only [glue, List.append_assoc, List.cons_append, List.nil_append]
theorem glue_told_12i (r t q : Tx) : (sb [35] ++ sb t) ++ (sb [91] ++ sb q ++ sb [93]) = sb ((35 :: t) ++ (91 :: (q ++ [93]))) := by
  simp only [glue, List.append_assoc, List.cons_append, List.nil_append]
theorem glue_told_13 (r t : Tx) : sb [64, 35] ++ sb t = sb (64 :: 35 :: t) := by
  simp only [glue, List.append_assoc, List.cons_append, List.nil_append]
theorem glue_told_13i (r t q : Tx) : (sb [64, 35] ++ sb t) ++ (sb [91] ++ sb q ++ sb [93]) = sb ((64 :: 35 :: t) ++ (91 :: (q ++ [93]))) := by
  simp only [glue, List.append_assoc, List.cons_append, List.nil_append]
theorem glue_told_5 (r t : Tx) : sb r = sb (r) := by
  simp only [glue, List.append_assoc, List.cons_append, List.nil_append]
theorem glue_told_5i (r t q : Tx) : (sb r) ++ (sb [91] ++ sb q ++ sb [93]) = sb ((r) ++ (91 :: (q ++ [93]))) := by
  simp only [glue, List.append_assoc, List.cons_append, List.nil_append]
theorem glue_told_6 (r t : Tx) : sb (40 :: (r ++ [41])) = sb ((40 :: (r ++ [41]))) := by
  simp only [glue, List.append_assoc, List.cons_append, List.nil_append]
theorem glue_told_6i (r t q : Tx) : (sb (40 :: (r ++ [41]))) ++ (sb [91] ++ sb q ++ sb [93]) = sb (((40 :: (r ++ [41]))) ++ (91 :: (q ++ [93]))) := by
  simp only [glue, List.append_assoc, List.cons_append, List.nil_append]
theorem glue_told_7 (r t : Tx) : sb [45] ++ sb (40 :: (r ++ [41])) = sb (45 :: (40 :: (r ++ [41]))) := by
  simp only [glue, List.append_assoc, List.cons_append, List.nil_append]
theorem glue_told_7i (r t q : Tx) : (sb [45] ++ sb (40 :: (r ++ [41]))) ++ (sb [91] ++ sb q ++ sb [93]) = sb ((45 :: (40 :: (r ++ [41]))) ++ (91 :: (q ++ [93]))) := by
  simp only [glue, List.append_assoc, List.cons_append, List.nil_append]
theorem glue_told_8 (r t : Tx) : sb (40 :: (r ++ [41])) ++ sb [43] = sb ((40 :: (r ++ [41])) ++ [43]) := by
  simp only [glue, List.append_assoc, List.cons_append, List.nil_append]
theorem glue_told_8i (r t q : Tx) : (sb (40 :: (r ++ [41])) ++ sb [43]) ++ (sb [91] ++ sb q ++ sb [93]) = sb (((40 :: (r ++ [41])) ++ [43]) ++ (91 :: (q ++ [93]))) := by
  simp only [glue, List.append_assoc, List.cons_append, List.nil_append]
theorem glue_told_9 (r t : Tx) : sb [64] ++ sb (40 :: (r ++ [41])) ++ sb [43] = sb (64 :: ((40 :: (r ++ [41])) ++ [43])) := by
  simp only [glue, List.append_assoc, List.cons_append, List.nil_append]
theorem glue_told_9i (r t q : Tx) : (sb [64] ++ sb (40 :: (r ++ [41])) ++ sb [43]) ++ (sb [91] ++ sb q ++ sb [93]) = sb ((64 :: ((40 :: (r ++ [41])) ++ [43])) ++ (91 :: (q ++ [93]))) := by
  simp only [glue, List.append_assoc, List.cons_append, List.nil_append]
theorem glue_told_10 (r t : Tx) : sb t ++ sb (40 :: (r ++ [41])) = sb (t ++ (40 :: (r ++ [41]))) := by
  simp only [glue, List.append_assoc, List.cons_append, List.nil_append]
theorem glue_told_10i (r t q : Tx) : (sb t ++ sb (40 :: (r ++ [41]))) ++ (sb [91] ++ sb q ++ sb [93]) = sb ((t ++ (40 :: (r ++ [41]))) ++ (91 :: (q ++ [93]))) := by
  simp only [glue, List.append_assoc, List.cons_append, List.nil_append]
theorem glue_told_11 (r t : Tx) : sb [64] ++ sb t ++ sb (40 :: (r ++ [41])) = sb (64 :: (t ++ (40 :: (r ++ [41])))) := by
  simp only [glue, List.append_assoc, List.cons_append, List.nil_append]
theorem glue_told_11i (r t q : Tx) : (sb [64] ++ sb t ++ sb (40 :: (r ++ [41]))) ++ (sb [91] ++ sb q ++ sb [93]) = sb ((64 :: (t ++ (40 :: (r ++ [41])))) ++ (91 :: (q ++ [93]))) := by
  simp only [glue, List.append_assoc, List.cons_append, List.nil_append]

end Go.Proofs.YtppkpfkoggnbmaaGreatDoor.Cs.Ka

/- Contracts of package asm: an operand as a text, kind by kind. -/
namespace Go.Proofs.YtppkpfkoggnbmaaGreatDoor.Cs.Ka
open Go.RowKit Es
open Ia (sb cst sb_size sb_get sb_append)
set_option linter.unusedVariables false
set_option linter.unusedSimpArgs false

set_option maxHeartbeats 6400000 in
set_option maxRecDepth 100000 in
theorem told_0 (g : Nat) (x n a : Int) (w : World) (hr : g < 16) (hx0 : 0 ≤ x) (hx1 : x < 4294967296) (b98 : (a == 98) = false) (hg : Gt w) :
    Calls Tryz.prog 16 #[(⟨0, g, -1, x, n⟩ : Sp).val, .int .u8 a] w fun e w' => e = .returned (.string (sb (toldF ⟨0, g, -1, x, n⟩ a))) ∧ Below w.heap.size w w' := by
  have HI := Lib.hid (fun W h => itoa_sgn x W hx0 hx1 h)
  have ht := numt_len x hx0 hx1
  have HB := Lib.hid (fun W => bracketed_any g hr W)
  have HNr := Lib.hid (fun W => named_any g hr W)
  have hr' := rnm_len g
  have HR : Hid (toldF ⟨0, g, -1, x, n⟩ a = toldF ⟨0, g, -1, x, n⟩ 0) := by
    show _ = _
    have h98 : a ≠ 98 := by simpa using b98
    simp [toldF, h98]
  have HV : Hid (toldF ⟨0, g, -1, x, n⟩ 0 = 35 :: numt x) := by
    show _ = _
    unfold toldF kindt brk
    simp
  have HW : Hid (Rz 47 [.int .i64 0, .int .i64 g, .int .i64 (-1), .int .u32 x, .int .i64 n] w (w.alloc (.cells #[.int .i64 0, .int .i64 g, .int .i64 (-1), .int .u32 x, .int .i64 n] 47))) := ⟨Es.Bk.new _ _ _, Es.al1 _ _⟩
  have HG := Lib.hid (hg.below HW.out.bel)
  clear hg
  generalize rnm g = r at *
  generalize numt x = t at *
  go_enter Tryz.func16, Tryz.ntmps16
  go_wp2_with (first
  | (go_at_call 32; refine (HI.out _ HG.out).mono ?_; rintro e w1 ⟨rfl, hb⟩; have HF := Lib.hid (HW.out.below hb); clear hb; obtain ⟨y0, y1, y2, y3, y4, yf, yl⟩ := HF.out.res.five)
  | (go_at_call 34; refine (HB.out _).mono ?_; rintro e w' ⟨rfl, rfl⟩)
  | ((go_at_call 33; with_reducible refine (HNr.out _).mono ?_); rintro e w' ⟨rfl, rfl⟩)
  | fail)
  go_ret
  refine ⟨ret_str ?_, HF.out.bel⟩
  rw [HR.out, HV.out]
  exact glue_told_0 r t

set_option maxHeartbeats 6400000 in
set_option maxRecDepth 100000 in
theorem told_0i (g i : Nat) (x n a : Int) (w : World) (hr : g < 16) (hi : i < 16) (hx0 : 0 ≤ x) (hx1 : x < 4294967296) (b98 : (a == 98) = false) (hg : Gt w) :
    Calls Tryz.prog 16 #[(⟨0, g, i, x, n⟩ : Sp).val, .int .u8 a] w fun e w' => e = .returned (.string (sb (toldF ⟨0, g, i, x, n⟩ a))) ∧ Below w.heap.size w w' := by
  have HI := Lib.hid (fun W h => itoa_sgn x W hx0 hx1 h)
  have ht := numt_len x hx0 hx1
  have HB := Lib.hid (fun W => bracketed_any g hr W)
  have HNr := Lib.hid (fun W => named_any g hr W)
  have hr' := rnm_len g
  have HNi := Lib.hid (fun W => named_any i hi W)
  have hi' := rnm_len i
  have HR : Hid (toldF ⟨0, g, i, x, n⟩ a = toldF ⟨0, g, i, x, n⟩ 0) := by
    show _ = _
    have h98 : a ≠ 98 := by simpa using b98
    simp [toldF, h98]
  have HV : Hid (toldF ⟨0, g, i, x, n⟩ 0 = (35 :: numt x) ++ (91 :: (rnm i ++ [93]))) := by
    show _ = _
    unfold toldF kindt brk
    simp [show ¬ ((i : Int) = -1) from by omega]
  have HW : Hid (Rz 47 [.int .i64 0, .int .i64 g, .int .i64 (i), .int .u32 x, .int .i64 n] w (w.alloc (.cells #[.int .i64 0, .int .i64 g, .int .i64 (i), .int .u32 x, .int .i64 n] 47))) := ⟨Es.Bk.new _ _ _, Es.al1 _ _⟩
  have HG := Lib.hid (hg.below HW.out.bel)
  clear hg
  generalize rnm g = r at *
  have ni : ((i : Int) == -1) = false := by apply beq_false_of_ne; omega
  generalize rnm i = q at *
  generalize numt x = t at *
  go_enter Tryz.func16, Tryz.ntmps16
  go_wp2_with (first
  | (go_at_call 32; refine (HI.out _ HG.out).mono ?_; rintro e w1 ⟨rfl, hb⟩; have HF := Lib.hid (HW.out.below hb); clear hb; obtain ⟨y0, y1, y2, y3, y4, yf, yl⟩ := HF.out.res.five)
  | (go_at_call 34; refine (HB.out _).mono ?_; rintro e w' ⟨rfl, rfl⟩)
  | ((go_at_call 33; with_reducible refine (HNr.out _).mono ?_); rintro e w' ⟨rfl, rfl⟩)
  | ((go_at_call 33; with_reducible refine (HNi.out _).mono ?_); rintro e w' ⟨rfl, rfl⟩)
  | fail)
  go_ret
  refine ⟨ret_str ?_, HF.out.bel⟩
  rw [HR.out, HV.out]
  exact glue_told_0i r t q

set_option maxHeartbeats 6400000 in
set_option maxRecDepth 100000 in
theorem told_12 (g : Nat) (x n a : Int) (w : World) (hr : g < 16) (hx0 : 0 ≤ x) (hx1 : x < 4294967296) (b98 : (a == 98) = false) (hg : Gt w) :
    Calls Tryz.prog 16 #[(⟨12, g, -1, x, n⟩ : Sp).val, .int .u8 a] w fun e w' => e = .returned (.string (sb (toldF ⟨12, g, -1, x, n⟩ a))) ∧ Below w.heap.size w w' := by
  have HI := Lib.hid (fun W h => itoa_sgn x W hx0 hx1 h)
  have ht := numt_len x hx0 hx1
  have HB := Lib.hid (fun W => bracketed_any g hr W)
  have HNr := Lib.hid (fun W => named_any g hr W)
  have hr' := rnm_len g
  have HR : Hid (toldF ⟨12, g, -1, x, n⟩ a = toldF ⟨12, g, -1, x, n⟩ 0) := by
    show _ = _
    have h98 : a ≠ 98 := by simpa using b98
    simp [toldF, h98]
  have HV : Hid (toldF ⟨12, g, -1, x, n⟩ 0 = 35 :: numt x) := by
    show _ = _
    unfold toldF kindt brk
    simp
  have HW : Hid (Rz 47 [.int .i64 12, .int .i64 g, .int .i64 (-1), .int .u32 x, .int .i64 n] w (w.alloc (.cells #[.int .i64 12, .int .i64 g, .int .i64 (-1), .int .u32 x, .int .i64 n] 47))) := ⟨Es.Bk.new _ _ _, Es.al1 _ _⟩
  have HG := Lib.hid (hg.below HW.out.bel)
  clear hg
  generalize rnm g = r at *
  generalize numt x = t at *
  go_enter Tryz.func16, Tryz.ntmps16
  go_wp2_with (first
  | (go_at_call 32; refine (HI.out _ HG.out).mono ?_; rintro e w1 ⟨rfl, hb⟩; have HF := Lib.hid (HW.out.below hb); clear hb; obtain ⟨y0, y1, y2, y3, y4, yf, yl⟩ := HF.out.res.five)
  | (go_at_call 34; refine (HB.out _).mono ?_; rintro e w' ⟨rfl, rfl⟩)
  | ((go_at_call 33; with_reducible refine (HNr.out _).mono ?_); rintro e w' ⟨rfl, rfl⟩)
  | fail)
  go_ret
  refine ⟨ret_str ?_, HF.out.bel⟩
  rw [HR.out, HV.out]
  exact glue_told_12 r t

set_option maxHeartbeats 6400000 in
set_option maxRecDepth 100000 in
theorem told_12i (g i : Nat) (x n a : Int) (w : World) (hr : g < 16) (hi : i < 16) (hx0 : 0 ≤ x) (hx1 : x < 4294967296) (b98 : (a == 98) = false) (hg : Gt w) :
    Calls Tryz.prog 16 #[(⟨12, g, i, x, n⟩ : Sp).val, .int .u8 a] w fun e w' => e = .returned (.string (sb (toldF ⟨12, g, i, x, n⟩ a))) ∧ Below w.heap.size w w' := by
  have HI := Lib.hid (fun W h => itoa_sgn x W hx0 hx1 h)
  have ht := numt_len x hx0 hx1
  have HB := Lib.hid (fun W => bracketed_any g hr W)
  have HNr := Lib.hid (fun W => named_any g hr W)
  have hr' := rnm_len g
  have HNi := Lib.hid (fun W => named_any i hi W)
  have hi' := rnm_len i
  have HR : Hid (toldF ⟨12, g, i, x, n⟩ a = toldF ⟨12, g, i, x, n⟩ 0) := by
    show _ = _
    have h98 : a ≠ 98 := by simpa using b98
    simp [toldF, h98]
  have HV : Hid (toldF ⟨12, g, i, x, n⟩ 0 = (35 :: numt x) ++ (91 :: (rnm i ++ [93]))) := by
    show _ = _
    unfold toldF kindt brk
    simp [show ¬ ((i : Int) = -1) from by omega]
  have HW : Hid (Rz 47 [.int .i64 12, .int .i64 g, .int .i64 (i), .int .u32 x, .int .i64 n] w (w.alloc (.cells #[.int .i64 12, .int .i64 g, .int .i64 (i), .int .u32 x, .int .i64 n] 47))) := ⟨Es.Bk.new _ _ _, Es.al1 _ _⟩
  have HG := Lib.hid (hg.below HW.out.bel)
  clear hg
  generalize rnm g = r at *
  have ni : ((i : Int) == -1) = false := by apply beq_false_of_ne; omega
  generalize rnm i = q at *
  generalize numt x = t at *
  go_enter Tryz.func16, Tryz.ntmps16
  go_wp2_with (first
  | (go_at_call 32; refine (HI.out _ HG.out).mono ?_; rintro e w1 ⟨rfl, hb⟩; have HF := Lib.hid (HW.out.below hb); clear hb; obtain ⟨y0, y1, y2, y3, y4, yf, yl⟩ := HF.out.res.five)
  | (go_at_call 34; refine (HB.out _).mono ?_; rintro e w' ⟨rfl, rfl⟩)
  | ((go_at_call 33; with_reducible refine (HNr.out _).mono ?_); rintro e w' ⟨rfl, rfl⟩)
  | ((go_at_call 33; with_reducible refine (HNi.out _).mono ?_); rintro e w' ⟨rfl, rfl⟩)
  | fail)
  go_ret
  refine ⟨ret_str ?_, HF.out.bel⟩
  rw [HR.out, HV.out]
  exact glue_told_12i r t q

set_option maxHeartbeats 6400000 in
set_option maxRecDepth 100000 in
theorem told_13 (g : Nat) (x n a : Int) (w : World) (hr : g < 16) (hx0 : 0 ≤ x) (hx1 : x < 4294967296) (b98 : (a == 98) = false) (hg : Gt w) :
    Calls Tryz.prog 16 #[(⟨13, g, -1, x, n⟩ : Sp).val, .int .u8 a] w fun e w' => e = .returned (.string (sb (toldF ⟨13, g, -1, x, n⟩ a))) ∧ Below w.heap.size w w' := by
  have HI := Lib.hid (fun W h => itoa_sgn x W hx0 hx1 h)
  have ht := numt_len x hx0 hx1
  have HB := Lib.hid (fun W => bracketed_any g hr W)
  have HNr := Lib.hid (fun W => named_any g hr W)
  have hr' := rnm_len g
  have HR : Hid (toldF ⟨13, g, -1, x, n⟩ a = toldF ⟨13, g, -1, x, n⟩ 0) := by
    show _ = _
    have h98 : a ≠ 98 := by simpa using b98
    simp [toldF, h98]
  have HV : Hid (toldF ⟨13, g, -1, x, n⟩ 0 = 64 :: 35 :: numt x) := by
    show _ = _
    unfold toldF kindt brk
    simp
  have HW : Hid (Rz 47 [.int .i64 13, .int .i64 g, .int .i64 (-1), .int .u32 x, .int .i64 n] w (w.alloc (.cells #[.int .i64 13, .int .i64 g, .int .i64 (-1), .int .u32 x, .int .i64 n] 47))) := ⟨Es.Bk.new _ _ _, Es.al1 _ _⟩
  have HG := Lib.hid (hg.below HW.out.bel)
  clear hg
  generalize rnm g = r at *
  generalize numt x = t at *
  go_enter Tryz.func16, Tryz.ntmps16
  go_wp2_with (first
  | (go_at_call 32; refine (HI.out _ HG.out).mono ?_; rintro e w1 ⟨rfl, hb⟩; have HF := Lib.hid (HW.out.below hb); clear hb; obtain ⟨y0, y1, y2, y3, y4, yf, yl⟩ := HF.out.res.five)
  | (go_at_call 34; refine (HB.out _).mono ?_; rintro e w' ⟨rfl, rfl⟩)
  | ((go_at_call 33; with_reducible refine (HNr.out _).mono ?_); rintro e w' ⟨rfl, rfl⟩)
  | fail)
  go_ret
  refine ⟨ret_str ?_, HF.out.bel⟩
  rw [HR.out, HV.out]
  exact glue_told_13 r t

set_option maxHeartbeats 6400000 in
set_option maxRecDepth 100000 in
theorem told_13i (g i : Nat) (x n a : Int) (w : World) (hr : g < 16) (hi : i < 16) (hx0 : 0 ≤ x) (hx1 : x < 4294967296) (b98 : (a == 98) = false) (hg : Gt w) :
    Calls Tryz.prog 16 #[(⟨13, g, i, x, n⟩ : Sp).val, .int .u8 a] w fun e w' => e = .returned (.string (sb (toldF ⟨13, g, i, x, n⟩ a))) ∧ Below w.heap.size w w' := by
  have HI := Lib.hid (fun W h => itoa_sgn x W hx0 hx1 h)
  have ht := numt_len x hx0 hx1
  have HB := Lib.hid (fun W => bracketed_any g hr W)
  have HNr := Lib.hid (fun W => named_any g hr W)
  have hr' := rnm_len g
  have HNi := Lib.hid (fun W => named_any i hi W)
  have hi' := rnm_len i
  have HR : Hid (toldF ⟨13, g, i, x, n⟩ a = toldF ⟨13, g, i, x, n⟩ 0) := by
    show _ = _
    have h98 : a ≠ 98 := by simpa using b98
    simp [toldF, h98]
  have HV : Hid (toldF ⟨13, g, i, x, n⟩ 0 = (64 :: 35 :: numt x) ++ (91 :: (rnm i ++ [93]))) := by
    show _ = _
    unfold toldF kindt brk
    simp [show ¬ ((i : Int) = -1) from by omega]
  have HW : Hid (Rz 47 [.int .i64 13, .int .i64 g, .int .i64 (i), .int .u32 x, .int .i64 n] w (w.alloc (.cells #[.int .i64 13, .int .i64 g, .int .i64 (i), .int .u32 x, .int .i64 n] 47))) := ⟨Es.Bk.new _ _ _, Es.al1 _ _⟩
  have HG := Lib.hid (hg.below HW.out.bel)
  clear hg
  generalize rnm g = r at *
  have ni : ((i : Int) == -1) = false := by apply beq_false_of_ne; omega
  generalize rnm i = q at *
  generalize numt x = t at *
  go_enter Tryz.func16, Tryz.ntmps16
  go_wp2_with (first
  | (go_at_call 32; refine (HI.out _ HG.out).mono ?_; rintro e w1 ⟨rfl, hb⟩; have HF := Lib.hid (HW.out.below hb); clear hb; obtain ⟨y0, y1, y2, y3, y4, yf, yl⟩ := HF.out.res.five)
  | (go_at_call 34; refine (HB.out _).mono ?_; rintro e w' ⟨rfl, rfl⟩)
  | ((go_at_call 33; with_reducible refine (HNr.out _).mono ?_); rintro e w' ⟨rfl, rfl⟩)
  | ((go_at_call 33; with_reducible refine (HNi.out _).mono ?_); rintro e w' ⟨rfl, rfl⟩)
  | fail)
  go_ret
  refine ⟨ret_str ?_, HF.out.bel⟩
  rw [HR.out, HV.out]
  exact glue_told_13i r t q

set_option maxHeartbeats 6400000 in
set_option maxRecDepth 100000 in
theorem told_5 (g : Nat) (x n a : Int) (w : World) (hr : g < 16) (hx0 : 0 ≤ x) (hx1 : x < 4294967296) (b98 : (a == 98) = false) (hg : Gt w) :
    Calls Tryz.prog 16 #[(⟨5, g, -1, x, n⟩ : Sp).val, .int .u8 a] w fun e w' => e = .returned (.string (sb (toldF ⟨5, g, -1, x, n⟩ a))) ∧ Below w.heap.size w w' := by
  have HI := Lib.hid (fun W h => itoa_sgn x W hx0 hx1 h)
  have ht := numt_len x hx0 hx1
  have HB := Lib.hid (fun W => bracketed_any g hr W)
  have HNr := Lib.hid (fun W => named_any g hr W)
  have hr' := rnm_len g
  have HR : Hid (toldF ⟨5, g, -1, x, n⟩ a = toldF ⟨5, g, -1, x, n⟩ 0) := by
    show _ = _
    have h98 : a ≠ 98 := by simpa using b98
    simp [toldF, h98]
  have HV : Hid (toldF ⟨5, g, -1, x, n⟩ 0 = rnm g) := by
    show _ = _
    unfold toldF kindt brk
    simp
  have HW : Hid (Rz 47 [.int .i64 5, .int .i64 g, .int .i64 (-1), .int .u32 x, .int .i64 n] w (w.alloc (.cells #[.int .i64 5, .int .i64 g, .int .i64 (-1), .int .u32 x, .int .i64 n] 47))) := ⟨Es.Bk.new _ _ _, Es.al1 _ _⟩
  have HG := Lib.hid (hg.below HW.out.bel)
  clear hg
  generalize rnm g = r at *
  generalize numt x = t at *
  go_enter Tryz.func16, Tryz.ntmps16
  go_wp2_with (first
  | (go_at_call 32; refine (HI.out _ HG.out).mono ?_; rintro e w1 ⟨rfl, hb⟩; have HF := Lib.hid (HW.out.below hb); clear hb; obtain ⟨y0, y1, y2, y3, y4, yf, yl⟩ := HF.out.res.five)
  | (go_at_call 34; refine (HB.out _).mono ?_; rintro e w' ⟨rfl, rfl⟩)
  | ((go_at_call 33; with_reducible refine (HNr.out _).mono ?_); rintro e w' ⟨rfl, rfl⟩)
  | fail)
  go_ret
  refine ⟨ret_str ?_, HF.out.bel⟩
  rw [HR.out, HV.out]

set_option maxHeartbeats 6400000 in
set_option maxRecDepth 100000 in
theorem told_5i (g i : Nat) (x n a : Int) (w : World) (hr : g < 16) (hi : i < 16) (hx0 : 0 ≤ x) (hx1 : x < 4294967296) (b98 : (a == 98) = false) (hg : Gt w) :
    Calls Tryz.prog 16 #[(⟨5, g, i, x, n⟩ : Sp).val, .int .u8 a] w fun e w' => e = .returned (.string (sb (toldF ⟨5, g, i, x, n⟩ a))) ∧ Below w.heap.size w w' := by
  have HI := Lib.hid (fun W h => itoa_sgn x W hx0 hx1 h)
  have ht := numt_len x hx0 hx1
  have HB := Lib.hid (fun W => bracketed_any g hr W)
  have HNr := Lib.hid (fun W => named_any g hr W)
  have hr' := rnm_len g
  have HNi := Lib.hid (fun W => named_any i hi W)
  have hi' := rnm_len i
  have HR : Hid (toldF ⟨5, g, i, x, n⟩ a = toldF ⟨5, g, i, x, n⟩ 0) := by
    show _ = _
    have h98 : a ≠ 98 := by simpa using b98
    simp [toldF, h98]
  have HV : Hid (toldF ⟨5, g, i, x, n⟩ 0 = (rnm g) ++ (91 :: (rnm i ++ [93]))) := by
    show _ = _
    unfold toldF kindt brk
    simp [show ¬ ((i : Int) = -1) from by omega]
  have HW : Hid (Rz 47 [.int .i64 5, .int .i64 g, .int .i64 (i), .int .u32 x, .int .i64 n] w (w.alloc (.cells #[.int .i64 5, .int .i64 g, .int .i64 (i), .int .u32 x, .int .i64 n] 47))) := ⟨Es.Bk.new _ _ _, Es.al1 _ _⟩
  have HG := Lib.hid (hg.below HW.out.bel)
  clear hg
  generalize rnm g = r at *
  have ni : ((i : Int) == -1) = false := by apply beq_false_of_ne; omega
  generalize rnm i = q at *
  generalize numt x = t at *
  go_enter Tryz.func16, Tryz.ntmps16
  go_wp2_with (first
  | (go_at_call 32; refine (HI.out _ HG.out).mono ?_; rintro e w1 ⟨rfl, hb⟩; have HF := Lib.hid (HW.out.below hb); clear hb; obtain ⟨y0, y1, y2, y3, y4, yf, yl⟩ := HF.out.res.five)
  | (go_at_call 34; refine (HB.out _).mono ?_; rintro e w' ⟨rfl, rfl⟩)
  | ((go_at_call 33; with_reducible refine (HNr.out _).mono ?_); rintro e w' ⟨rfl, rfl⟩)
  | ((go_at_call 33; with_reducible refine (HNi.out _).mono ?_); rintro e w' ⟨rfl, rfl⟩)
  | fail)
  go_ret
  refine ⟨ret_str ?_, HF.out.bel⟩
  rw [HR.out, HV.out]
  exact glue_told_5i r t q

set_option maxHeartbeats 6400000 in
set_option maxRecDepth 100000 in
theorem told_6 (g : Nat) (x n a : Int) (w : World) (hr : g < 16) (hx0 : 0 ≤ x) (hx1 : x < 4294967296) (b98 : (a == 98) = false) (hg : Gt w) :
    Calls Tryz.prog 16 #[(⟨6, g, -1, x, n⟩ : Sp).val, .int .u8 a] w fun e w' => e = .returned (.string (sb (toldF ⟨6, g, -1, x, n⟩ a))) ∧ Below w.heap.size w w' := by
  have HI := Lib.hid (fun W h => itoa_sgn x W hx0 hx1 h)
  have ht := numt_len x hx0 hx1
  have HB := Lib.hid (fun W => bracketed_any g hr W)
  have HNr := Lib.hid (fun W => named_any g hr W)
  have hr' := rnm_len g
  have HR : Hid (toldF ⟨6, g, -1, x, n⟩ a = toldF ⟨6, g, -1, x, n⟩ 0) := by
    show _ = _
    have h98 : a ≠ 98 := by simpa using b98
    simp [toldF, h98]
  have HV : Hid (toldF ⟨6, g, -1, x, n⟩ 0 = (40 :: (rnm g ++ [41]))) := by
    show _ = _
    unfold toldF kindt brk
    simp
  have HW : Hid (Rz 47 [.int .i64 6, .int .i64 g, .int .i64 (-1), .int .u32 x, .int .i64 n] w (w.alloc (.cells #[.int .i64 6, .int .i64 g, .int .i64 (-1), .int .u32 x, .int .i64 n] 47))) := ⟨Es.Bk.new _ _ _, Es.al1 _ _⟩
  have HG := Lib.hid (hg.below HW.out.bel)
  clear hg
  generalize rnm g = r at *
  generalize numt x = t at *
  go_enter Tryz.func16, Tryz.ntmps16
  go_wp2_with (first
  | (go_at_call 32; refine (HI.out _ HG.out).mono ?_; rintro e w1 ⟨rfl, hb⟩; have HF := Lib.hid (HW.out.below hb); clear hb; obtain ⟨y0, y1, y2, y3, y4, yf, yl⟩ := HF.out.res.five)
  | (go_at_call 34; refine (HB.out _).mono ?_; rintro e w' ⟨rfl, rfl⟩)
  | ((go_at_call 33; with_reducible refine (HNr.out _).mono ?_); rintro e w' ⟨rfl, rfl⟩)
  | fail)
  go_ret
  refine ⟨ret_str ?_, HF.out.bel⟩
  rw [HR.out, HV.out]

set_option maxHeartbeats 6400000 in
set_option maxRecDepth 100000 in
theorem told_6i (g i : Nat) (x n a : Int) (w : World) (hr : g < 16) (hi : i < 16) (hx0 : 0 ≤ x) (hx1 : x < 4294967296) (b98 : (a == 98) = false) (hg : Gt w) :
    Calls Tryz.prog 16 #[(⟨6, g, i, x, n⟩ : Sp).val, .int .u8 a] w fun e w' => e = .returned (.string (sb (toldF ⟨6, g, i, x, n⟩ a))) ∧ Below w.heap.size w w' := by
  have HI := Lib.hid (fun W h => itoa_sgn x W hx0 hx1 h)
  have ht := numt_len x hx0 hx1
  have HB := Lib.hid (fun W => bracketed_any g hr W)
  have HNr := Lib.hid (fun W => named_any g hr W)
  have hr' := rnm_len g
  have HNi := Lib.hid (fun W => named_any i hi W)
  have hi' := rnm_len i
  have HR : Hid (toldF ⟨6, g, i, x, n⟩ a = toldF ⟨6, g, i, x, n⟩ 0) := by
    show _ = _
    have h98 : a ≠ 98 := by simpa using b98
    simp [toldF, h98]
  have HV : Hid (toldF ⟨6, g, i, x, n⟩ 0 = ((40 :: (rnm g ++ [41]))) ++ (91 :: (rnm i ++ [93]))) := by
    show _ = _
    unfold toldF kindt brk
    simp [show ¬ ((i : Int) = -1) from by omega]
  have HW : Hid (Rz 47 [.int .i64 6, .int .i64 g, .int .i64 (i), .int .u32 x, .int .i64 n] w (w.alloc (.cells #[.int .i64 6, .int .i64 g, .int .i64 (i), .int .u32 x, .int .i64 n] 47))) := ⟨Es.Bk.new _ _ _, Es.al1 _ _⟩
  have HG := Lib.hid (hg.below HW.out.bel)
  clear hg
  generalize rnm g = r at *
  have ni : ((i : Int) == -1) = false := by apply beq_false_of_ne; omega
  generalize rnm i = q at *
  generalize numt x = t at *
  go_enter Tryz.func16, Tryz.ntmps16
  go_wp2_with (first
  | (go_at_call 32; refine (HI.out _ HG.out).mono ?_; rintro e w1 ⟨rfl, hb⟩; have HF := Lib.hid (HW.out.below hb); clear hb; obtain ⟨y0, y1, y2, y3, y4, yf, yl⟩ := HF.out.res.five)
  | (go_at_call 34; refine (HB.out _).mono ?_; rintro e w' ⟨rfl, rfl⟩)
  | ((go_at_call 33; with_reducible refine (HNr.out _).mono ?_); rintro e w' ⟨rfl, rfl⟩)
  | ((go_at_call 33; with_reducible refine (HNi.out _).mono ?_); rintro e w' ⟨rfl, rfl⟩)
  | fail)
  go_ret
  refine ⟨ret_str ?_, HF.out.bel⟩
  rw [HR.out, HV.out]
  exact glue_told_6i r t q

set_option maxHeartbeats 6400000 in
set_option maxRecDepth 100000 in
theorem told_7 (g : Nat) (x n a : Int) (w : World) (hr : g < 16) (hx0 : 0 ≤ x) (hx1 : x < 4294967296) (b98 : (a == 98) = false) (hg : Gt w) :
    Calls Tryz.prog 16 #[(⟨7, g, -1, x, n⟩ : Sp).val, .int .u8 a] w fun e w' => e = .returned (.string (sb (toldF ⟨7, g, -1, x, n⟩ a))) ∧ Below w.heap.size w w' := by
  have HI := Lib.hid (fun W h => itoa_sgn x W hx0 hx1 h)
  have ht := numt_len x hx0 hx1
  have HB := Lib.hid (fun W => bracketed_any g hr W)
  have HNr := Lib.hid (fun W => named_any g hr W)
  have hr' := rnm_len g
  have HR : Hid (toldF ⟨7, g, -1, x, n⟩ a = toldF ⟨7, g, -1, x, n⟩ 0) := by
    show _ = _
    have h98 : a ≠ 98 := by simpa using b98
    simp [toldF, h98]
  have HV : Hid (toldF ⟨7, g, -1, x, n⟩ 0 = 45 :: (40 :: (rnm g ++ [41]))) := by
    show _ = _
    unfold toldF kindt brk
    simp
  have HW : Hid (Rz 47 [.int .i64 7, .int .i64 g, .int .i64 (-1), .int .u32 x, .int .i64 n] w (w.alloc (.cells #[.int .i64 7, .int .i64 g, .int .i64 (-1), .int .u32 x, .int .i64 n] 47))) := ⟨Es.Bk.new _ _ _, Es.al1 _ _⟩
  have HG := Lib.hid (hg.below HW.out.bel)
  clear hg
  generalize rnm g = r at *
  generalize numt x = t at *
  go_enter Tryz.func16, Tryz.ntmps16
  go_wp2_with (first
  | (go_at_call 32; refine (HI.out _ HG.out).mono ?_; rintro e w1 ⟨rfl, hb⟩; have HF := Lib.hid (HW.out.below hb); clear hb; obtain ⟨y0, y1, y2, y3, y4, yf, yl⟩ := HF.out.res.five)
  | (go_at_call 34; refine (HB.out _).mono ?_; rintro e w' ⟨rfl, rfl⟩)
  | ((go_at_call 33; with_reducible refine (HNr.out _).mono ?_); rintro e w' ⟨rfl, rfl⟩)
  | fail)
  go_ret
  refine ⟨ret_str ?_, HF.out.bel⟩
  rw [HR.out, HV.out]
  exact glue_told_7 r t

set_option maxHeartbeats 6400000 in
set_option maxRecDepth 100000 in
theorem told_7i (g i : Nat) (x n a : Int) (w : World) (hr : g < 16) (hi : i < 16) (hx0 : 0 ≤ x) (hx1 : x < 4294967296) (b98 : (a == 98) = false) (hg : Gt w) :
    Calls Tryz.prog 16 #[(⟨7, g, i, x, n⟩ : Sp).val, .int .u8 a] w fun e w' => e = .returned (.string (sb (toldF ⟨7, g, i, x, n⟩ a))) ∧ Below w.heap.size w w' := by
  have HI := Lib.hid (fun W h => itoa_sgn x W hx0 hx1 h)
  have ht := numt_len x hx0 hx1
  have HB := Lib.hid (fun W => bracketed_any g hr W)
  have HNr := Lib.hid (fun W => named_any g hr W)
  have hr' := rnm_len g
  have HNi := Lib.hid (fun W => named_any i hi W)
  have hi' := rnm_len i
  have HR : Hid (toldF ⟨7, g, i, x, n⟩ a = toldF ⟨7, g, i, x, n⟩ 0) := by
    show _ = _
    have h98 : a ≠ 98 := by simpa using b98
    simp [toldF, h98]
  have HV : Hid (toldF ⟨7, g, i, x, n⟩ 0 = (45 :: (40 :: (rnm g ++ [41]))) ++ (91 :: (rnm i ++ [93]))) := by
    show _ = _
    unfold toldF kindt brk
    simp [show ¬ ((i : Int) = -1) from by omega]
  have HW : Hid (Rz 47 [.int .i64 7, .int .i64 g, .int .i64 (i), .int .u32 x, .int .i64 n] w (w.alloc (.cells #[.int .i64 7, .int .i64 g, .int .i64 (i), .int .u32 x, .int .i64 n] 47))) := ⟨Es.Bk.new _ _ _, Es.al1 _ _⟩
  have HG := Lib.hid (hg.below HW.out.bel)
  clear hg
  generalize rnm g = r at *
  have ni : ((i : Int) == -1) = false := by apply beq_false_of_ne; omega
  generalize rnm i = q at *
  generalize numt x = t at *
  go_enter Tryz.func16, Tryz.ntmps16
  go_wp2_with (first
  | (go_at_call 32; refine (HI.out _ HG.out).mono ?_; rintro e w1 ⟨rfl, hb⟩; have HF := Lib.hid (HW.out.below hb); clear hb; obtain ⟨y0, y1, y2, y3, y4, yf, yl⟩ := HF.out.res.five)
  | (go_at_call 34; refine (HB.out _).mono ?_; rintro e w' ⟨rfl, rfl⟩)
  | ((go_at_call 33; with_reducible refine (HNr.out _).mono ?_); rintro e w' ⟨rfl, rfl⟩)
  | ((go_at_call 33; with_reducible refine (HNi.out _).mono ?_); rintro e w' ⟨rfl, rfl⟩)
  | fail)
  go_ret
  refine ⟨ret_str ?_, HF.out.bel⟩
  rw [HR.out, HV.out]
  exact glue_told_7i r t q

set_option maxHeartbeats 6400000 in
set_option maxRecDepth 100000 in
theorem told_8 (g : Nat) (x n a : Int) (w : World) (hr : g < 16) (hx0 : 0 ≤ x) (hx1 : x < 4294967296) (b98 : (a == 98) = false) (hg : Gt w) :
    Calls Tryz.prog 16 #[(⟨8, g, -1, x, n⟩ : Sp).val, .int .u8 a] w fun e w' => e = .returned (.string (sb (toldF ⟨8, g, -1, x, n⟩ a))) ∧ Below w.heap.size w w' := by
  have HI := Lib.hid (fun W h => itoa_sgn x W hx0 hx1 h)
  have ht := numt_len x hx0 hx1
  have HB := Lib.hid (fun W => bracketed_any g hr W)
  have HNr := Lib.hid (fun W => named_any g hr W)
  have hr' := rnm_len g
  have HR : Hid (toldF ⟨8, g, -1, x, n⟩ a = toldF ⟨8, g, -1, x, n⟩ 0) := by
    show _ = _
    have h98 : a ≠ 98 := by simpa using b98
    simp [toldF, h98]
  have HV : Hid (toldF ⟨8, g, -1, x, n⟩ 0 = (40 :: (rnm g ++ [41])) ++ [43]) := by
    show _ = _
    unfold toldF kindt brk
    simp
  have HW : Hid (Rz 47 [.int .i64 8, .int .i64 g, .int .i64 (-1), .int .u32 x, .int .i64 n] w (w.alloc (.cells #[.int .i64 8, .int .i64 g, .int .i64 (-1), .int .u32 x, .int .i64 n] 47))) := ⟨Es.Bk.new _ _ _, Es.al1 _ _⟩
  have HG := Lib.hid (hg.below HW.out.bel)
  clear hg
  generalize rnm g = r at *
  generalize numt x = t at *
  go_enter Tryz.func16, Tryz.ntmps16
  go_wp2_with (first
  | (go_at_call 32; refine (HI.out _ HG.out).mono ?_; rintro e w1 ⟨rfl, hb⟩; have HF := Lib.hid (HW.out.below hb); clear hb; obtain ⟨y0, y1, y2, y3, y4, yf, yl⟩ := HF.out.res.five)
  | (go_at_call 34; refine (HB.out _).mono ?_; rintro e w' ⟨rfl, rfl⟩)
  | ((go_at_call 33; with_reducible refine (HNr.out _).mono ?_); rintro e w' ⟨rfl, rfl⟩)
  | fail)
  go_ret
  refine ⟨ret_str ?_, HF.out.bel⟩
  rw [HR.out, HV.out]
  exact glue_told_8 r t

set_option maxHeartbeats 6400000 in
set_option maxRecDepth 100000 in
theorem told_8i (g i : Nat) (x n a : Int) (w : World) (hr : g < 16) (hi : i < 16) (hx0 : 0 ≤ x) (hx1 : x < 4294967296) (b98 : (a == 98) = false) (hg : Gt w) :
    Calls Tryz.prog 16 #[(⟨8, g, i, x, n⟩ : Sp).val, .int .u8 a] w fun e w' => e = .returned (.string (sb (toldF ⟨8, g, i, x, n⟩ a))) ∧ Below w.heap.size w w' := by
  have HI := Lib.hid (fun W h => itoa_sgn x W hx0 hx1 h)
  have ht := numt_len x hx0 hx1
  have HB := Lib.hid (fun W => bracketed_any g hr W)
  have HNr := Lib.hid (fun W => named_any g hr W)
  have hr' := rnm_len g
  have HNi := Lib.hid (fun W => named_any i hi W)
  have hi' := rnm_len i
  have HR : Hid (toldF ⟨8, g, i, x, n⟩ a = toldF ⟨8, g, i, x, n⟩ 0) := by
    show _ = _
    have h98 : a ≠ 98 := by simpa using b98
    simp [toldF, h98]
  have HV : Hid (toldF ⟨8, g, i, x, n⟩ 0 = ((40 :: (rnm g ++ [41])) ++ [43]) ++ (91 :: (rnm i ++ [93]))) := by
    show _ = _
    unfold toldF kindt brk
    simp [show ¬ ((i : Int) = -1) from by omega]
  have HW : Hid (Rz 47 [.int .i64 8, .int .i64 g, .int .i64 (i), .int .u32 x, .int .i64 n] w (w.alloc (.cells #[.int .i64 8, .int .i64 g, .int .i64 (i), .int .u32 x, .int .i64 n] 47))) := ⟨Es.Bk.new _ _ _, Es.al1 _ _⟩
  have HG := Lib.hid (hg.below HW.out.bel)
  clear hg
  generalize rnm g = r at *
  have ni : ((i : Int) == -1) = false := by apply beq_false_of_ne; omega
  generalize rnm i = q at *
  generalize numt x = t at *
  go_enter Tryz.func16, Tryz.ntmps16
  go_wp2_with (first
  | (go_at_call 32; refine (HI.out _ HG.out).mono ?_; rintro e w1 ⟨rfl, hb⟩; have HF := Lib.hid (HW.out.below hb); clear hb; obtain ⟨y0, y1, y2, y3, y4, yf, yl⟩ := HF.out.res.five)
  | (go_at_call 34; refine (HB.out _).mono ?_; rintro e w' ⟨rfl, rfl⟩)
  | ((go_at_call 33; with_reducible refine (HNr.out _).mono ?_); rintro e w' ⟨rfl, rfl⟩)
  | ((go_at_call 33; with_reducible refine (HNi.out _).mono ?_); rintro e w' ⟨rfl, rfl⟩)
  | fail)
  go_ret
  refine ⟨ret_str ?_, HF.out.bel⟩
  rw [HR.out, HV.out]
  exact glue_told_8i r t q

set_option maxHeartbeats 6400000 in
set_option maxRecDepth 100000 in
theorem told_9 (g : Nat) (x n a : Int) (w : World) (hr : g < 16) (hx0 : 0 ≤ x) (hx1 : x < 4294967296) (b98 : (a == 98) = false) (hg : Gt w) :
    Calls Tryz.prog 16 #[(⟨9, g, -1, x, n⟩ : Sp).val, .int .u8 a] w fun e w' => e = .returned (.string (sb (toldF ⟨9, g, -1, x, n⟩ a))) ∧ Below w.heap.size w w' := by
  have HI := Lib.hid (fun W h => itoa_sgn x W hx0 hx1 h)
  have ht := numt_len x hx0 hx1
  have HB := Lib.hid (fun W => bracketed_any g hr W)
  have HNr := Lib.hid (fun W => named_any g hr W)
  have hr' := rnm_len g
  have HR : Hid (toldF ⟨9, g, -1, x, n⟩ a = toldF ⟨9, g, -1, x, n⟩ 0) := by
    show _ = _
    have h98 : a ≠ 98 := by simpa using b98
    simp [toldF, h98]
  have HV : Hid (toldF ⟨9, g, -1, x, n⟩ 0 = 64 :: ((40 :: (rnm g ++ [41])) ++ [43])) := by
    show _ = _
    unfold toldF kindt brk
    simp
  have HW : Hid (Rz 47 [.int .i64 9, .int .i64 g, .int .i64 (-1), .int .u32 x, .int .i64 n] w (w.alloc (.cells #[.int .i64 9, .int .i64 g, .int .i64 (-1), .int .u32 x, .int .i64 n] 47))) := ⟨Es.Bk.new _ _ _, Es.al1 _ _⟩
  have HG := Lib.hid (hg.below HW.out.bel)
  clear hg
  generalize rnm g = r at *
  generalize numt x = t at *
  go_enter Tryz.func16, Tryz.ntmps16
  go_wp2_with (first
  | (go_at_call 32; refine (HI.out _ HG.out).mono ?_; rintro e w1 ⟨rfl, hb⟩; have HF := Lib.hid (HW.out.below hb); clear hb; obtain ⟨y0, y1, y2, y3, y4, yf, yl⟩ := HF.out.res.five)
  | (go_at_call 34; refine (HB.out _).mono ?_; rintro e w' ⟨rfl, rfl⟩)
  | ((go_at_call 33; with_reducible refine (HNr.out _).mono ?_); rintro e w' ⟨rfl, rfl⟩)
  | fail)
  go_ret
  refine ⟨ret_str ?_, HF.out.bel⟩
  rw [HR.out, HV.out]
  exact glue_told_9 r t

set_option maxHeartbeats 6400000 in
set_option maxRecDepth 100000 in
theorem told_9i (g i : Nat) (x n a : Int) (w : World) (hr : g < 16) (hi : i < 16) (hx0 : 0 ≤ x) (hx1 : x < 4294967296) (b98 : (a == 98) = false) (hg : Gt w) :
    Calls Tryz.prog 16 #[(⟨9, g, i, x, n⟩ : Sp).val, .int .u8 a] w fun e w' => e = .returned (.string (sb (toldF ⟨9, g, i, x, n⟩ a))) ∧ Below w.heap.size w w' := by
  have HI := Lib.hid (fun W h => itoa_sgn x W hx0 hx1 h)
  have ht := numt_len x hx0 hx1
  have HB := Lib.hid (fun W => bracketed_any g hr W)
  have HNr := Lib.hid (fun W => named_any g hr W)
  have hr' := rnm_len g
  have HNi := Lib.hid (fun W => named_any i hi W)
  have hi' := rnm_len i
  have HR : Hid (toldF ⟨9, g, i, x, n⟩ a = toldF ⟨9, g, i, x, n⟩ 0) := by
    show _ = _
    have h98 : a ≠ 98 := by simpa using b98
    simp [toldF, h98]
  have HV : Hid (toldF ⟨9, g, i, x, n⟩ 0 = (64 :: ((40 :: (rnm g ++ [41])) ++ [43])) ++ (91 :: (rnm i ++ [93]))) := by
    show _ = _
    unfold toldF kindt brk
    simp [show ¬ ((i : Int) = -1) from by omega]
  have HW : Hid (Rz 47 [.int .i64 9, .int .i64 g, .int .i64 (i), .int .u32 x, .int .i64 n] w (w.alloc (.cells #[.int .i64 9, .int .i64 g, .int .i64 (i), .int .u32 x, .int .i64 n] 47))) := ⟨Es.Bk.new _ _ _, Es.al1 _ _⟩
  have HG := Lib.hid (hg.below HW.out.bel)
  clear hg
  generalize rnm g = r at *
  have ni : ((i : Int) == -1) = false := by apply beq_false_of_ne; omega
  generalize rnm i = q at *
  generalize numt x = t at *
  go_enter Tryz.func16, Tryz.ntmps16
  go_wp2_with (first
  | (go_at_call 32; refine (HI.out _ HG.out).mono ?_; rintro e w1 ⟨rfl, hb⟩; have HF := Lib.hid (HW.out.below hb); clear hb; obtain ⟨y0, y1, y2, y3, y4, yf, yl⟩ := HF.out.res.five)
  | (go_at_call 34; refine (HB.out _).mono ?_; rintro e w' ⟨rfl, rfl⟩)
  | ((go_at_call 33; with_reducible refine (HNr.out _).mono ?_); rintro e w' ⟨rfl, rfl⟩)
  | ((go_at_call 33; with_reducible refine (HNi.out _).mono ?_); rintro e w' ⟨rfl, rfl⟩)
  | fail)
  go_ret
  refine ⟨ret_str ?_, HF.out.bel⟩
  rw [HR.out, HV.out]
  exact glue_told_9i r t q

set_option maxHeartbeats 6400000 in
set_option maxRecDepth 100000 in
theorem told_10 (g : Nat) (x n a : Int) (w : World) (hr : g < 16) (hx0 : 0 ≤ x) (hx1 : x < 4294967296) (b98 : (a == 98) = false) (hg : Gt w) :
    Calls Tryz.prog 16 #[(⟨10, g, -1, x, n⟩ : Sp).val, .int .u8 a] w fun e w' => e = .returned (.string (sb (toldF ⟨10, g, -1, x, n⟩ a))) ∧ Below w.heap.size w w' := by
  have HI := Lib.hid (fun W h => itoa_sgn x W hx0 hx1 h)
  have ht := numt_len x hx0 hx1
  have HB := Lib.hid (fun W => bracketed_any g hr W)
  have HNr := Lib.hid (fun W => named_any g hr W)
  have hr' := rnm_len g
  have HR : Hid (toldF ⟨10, g, -1, x, n⟩ a = toldF ⟨10, g, -1, x, n⟩ 0) := by
    show _ = _
    have h98 : a ≠ 98 := by simpa using b98
    simp [toldF, h98]
  have HV : Hid (toldF ⟨10, g, -1, x, n⟩ 0 = numt x ++ (40 :: (rnm g ++ [41]))) := by
    show _ = _
    unfold toldF kindt brk
    simp
  have HW : Hid (Rz 47 [.int .i64 10, .int .i64 g, .int .i64 (-1), .int .u32 x, .int .i64 n] w (w.alloc (.cells #[.int .i64 10, .int .i64 g, .int .i64 (-1), .int .u32 x, .int .i64 n] 47))) := ⟨Es.Bk.new _ _ _, Es.al1 _ _⟩
  have HG := Lib.hid (hg.below HW.out.bel)
  clear hg
  generalize rnm g = r at *
  generalize numt x = t at *
  go_enter Tryz.func16, Tryz.ntmps16
  go_wp2_with (first
  | (go_at_call 32; refine (HI.out _ HG.out).mono ?_; rintro e w1 ⟨rfl, hb⟩; have HF := Lib.hid (HW.out.below hb); clear hb; obtain ⟨y0, y1, y2, y3, y4, yf, yl⟩ := HF.out.res.five)
  | (go_at_call 34; refine (HB.out _).mono ?_; rintro e w' ⟨rfl, rfl⟩)
  | ((go_at_call 33; with_reducible refine (HNr.out _).mono ?_); rintro e w' ⟨rfl, rfl⟩)
  | fail)
  go_ret
  refine ⟨ret_str ?_, HF.out.bel⟩
  rw [HR.out, HV.out]
  exact glue_told_10 r t

set_option maxHeartbeats 6400000 in
set_option maxRecDepth 100000 in
theorem told_10i (g i : Nat) (x n a : Int) (w : World) (hr : g < 16) (hi : i < 16) (hx0 : 0 ≤ x) (hx1 : x < 4294967296) (b98 : (a == 98) = false) (hg : Gt w) :
    Calls Tryz.prog 16 #[(⟨10, g, i, x, n⟩ : Sp).val, .int .u8 a] w fun e w' => e = .returned (.string (sb (toldF ⟨10, g, i, x, n⟩ a))) ∧ Below w.heap.size w w' := by
  have HI := Lib.hid (fun W h => itoa_sgn x W hx0 hx1 h)
  have ht := numt_len x hx0 hx1
  have HB := Lib.hid (fun W => bracketed_any g hr W)
  have HNr := Lib.hid (fun W => named_any g hr W)
  have hr' := rnm_len g
  have HNi := Lib.hid (fun W => named_any i hi W)
  have hi' := rnm_len i
  have HR : Hid (toldF ⟨10, g, i, x, n⟩ a = toldF ⟨10, g, i, x, n⟩ 0) := by
    show _ = _
    have h98 : a ≠ 98 := by simpa using b98
    simp [toldF, h98]
  have HV : Hid (toldF ⟨10, g, i, x, n⟩ 0 = (numt x ++ (40 :: (rnm g ++ [41]))) ++ (91 :: (rnm i ++ [93]))) := by
    show _ = _
    unfold toldF kindt brk
    simp [show ¬ ((i : Int) = -1) from by omega]
  have HW : Hid (Rz 47 [.int .i64 10, .int .i64 g, .int .i64 (i), .int .u32 x, .int .i64 n] w (w.alloc (.cells #[.int .i64 10, .int .i64 g, .int .i64 (i), .int .u32 x, .int .i64 n] 47))) := ⟨Es.Bk.new _ _ _, Es.al1 _ _⟩
  have HG := Lib.hid (hg.below HW.out.bel)
  clear hg
  generalize rnm g = r at *
  have ni : ((i : Int) == -1) = false := by apply beq_false_of_ne; omega
  generalize rnm i = q at *
  generalize numt x = t at *
  go_enter Tryz.func16, Tryz.ntmps16
  go_wp2_with (first
  | (go_at_call 32; refine (HI.out _ HG.out).mono ?_; rintro e w1 ⟨rfl, hb⟩; have HF := Lib.hid (HW.out.below hb); clear hb; obtain ⟨y0, y1, y2, y3, y4, yf, yl⟩ := HF.out.res.five)
  | (go_at_call 34; refine (HB.out _).mono ?_; rintro e w' ⟨rfl, rfl⟩)
  | ((go_at_call 33; with_reducible refine (HNr.out _).mono ?_); rintro e w' ⟨rfl, rfl⟩)
  | ((go_at_call 33; with_reducible refine (HNi.out _).mono ?_); rintro e w' ⟨rfl, rfl⟩)
  | fail)
  go_ret
  refine ⟨ret_str ?_, HF.out.bel⟩
  rw [HR.out, HV.out]
  exact glue_told_10i r t q

set_option maxHeartbeats 6400000 in
set_option maxRecDepth 100000 in
theorem told_11 (g : Nat) (x n a : Int) (w : World) (hr : g < 16) (hx0 : 0 ≤ x) (hx1 : x < 4294967296) (b98 : (a == 98) = false) (hg : Gt w) :
    Calls Tryz.prog 16 #[(⟨11, g, -1, x, n⟩ : Sp).val, .int .u8 a] w fun e w' => e = .returned (.string (sb (toldF ⟨11, g, -1, x, n⟩ a))) ∧ Below w.heap.size w w' := by
  have HI := Lib.hid (fun W h => itoa_sgn x W hx0 hx1 h)
  have ht := numt_len x hx0 hx1
  have HB := Lib.hid (fun W => bracketed_any g hr W)
  have HNr := Lib.hid (fun W => named_any g hr W)
  have hr' := rnm_len g
  have HR : Hid (toldF ⟨11, g, -1, x, n⟩ a = toldF ⟨11, g, -1, x, n⟩ 0) := by
    show _ = _
    have h98 : a ≠ 98 := by simpa using b98
    simp [toldF, h98]
  have HV : Hid (toldF ⟨11, g, -1, x, n⟩ 0 = 64 :: (numt x ++ (40 :: (rnm g ++ [41])))) := by
    show _ = _
    unfold toldF kindt brk
    simp
  have HW : Hid (Rz 47 [.int .i64 11, .int .i64 g, .int .i64 (-1), .int .u32 x, .int .i64 n] w (w.alloc (.cells #[.int .i64 11, .int .i64 g, .int .i64 (-1), .int .u32 x, .int .i64 n] 47))) := ⟨Es.Bk.new _ _ _, Es.al1 _ _⟩
  have HG := Lib.hid (hg.below HW.out.bel)
  clear hg
  generalize rnm g = r at *
  generalize numt x = t at *
  go_enter Tryz.func16, Tryz.ntmps16
  go_wp2_with (first
  | (go_at_call 32; refine (HI.out _ HG.out).mono ?_; rintro e w1 ⟨rfl, hb⟩; have HF := Lib.hid (HW.out.below hb); clear hb; obtain ⟨y0, y1, y2, y3, y4, yf, yl⟩ := HF.out.res.five)
  | (go_at_call 34; refine (HB.out _).mono ?_; rintro e w' ⟨rfl, rfl⟩)
  | ((go_at_call 33; with_reducible refine (HNr.out _).mono ?_); rintro e w' ⟨rfl, rfl⟩)
  | fail)
  go_ret
  refine ⟨ret_str ?_, HF.out.bel⟩
  rw [HR.out, HV.out]
  exact glue_told_11 r t

set_option maxHeartbeats 6400000 in
set_option maxRecDepth 100000 in
theorem told_11i (g i : Nat) (x n a : Int) (w : World) (hr : g < 16) (hi : i < 16) (hx0 : 0 ≤ x) (hx1 : x < 4294967296) (b98 : (a == 98) = false) (hg : Gt w) :
    Calls Tryz.prog 16 #[(⟨11, g, i, x, n⟩ : Sp).val, .int .u8 a] w fun e w' => e = .returned (.string (sb (toldF ⟨11, g, i, x, n⟩ a))) ∧ Below w.heap.size w w' := by
  have HI := Lib.hid (fun W h => itoa_sgn x W hx0 hx1 h)
  have ht := numt_len x hx0 hx1
  have HB := Lib.hid (fun W => bracketed_any g hr W)
  have HNr := Lib.hid (fun W => named_any g hr W)
  have hr' := rnm_len g
  have HNi := Lib.hid (fun W => named_any i hi W)
  have hi' := rnm_len i
  have HR : Hid (toldF ⟨11, g, i, x, n⟩ a = toldF ⟨11, g, i, x, n⟩ 0) := by
    show _ = _
    have h98 : a ≠ 98 := by simpa using b98
    simp [toldF, h98]
  have HV : Hid (toldF ⟨11, g, i, x, n⟩ 0 = (64 :: (numt x ++ (40 :: (rnm g ++ [41])))) ++ (91 :: (rnm i ++ [93]))) := by
    show _ = _
    unfold toldF kindt brk
    simp [show ¬ ((i : Int) = -1) from by omega]
  have HW : Hid (Rz 47 [.int .i64 11, .int .i64 g, .int .i64 (i), .int .u32 x, .int .i64 n] w (w.alloc (.cells #[.int .i64 11, .int .i64 g, .int .i64 (i), .int .u32 x, .int .i64 n] 47))) := ⟨Es.Bk.new _ _ _, Es.al1 _ _⟩
  have HG := Lib.hid (hg.below HW.out.bel)
  clear hg
  generalize rnm g = r at *
  have ni : ((i : Int) == -1) = false := by apply beq_false_of_ne; omega
  generalize rnm i = q at *
  generalize numt x = t at *
  go_enter Tryz.func16, Tryz.ntmps16
  go_wp2_with (first
  | (go_at_call 32; refine (HI.out _ HG.out).mono ?_; rintro e w1 ⟨rfl, hb⟩; have HF := Lib.hid (HW.out.below hb); clear hb; obtain ⟨y0, y1, y2, y3, y4, yf, yl⟩ := HF.out.res.five)
  | (go_at_call 34; refine (HB.out _).mono ?_; rintro e w' ⟨rfl, rfl⟩)
  | ((go_at_call 33; with_reducible refine (HNr.out _).mono ?_); rintro e w' ⟨rfl, rfl⟩)
  | ((go_at_call 33; with_reducible refine (HNi.out _).mono ?_); rintro e w' ⟨rfl, rfl⟩)
  | fail)
  go_ret
  refine ⟨ret_str ?_, HF.out.bel⟩
  rw [HR.out, HV.out]
  exact glue_told_11i r t q

set_option maxHeartbeats 6400000 in
set_option maxRecDepth 100000 in
theorem told_b (k g i x n : Int) (w : World) (hx0 : 0 ≤ x) (hx1 : x < 4294967296) (hg : Gt w) :
    Calls Tryz.prog 16 #[(⟨k, g, i, x, n⟩ : Sp).val, .int .u8 98] w fun e w' => e = .returned (.string (sb (toldF ⟨k, g, i, x, n⟩ 98))) ∧ Below w.heap.size w w' := by
  have HI := Lib.hid (fun W h => itoa_sgn x W hx0 hx1 h)
  have HR : Hid (toldF ⟨k, g, i, x, n⟩ 98 = numt x) := rfl
  have HW : Hid (Rz 47 [.int .i64 k, .int .i64 g, .int .i64 i, .int .u32 x, .int .i64 n] w (w.alloc (.cells #[.int .i64 k, .int .i64 g, .int .i64 i, .int .u32 x, .int .i64 n] 47))) := ⟨Es.Bk.new _ _ _, Es.al1 _ _⟩
  have HG := Lib.hid (hg.below HW.out.bel)
  clear hg
  generalize numt x = t at *
  go_enter Tryz.func16, Tryz.ntmps16
  go_wp2_with (first
  | (go_at_call 32; refine (HI.out _ HG.out).mono ?_; rintro e w1 ⟨rfl, hb⟩; have HF := Lib.hid (HW.out.below hb); clear hb; obtain ⟨y0, y1, y2, y3, y4, yf, yl⟩ := HF.out.res.five)
  | fail)
  go_ret
  exact ⟨by rw [HR.out]; rfl, HF.out.bel⟩

theorem told_any (s : Sp) (a : Int) (w : World) (hk : s.k = 0 ∨ (5 ≤ s.k ∧ s.k ≤ 13)) (hr : 0 ≤ s.r ∧ s.r ≤ 15) (hi : -1 ≤ s.i ∧ s.i ≤ 15) (hx : 0 ≤ s.x ∧ s.x < 4294967296) (hg : Gt w) :
    Calls Tryz.prog 16 #[s.val, .int .u8 a] w fun e w' => e = .returned (.string (sb (toldF s a))) ∧ Below w.heap.size w w' := by
  obtain ⟨k, g, i, x, n⟩ := s
  simp only at hk hr hi hx
  by_cases h98 : a = 98
  · subst h98; exact told_b k g i x n w hx.1 hx.2 hg
  · have b98 : (a == 98) = false := by simpa using h98
    obtain ⟨g, rfl⟩ : ∃ m : Nat, g = m := ⟨g.toNat, by omega⟩
    have hk' : k = 0 ∨ k = 12 ∨ k = 13 ∨ k = 5 ∨ k = 6 ∨ k = 7 ∨ k = 8 ∨ k = 9 ∨ k = 10 ∨ k = 11 := by omega
    by_cases h1 : i = -1
    · subst h1
      rcases hk' with rfl | rfl | rfl | rfl | rfl | rfl | rfl | rfl | rfl | rfl
      · exact told_0 g x n a w (by omega) hx.1 hx.2 b98 hg
      · exact told_12 g x n a w (by omega) hx.1 hx.2 b98 hg
      · exact told_13 g x n a w (by omega) hx.1 hx.2 b98 hg
      · exact told_5 g x n a w (by omega) hx.1 hx.2 b98 hg
      · exact told_6 g x n a w (by omega) hx.1 hx.2 b98 hg
      · exact told_7 g x n a w (by omega) hx.1 hx.2 b98 hg
      · exact told_8 g x n a w (by omega) hx.1 hx.2 b98 hg
      · exact told_9 g x n a w (by omega) hx.1 hx.2 b98 hg
      · exact told_10 g x n a w (by omega) hx.1 hx.2 b98 hg
      · exact told_11 g x n a w (by omega) hx.1 hx.2 b98 hg
    · obtain ⟨i, rfl⟩ : ∃ m : Nat, i = m := ⟨i.toNat, by omega⟩
      rcases hk' with rfl | rfl | rfl | rfl | rfl | rfl | rfl | rfl | rfl | rfl
      · exact told_0i g i x n a w (by omega) (by omega) hx.1 hx.2 b98 hg
      · exact told_12i g i x n a w (by omega) (by omega) hx.1 hx.2 b98 hg
      · exact told_13i g i x n a w (by omega) (by omega) hx.1 hx.2 b98 hg
      · exact told_5i g i x n a w (by omega) (by omega) hx.1 hx.2 b98 hg
      · exact told_6i g i x n a w (by omega) (by omega) hx.1 hx.2 b98 hg
      · exact told_7i g i x n a w (by omega) (by omega) hx.1 hx.2 b98 hg
      · exact told_8i g i x n a w (by omega) (by omega) hx.1 hx.2 b98 hg
      · exact told_9i g i x n a w (by omega) (by omega) hx.1 hx.2 b98 hg
      · exact told_10i g i x n a w (by omega) (by omega) hx.1 hx.2 b98 hg
      · exact told_11i g i x n a w (by omega) (by omega) hx.1 hx.2 b98 hg

end Go.Proofs.YtppkpfkoggnbmaaGreatDoor.Cs.Ka

/- What Decode answers, and what its text is. No program in sight. -/
namespace Go.Proofs.YtppkpfkoggnbmaaGreatDoor.Cs.Ka
open Go.RowKit Es
open Ia (sb cst sb_size sb_get sb_append)
set_option linter.unusedVariables false
set_option linter.unusedSimpArgs false

theorem hd_U {x z : Int} (hb : 0 ≤ x ∧ x < 256) : U (hd x z).v := by
  unfold hd
  (repeat' split) <;> exact ⟨by simp; try omega, by simp; try omega⟩
theorem fin_U {x a z i c : Int} {u : List Int} (hb : 0 ≤ x ∧ x < 256) : U (fin x u a z i c).1.x := by
  have h0 : U (0 : Int) := ⟨by omega, by omega⟩
  unfold fin
  by_cases h1 : cn (hd x z).k (hd x z).r i a = true
  · rw [if_pos h1]
    by_cases h2 : u.length < (hd x z).w
    · rw [if_pos h2]; exact h0
    · rw [if_neg h2]
      simp only
      split
      · exact hd_U hb
      · exact ex_U _ _
  · rw [if_neg h1]; exact h0
theorem dec_U {l : List Int} {a z : Int} (hb : Byt l) : U (dec l a z).1.x := by
  have h0 : U (0 : Int) := ⟨by omega, by omega⟩
  by_cases hg : gd a z = true
  · by_cases h98 : a = 98
    · subst h98
      unfold dec
      rw [if_neg (by simp [hg]), if_pos rfl]
      split
      · exact h0
      · exact ex_U _ _
    · match l, hb with
      | [], _ => rw [dec_nil hg h98]; exact h0
      | x :: t, hb =>
        by_cases hx : x / 16 = 4
        · by_cases h15 : x % 16 = 15
          · rw [dec_15 hg h98 hx h15]; exact h0
          · match t, hb with
            | [], _ => rw [dec_short hg h98 hx h15]; exact h0
            | y :: u, hb => rw [dec_1 hg h98 hx h15]; exact fin_U hb.tl.hd
        · rw [dec_0 hg h98 hx]; exact fin_U hb.hd
  · rw [dec_arg (by simpa using hg)]; exact h0

/-- what is read of bytes can be told -/
structure Spk (t : Sp) : Prop where
  k : t.k = 0 ∨ (5 ≤ t.k ∧ t.k ≤ 13)
  r : 0 ≤ t.r ∧ t.r ≤ 15
  i : -1 ≤ t.i ∧ t.i ≤ 15
  x : 0 ≤ t.x ∧ t.x < 4294967296
theorem fin_k {x a z i c : Int} {u : List Int} {t : Sp} (hb : 0 ≤ x ∧ x < 256) (hi : -1 ≤ i ∧ i ≤ 15) (hc : 1 ≤ c) (h : fin x u a z i c = (t, 0)) (hk : t.k ≠ 14) : (t.k = 0 ∨ (5 ≤ t.k ∧ t.k ≤ 13)) ∧ (0 ≤ t.r ∧ t.r ≤ 15) ∧ (-1 ≤ t.i ∧ t.i ≤ 15) ∧ 1 ≤ t.n ∧ t.n ≤ c + u.length := by
  unfold fin at h
  split at h
  · split at h
    · simp at h
    · next h1 h2 =>
      simp only [Prod.mk.injEq, and_true] at h
      subst h
      simp only at hk ⊢
      refine ⟨?_, ?_, hi, by omega, by omega⟩
      · unfold hd at hk ⊢
        (repeat' split) <;> simp_all <;> omega
      · unfold hd
        (repeat' split) <;> simp <;> omega
  · simp only [Prod.mk.injEq, and_true] at h
    subst h
    exact absurd rfl hk
theorem dec_ok {l : List Int} {a z : Int} {t : Sp} (hb : Byt l) (h : dec l a z = (t, 0)) (hk : t.k ≠ 14) : Spk t ∧ 1 ≤ t.n ∧ t.n ≤ l.length := by
  have hU := dec_U (l := l) (a := a) (z := z) hb
  rw [h] at hU
  have hx : 0 ≤ t.x ∧ t.x < 4294967296 := hU
  unfold dec at h
  split at h
  · simp at h
  · next hg =>
    split at h
    · split at h
      · simp at h
      · next h98 hl =>
        have hz := gd_sz (a := a) (z := z) (by simpa using hg)
        have hl' : z.toNat ≤ l.length := by omega
        clear hl
        simp only [Prod.mk.injEq, and_true] at h
        subst h
        refine ⟨⟨.inr (by simp), by simp, by simp, hx⟩, ?_, ?_⟩ <;> simp only <;> rcases hz with h | h | h <;> omega
    · split at h
      · simp at h
      · next x u =>
        have hb0 := hb.hd
        split at h
        · split at h
          · simp only [Prod.mk.injEq, and_true] at h; subst h; exact absurd rfl hk
          · split at h
            · simp at h
            · next y v =>
              obtain ⟨h1, h2, h3, h4, h5⟩ := fin_k hb.tl.hd (by omega) (by omega) h hk
              exact ⟨⟨h1, h2, h3, hx⟩, h4, by simp; omega⟩
        · obtain ⟨h1, h2, h3, h4, h5⟩ := fin_k hb0 (by omega) (by omega) h hk
          exact ⟨⟨h1, h2, h3, hx⟩, h4, by simp; omega⟩

theorem toldF_len {s : Sp} (h : Spk s) (a : Int) : (toldF s a).length ≤ 40 := by
  have h1 := numt_len s.x h.x.1 h.x.2
  have h2 := rnm_len s.r.toNat
  have h3 := rnm_len s.i.toNat
  unfold toldF kindt brk
  (repeat' split) <;> simp <;> omega

/-- the text of operands, behind a text -/
def txtG (ys : List Int) : Tx → Tx → Nat → List (Int × Int) → Tx × Int × Int
  | t, _, at_, [] => (t, at_, 0)
  | t, b, at_, q :: qs =>
    if (dec (ys.drop at_) q.1 q.2).2 = 0 then
      (if (dec (ys.drop at_) q.1 q.2).1.k = 14 then ([], 0, 4)
      else txtG ys (t ++ (b ++ toldF (dec (ys.drop at_) q.1 q.2).1 q.1)) [44, 32] (at_ + (dec (ys.drop at_) q.1 q.2).1.n.toNat) qs)
    else ([], 0, (dec (ys.drop at_) q.1 q.2).2)
/-- what Text answers -/
def txtF (ys : List Int) : Tx × Int × Int := if ys = [] then ([], 0, 3) else if (Ia.prg (ys.getD 0 0)).2 = true then txtG ys (Ia.prg (ys.getD 0 0)).1.name [32] 1 (Ia.prg (ys.getD 0 0)).1.ops else ([], 0, 4)

end Go.Proofs.YtppkpfkoggnbmaaGreatDoor.Cs.Ka

/- The document's text of an operand (layer 12), kind by kind. -/
namespace Go.Proofs.YtppkpfkoggnbmaaGreatDoor.Cs.Ka
open Go.RowKit Es
open Ia (sb cst sb_size sb_get sb_append)
set_option linter.unusedVariables false
set_option linter.unusedSimpArgs false

theorem rnm_dd (i : Nat) (h : i < 16) : rnm i = 82 :: Lib.decDigits i := by
  rw [rnm_dec ⟨i, h⟩]; rfl
theorem dd_len (i : Nat) (h : i < 16) : (Lib.decDigits i).length ≤ 2 := by
  have := rnm_len i
  rw [rnm_dd i h] at this
  simpa using this
theorem idx14_0 : ∀ (a0 a1 a2 a3 a4 a5 a6 a7 a8 a9 a10 a11 a12 a13 : Value) (w : World), (Instr.index 79 (.agg #[a0, a1, a2, a3, a4, a5, a6, a7, a8, a9, a10, a11, a12, a13]) (.int .i64 0)).run Tryz.prog w = .ok a0 w := fun _ _ _ _ _ _ _ _ _ _ _ _ _ _ _ => by kernel_rfl
theorem idx14_12 : ∀ (a0 a1 a2 a3 a4 a5 a6 a7 a8 a9 a10 a11 a12 a13 : Value) (w : World), (Instr.index 79 (.agg #[a0, a1, a2, a3, a4, a5, a6, a7, a8, a9, a10, a11, a12, a13]) (.int .i64 12)).run Tryz.prog w = .ok a12 w := fun _ _ _ _ _ _ _ _ _ _ _ _ _ _ _ => by kernel_rfl
theorem idx14_13 : ∀ (a0 a1 a2 a3 a4 a5 a6 a7 a8 a9 a10 a11 a12 a13 : Value) (w : World), (Instr.index 79 (.agg #[a0, a1, a2, a3, a4, a5, a6, a7, a8, a9, a10, a11, a12, a13]) (.int .i64 13)).run Tryz.prog w = .ok a13 w := fun _ _ _ _ _ _ _ _ _ _ _ _ _ _ _ => by kernel_rfl
theorem idx14_5 : ∀ (a0 a1 a2 a3 a4 a5 a6 a7 a8 a9 a10 a11 a12 a13 : Value) (w : World), (Instr.index 79 (.agg #[a0, a1, a2, a3, a4, a5, a6, a7, a8, a9, a10, a11, a12, a13]) (.int .i64 5)).run Tryz.prog w = .ok a5 w := fun _ _ _ _ _ _ _ _ _ _ _ _ _ _ _ => by kernel_rfl
theorem idx14_6 : ∀ (a0 a1 a2 a3 a4 a5 a6 a7 a8 a9 a10 a11 a12 a13 : Value) (w : World), (Instr.index 79 (.agg #[a0, a1, a2, a3, a4, a5, a6, a7, a8, a9, a10, a11, a12, a13]) (.int .i64 6)).run Tryz.prog w = .ok a6 w := fun _ _ _ _ _ _ _ _ _ _ _ _ _ _ _ => by kernel_rfl
theorem idx14_7 : ∀ (a0 a1 a2 a3 a4 a5 a6 a7 a8 a9 a10 a11 a12 a13 : Value) (w : World), (Instr.index 79 (.agg #[a0, a1, a2, a3, a4, a5, a6, a7, a8, a9, a10, a11, a12, a13]) (.int .i64 7)).run Tryz.prog w = .ok a7 w := fun _ _ _ _ _ _ _ _ _ _ _ _ _ _ _ => by kernel_rfl
theorem idx14_8 : ∀ (a0 a1 a2 a3 a4 a5 a6 a7 a8 a9 a10 a11 a12 a13 : Value) (w : World), (Instr.index 79 (.agg #[a0, a1, a2, a3, a4, a5, a6, a7, a8, a9, a10, a11, a12, a13]) (.int .i64 8)).run Tryz.prog w = .ok a8 w := fun _ _ _ _ _ _ _ _ _ _ _ _ _ _ _ => by kernel_rfl
theorem idx14_9 : ∀ (a0 a1 a2 a3 a4 a5 a6 a7 a8 a9 a10 a11 a12 a13 : Value) (w : World), (Instr.index 79 (.agg #[a0, a1, a2, a3, a4, a5, a6, a7, a8, a9, a10, a11, a12, a13]) (.int .i64 9)).run Tryz.prog w = .ok a9 w := fun _ _ _ _ _ _ _ _ _ _ _ _ _ _ _ => by kernel_rfl
theorem idx14_10 : ∀ (a0 a1 a2 a3 a4 a5 a6 a7 a8 a9 a10 a11 a12 a13 : Value) (w : World), (Instr.index 79 (.agg #[a0, a1, a2, a3, a4, a5, a6, a7, a8, a9, a10, a11, a12, a13]) (.int .i64 10)).run Tryz.prog w = .ok a10 w := fun _ _ _ _ _ _ _ _ _ _ _ _ _ _ _ => by kernel_rfl
theorem idx14_11 : ∀ (a0 a1 a2 a3 a4 a5 a6 a7 a8 a9 a10 a11 a12 a13 : Value) (w : World), (Instr.index 79 (.agg #[a0, a1, a2, a3, a4, a5, a6, a7, a8, a9, a10, a11, a12, a13]) (.int .i64 11)).run Tryz.prog w = .ok a11 w := fun _ _ _ _ _ _ _ _ _ _ _ _ _ _ _ => by kernel_rfl
theorem glue_show_0 (r t : Tx) : sb [35] ++ sb t = sb (35 :: t) := by
  simp only [glue, List.append_assoc, List.cons_append, List.nil_append]
theorem glue2_show_0 (r t : Tx) : sb [35] ++ sb t = sb (35 :: t) := by
  simp only [glue, List.append_assoc, List.cons_append, List.nil_append]
theorem glue_show_0i (r t q : Tx) : (sb [35] ++ sb t) ++ sb [91, 82] ++ sb q ++ sb [93] = sb ((35 :: t) ++ (91 :: ((82 :: q) ++ [93]))) := by
  simp only [glue, List.append_assoc, List.cons_append, List.nil_append]
theorem glue2_show_0i (r t q : Tx) : (sb [35] ++ sb t) ++ (sb [91, 82] ++ sb q ++ sb [93]) = sb ((35 :: t) ++ (91 :: ((82 :: q) ++ [93]))) := by
  simp only [glue, List.append_assoc, List.cons_append, List.nil_append]
theorem glue_show_12 (r t : Tx) : sb [35] ++ sb t = sb (35 :: t) := by
  simp only [glue, List.append_assoc, List.cons_append, List.nil_append]
theorem glue2_show_12 (r t : Tx) : sb [35] ++ sb t = sb (35 :: t) := by
  simp only [glue, List.append_assoc, List.cons_append, List.nil_append]
theorem glue_show_12i (r t q : Tx) : (sb [35] ++ sb t) ++ sb [91, 82] ++ sb q ++ sb [93] = sb ((35 :: t) ++ (91 :: ((82 :: q) ++ [93]))) := by
  simp only [glue, List.append_assoc, List.cons_append, List.nil_append]
theorem glue2_show_12i (r t q : Tx) : (sb [35] ++ sb t) ++ (sb [91, 82] ++ sb q ++ sb [93]) = sb ((35 :: t) ++ (91 :: ((82 :: q) ++ [93]))) := by
  simp only [glue, List.append_assoc, List.cons_append, List.nil_append]
theorem glue_show_13 (r t : Tx) : sb [64, 35] ++ sb t = sb (64 :: 35 :: t) := by
  simp only [glue, List.append_assoc, List.cons_append, List.nil_append]
theorem glue2_show_13 (r t : Tx) : sb [64, 35] ++ sb t = sb (64 :: 35 :: t) := by
  simp only [glue, List.append_assoc, List.cons_append, List.nil_append]
theorem glue_show_13i (r t q : Tx) : (sb [64, 35] ++ sb t) ++ sb [91, 82] ++ sb q ++ sb [93] = sb ((64 :: 35 :: t) ++ (91 :: ((82 :: q) ++ [93]))) := by
  simp only [glue, List.append_assoc, List.cons_append, List.nil_append]
theorem glue2_show_13i (r t q : Tx) : (sb [64, 35] ++ sb t) ++ (sb [91, 82] ++ sb q ++ sb [93]) = sb ((64 :: 35 :: t) ++ (91 :: ((82 :: q) ++ [93]))) := by
  simp only [glue, List.append_assoc, List.cons_append, List.nil_append]
theorem glue_show_5 (r t : Tx) : (sb [82] ++ sb r) = sb (82 :: r) := by
  simp only [glue, List.append_assoc, List.cons_append, List.nil_append]
theorem glue2_show_5 (r t : Tx) : (sb [82] ++ sb r) = sb (82 :: r) := by
  simp only [glue, List.append_assoc, List.cons_append, List.nil_append]
theorem glue_show_5i (r t q : Tx) : ((sb [82] ++ sb r)) ++ sb [91, 82] ++ sb q ++ sb [93] = sb ((82 :: r) ++ (91 :: ((82 :: q) ++ [93]))) := by
  simp only [glue, List.append_assoc, List.cons_append, List.nil_append]
theorem glue2_show_5i (r t q : Tx) : ((sb [82] ++ sb r)) ++ (sb [91, 82] ++ sb q ++ sb [93]) = sb ((82 :: r) ++ (91 :: ((82 :: q) ++ [93]))) := by
  simp only [glue, List.append_assoc, List.cons_append, List.nil_append]
theorem glue_show_6 (r t : Tx) : sb [40] ++ (sb [82] ++ sb r) ++ sb [41] = sb ((40 :: ((82 :: r) ++ [41]))) := by
  simp only [glue, List.append_assoc, List.cons_append, List.nil_append]
theorem glue2_show_6 (r t : Tx) : sb [40] ++ (sb [82] ++ sb r) ++ sb [41] = sb ((40 :: ((82 :: r) ++ [41]))) := by
  simp only [glue, List.append_assoc, List.cons_append, List.nil_append]
theorem glue_show_6i (r t q : Tx) : (sb [40] ++ (sb [82] ++ sb r) ++ sb [41]) ++ sb [91, 82] ++ sb q ++ sb [93] = sb (((40 :: ((82 :: r) ++ [41]))) ++ (91 :: ((82 :: q) ++ [93]))) := by
  simp only [glue, List.append_assoc, List.cons_append, List.nil_append]
theorem glue2_show_6i (r t q : Tx) : (sb [40] ++ (sb [82] ++ sb r) ++ sb [41]) ++ (sb [91, 82] ++ sb q ++ sb [93]) = sb (((40 :: ((82 :: r) ++ [41]))) ++ (91 :: ((82 :: q) ++ [93]))) := by
  simp only [glue, List.append_assoc, List.cons_append, List.nil_append]
theorem glue_show_7 (r t : Tx) : sb [45, 40] ++ (sb [82] ++ sb r) ++ sb [41] = sb (45 :: (40 :: ((82 :: r) ++ [41]))) := by
  simp only [glue, List.append_assoc, List.cons_append, List.nil_append]
theorem glue2_show_7 (r t : Tx) : sb [45, 40] ++ (sb [82] ++ sb r) ++ sb [41] = sb (45 :: (40 :: ((82 :: r) ++ [41]))) := by
  simp only [glue, List.append_assoc, List.cons_append, List.nil_append]
theorem glue_show_7i (r t q : Tx) : (sb [45, 40] ++ (sb [82] ++ sb r) ++ sb [41]) ++ sb [91, 82] ++ sb q ++ sb [93] = sb ((45 :: (40 :: ((82 :: r) ++ [41]))) ++ (91 :: ((82 :: q) ++ [93]))) := by
  simp only [glue, List.append_assoc, List.cons_append, List.nil_append]
theorem glue2_show_7i (r t q : Tx) : (sb [45, 40] ++ (sb [82] ++ sb r) ++ sb [41]) ++ (sb [91, 82] ++ sb q ++ sb [93]) = sb ((45 :: (40 :: ((82 :: r) ++ [41]))) ++ (91 :: ((82 :: q) ++ [93]))) := by
  simp only [glue, List.append_assoc, List.cons_append, List.nil_append]
theorem glue_show_8 (r t : Tx) : sb [40] ++ (sb [82] ++ sb r) ++ sb [41, 43] = sb ((40 :: ((82 :: r) ++ [41])) ++ [43]) := by
  simp only [glue, List.append_assoc, List.cons_append, List.nil_append]
theorem glue2_show_8 (r t : Tx) : sb [40] ++ (sb [82] ++ sb r) ++ sb [41, 43] = sb ((40 :: ((82 :: r) ++ [41])) ++ [43]) := by
  simp only [glue, List.append_assoc, List.cons_append, List.nil_append]
theorem glue_show_8i (r t q : Tx) : (sb [40] ++ (sb [82] ++ sb r) ++ sb [41, 43]) ++ sb [91, 82] ++ sb q ++ sb [93] = sb (((40 :: ((82 :: r) ++ [41])) ++ [43]) ++ (91 :: ((82 :: q) ++ [93]))) := by
  simp only [glue, List.append_assoc, List.cons_append, List.nil_append]
theorem glue2_show_8i (r t q : Tx) : (sb [40] ++ (sb [82] ++ sb r) ++ sb [41, 43]) ++ (sb [91, 82] ++ sb q ++ sb [93]) = sb (((40 :: ((82 :: r) ++ [41])) ++ [43]) ++ (91 :: ((82 :: q) ++ [93]))) := by
  simp only [glue, List.append_assoc, List.cons_append, List.nil_append]
theorem glue_show_9 (r t : Tx) : sb [64, 40] ++ (sb [82] ++ sb r) ++ sb [41, 43] = sb (64 :: ((40 :: ((82 :: r) ++ [41])) ++ [43])) := by
  simp only [glue, List.append_assoc, List.cons_append, List.nil_append]
theorem glue2_show_9 (r t : Tx) : sb [64, 40] ++ (sb [82] ++ sb r) ++ sb [41, 43] = sb (64 :: ((40 :: ((82 :: r) ++ [41])) ++ [43])) := by
  simp only [glue, List.append_assoc, List.cons_append, List.nil_append]
theorem glue_show_9i (r t q : Tx) : (sb [64, 40] ++ (sb [82] ++ sb r) ++ sb [41, 43]) ++ sb [91, 82] ++ sb q ++ sb [93] = sb ((64 :: ((40 :: ((82 :: r) ++ [41])) ++ [43])) ++ (91 :: ((82 :: q) ++ [93]))) := by
  simp only [glue, List.append_assoc, List.cons_append, List.nil_append]
theorem glue2_show_9i (r t q : Tx) : (sb [64, 40] ++ (sb [82] ++ sb r) ++ sb [41, 43]) ++ (sb [91, 82] ++ sb q ++ sb [93]) = sb ((64 :: ((40 :: ((82 :: r) ++ [41])) ++ [43])) ++ (91 :: ((82 :: q) ++ [93]))) := by
  simp only [glue, List.append_assoc, List.cons_append, List.nil_append]
theorem glue_show_10 (r t : Tx) : sb t ++ sb [40] ++ (sb [82] ++ sb r) ++ sb [41] = sb (t ++ (40 :: ((82 :: r) ++ [41]))) := by
  simp only [glue, List.append_assoc, List.cons_append, List.nil_append]
theorem glue2_show_10 (r t : Tx) : sb t ++ sb [40] ++ (sb [82] ++ sb r) ++ sb [41] = sb (t ++ (40 :: ((82 :: r) ++ [41]))) := by
  simp only [glue, List.append_assoc, List.cons_append, List.nil_append]
theorem glue_show_10i (r t q : Tx) : (sb t ++ sb [40] ++ (sb [82] ++ sb r) ++ sb [41]) ++ sb [91, 82] ++ sb q ++ sb [93] = sb ((t ++ (40 :: ((82 :: r) ++ [41]))) ++ (91 :: ((82 :: q) ++ [93]))) := by
  simp only [glue, List.append_assoc, List.cons_append, List.nil_append]
theorem glue2_show_10i (r t q : Tx) : (sb t ++ sb [40] ++ (sb [82] ++ sb r) ++ sb [41]) ++ (sb [91, 82] ++ sb q ++ sb [93]) = sb ((t ++ (40 :: ((82 :: r) ++ [41]))) ++ (91 :: ((82 :: q) ++ [93]))) := by
  simp only [glue, List.append_assoc, List.cons_append, List.nil_append]
theorem glue_show_11 (r t : Tx) : sb [64] ++ sb t ++ sb [40] ++ (sb [82] ++ sb r) ++ sb [41] = sb (64 :: (t ++ (40 :: ((82 :: r) ++ [41])))) := by
  simp only [glue, List.append_assoc, List.cons_append, List.nil_append]
theorem glue2_show_11 (r t : Tx) : sb [64] ++ sb t ++ sb [40] ++ (sb [82] ++ sb r) ++ sb [41] = sb (64 :: (t ++ (40 :: ((82 :: r) ++ [41])))) := by
  simp only [glue, List.append_assoc, List.cons_append, List.nil_append]
theorem glue_show_11i (r t q : Tx) : (sb [64] ++ sb t ++ sb [40] ++ (sb [82] ++ sb r) ++ sb [41]) ++ sb [91, 82] ++ sb q ++ sb [93] = sb ((64 :: (t ++ (40 :: ((82 :: r) ++ [41])))) ++ (91 :: ((82 :: q) ++ [93]))) := by
  simp only [glue, List.append_assoc, List.cons_append, List.nil_append]
theorem glue2_show_11i (r t q : Tx) : (sb [64] ++ sb t ++ sb [40] ++ (sb [82] ++ sb r) ++ sb [41]) ++ (sb [91, 82] ++ sb q ++ sb [93]) = sb ((64 :: (t ++ (40 :: ((82 :: r) ++ [41])))) ++ (91 :: ((82 :: q) ++ [93]))) := by
  simp only [glue, List.append_assoc, List.cons_append, List.nil_append]

set_option maxHeartbeats 6400000 in
set_option maxRecDepth 100000 in
theorem show_0 (g : Nat) (x n a s : Int) (w : World) (hr : g < 16) (hx0 : 0 ≤ x) (hx1 : x < 4294967296) (b98 : (a == 98) = false) (hg : Gt w) :
    Calls Tryz.prog 19 #[(⟨0, g, -1, x, n⟩ : Sp).val, .agg #[.int .u8 a, .int .i64 s]] w fun e w' => e = .returned (.string (sb (toldF ⟨0, g, -1, x, n⟩ a))) ∧ Below w.heap.size w w' := by
  have HI := Lib.hid (fun W h => itoa_sgn x W hx0 hx1 h)
  have ht := numt_len x hx0 hx1
  have HNr := Lib.hid (fun W => itoa_small g (by omega) W)
  have hr' := dd_len g hr
  have HR : Hid (toldF ⟨0, g, -1, x, n⟩ a = toldF ⟨0, g, -1, x, n⟩ 0) := by
    show _ = _
    have h98 : a ≠ 98 := by simpa using b98
    simp [toldF, h98]
  have HV : Hid (toldF ⟨0, g, -1, x, n⟩ 0 = 35 :: numt x) := by
    show _ = _
    unfold toldF kindt brk
    simp [rnm_dd g hr]
  have HW : Hid (Rz 47 [.int .i64 0, .int .i64 g, .int .i64 (-1), .int .u32 x, .int .i64 n] w ((w.alloc (.cells #[.int .i64 0, .int .i64 g, .int .i64 (-1), .int .u32 x, .int .i64 n] 47)).alloc (.cells #[.int .u8 a, .int .i64 s] 45))) := ⟨(Es.Bk.new _ _ _).below (Es.al1 _ _) (Nat.le_refl _), bel2 (Es.al1 _ _) (Es.al1 _ _)⟩
  have HO : Hid (Es.Bk ((w.alloc (.cells #[.int .i64 0, .int .i64 g, .int .i64 (-1), .int .u32 x, .int .i64 n] 47)).alloc (.cells #[.int .u8 a, .int .i64 s] 45)) (w.heap.size + 1) 45 [.int .u8 a, .int .i64 s]) := Lib.hid (by
    have := Es.Bk.new (w.alloc (.cells #[.int .i64 0, .int .i64 g, .int .i64 (-1), .int .u32 x, .int .i64 n] 47)) 45 [.int .u8 a, .int .i64 s]
    simp at this
    exact this)
  have HG := Lib.hid (hg.below HW.out.bel)
  clear hg
  generalize Lib.decDigits g = r at *
  generalize numt x = t at *
  have i14 := idx14_0
  go_enter Tryz.func19, Tryz.ntmps19
  go_wp2_with (first
  | ((go_at_call 32; with_reducible refine (HI.out _ HG.out).mono ?_); rintro e w1 ⟨rfl, hb⟩; have HF := Lib.hid (HW.out.below hb); have HB := Lib.hid (HO.out.below hb (Nat.le_refl _)); clear hb; obtain ⟨y0, y1, y2, y3, y4, yf, yl⟩ := HF.out.res.five; have o0 := HB.out.cell 0 _ rfl)
  | ((go_at_call 32; with_reducible refine (HNr.out _).mono ?_); rintro e w' ⟨rfl, rfl⟩)
  | fail)
  go_ret
  refine ⟨ret_str ?_, HF.out.bel⟩
  rw [HR.out, HV.out]
  first | exact glue_show_0 r t | exact glue2_show_0 r t

set_option maxHeartbeats 6400000 in
set_option maxRecDepth 100000 in
theorem show_0i (g i : Nat) (x n a s : Int) (w : World) (hr : g < 16) (hi : i < 16) (hx0 : 0 ≤ x) (hx1 : x < 4294967296) (b98 : (a == 98) = false) (hg : Gt w) :
    Calls Tryz.prog 19 #[(⟨0, g, i, x, n⟩ : Sp).val, .agg #[.int .u8 a, .int .i64 s]] w fun e w' => e = .returned (.string (sb (toldF ⟨0, g, i, x, n⟩ a))) ∧ Below w.heap.size w w' := by
  have HI := Lib.hid (fun W h => itoa_sgn x W hx0 hx1 h)
  have ht := numt_len x hx0 hx1
  have HNr := Lib.hid (fun W => itoa_small g (by omega) W)
  have hr' := dd_len g hr
  have HNi := Lib.hid (fun W => itoa_small i (by omega) W)
  have hi' := dd_len i hi
  have HR : Hid (toldF ⟨0, g, i, x, n⟩ a = toldF ⟨0, g, i, x, n⟩ 0) := by
    show _ = _
    have h98 : a ≠ 98 := by simpa using b98
    simp [toldF, h98]
  have HV : Hid (toldF ⟨0, g, i, x, n⟩ 0 = (35 :: numt x) ++ (91 :: ((82 :: Lib.decDigits i) ++ [93]))) := by
    show _ = _
    unfold toldF kindt brk
    simp [rnm_dd g hr, rnm_dd i hi, show ¬ ((i : Int) = -1) from by omega]
  have HW : Hid (Rz 47 [.int .i64 0, .int .i64 g, .int .i64 (i), .int .u32 x, .int .i64 n] w ((w.alloc (.cells #[.int .i64 0, .int .i64 g, .int .i64 (i), .int .u32 x, .int .i64 n] 47)).alloc (.cells #[.int .u8 a, .int .i64 s] 45))) := ⟨(Es.Bk.new _ _ _).below (Es.al1 _ _) (Nat.le_refl _), bel2 (Es.al1 _ _) (Es.al1 _ _)⟩
  have HO : Hid (Es.Bk ((w.alloc (.cells #[.int .i64 0, .int .i64 g, .int .i64 (i), .int .u32 x, .int .i64 n] 47)).alloc (.cells #[.int .u8 a, .int .i64 s] 45)) (w.heap.size + 1) 45 [.int .u8 a, .int .i64 s]) := Lib.hid (by
    have := Es.Bk.new (w.alloc (.cells #[.int .i64 0, .int .i64 g, .int .i64 (i), .int .u32 x, .int .i64 n] 47)) 45 [.int .u8 a, .int .i64 s]
    simp at this
    exact this)
  have HG := Lib.hid (hg.below HW.out.bel)
  clear hg
  generalize Lib.decDigits g = r at *
  have ni : (0 : Int) ≤ i := by omega
  generalize Lib.decDigits i = q at *
  generalize numt x = t at *
  have i14 := idx14_0
  go_enter Tryz.func19, Tryz.ntmps19
  go_wp2_with (first
  | ((go_at_call 32; with_reducible refine (HI.out _ HG.out).mono ?_); rintro e w1 ⟨rfl, hb⟩; have HF := Lib.hid (HW.out.below hb); have HB := Lib.hid (HO.out.below hb (Nat.le_refl _)); clear hb; obtain ⟨y0, y1, y2, y3, y4, yf, yl⟩ := HF.out.res.five; have o0 := HB.out.cell 0 _ rfl)
  | ((go_at_call 32; with_reducible refine (HNr.out _).mono ?_); rintro e w' ⟨rfl, rfl⟩)
  | ((go_at_call 32; with_reducible refine (HNi.out _).mono ?_); rintro e w' ⟨rfl, rfl⟩)
  | fail)
  go_ret
  refine ⟨ret_str ?_, HF.out.bel⟩
  rw [HR.out, HV.out]
  first | exact glue_show_0i r t q | exact glue2_show_0i r t q

set_option maxHeartbeats 6400000 in
set_option maxRecDepth 100000 in
theorem show_12 (g : Nat) (x n a s : Int) (w : World) (hr : g < 16) (hx0 : 0 ≤ x) (hx1 : x < 4294967296) (b98 : (a == 98) = false) (hg : Gt w) :
    Calls Tryz.prog 19 #[(⟨12, g, -1, x, n⟩ : Sp).val, .agg #[.int .u8 a, .int .i64 s]] w fun e w' => e = .returned (.string (sb (toldF ⟨12, g, -1, x, n⟩ a))) ∧ Below w.heap.size w w' := by
  have HI := Lib.hid (fun W h => itoa_sgn x W hx0 hx1 h)
  have ht := numt_len x hx0 hx1
  have HNr := Lib.hid (fun W => itoa_small g (by omega) W)
  have hr' := dd_len g hr
  have HR : Hid (toldF ⟨12, g, -1, x, n⟩ a = toldF ⟨12, g, -1, x, n⟩ 0) := by
    show _ = _
    have h98 : a ≠ 98 := by simpa using b98
    simp [toldF, h98]
  have HV : Hid (toldF ⟨12, g, -1, x, n⟩ 0 = 35 :: numt x) := by
    show _ = _
    unfold toldF kindt brk
    simp [rnm_dd g hr]
  have HW : Hid (Rz 47 [.int .i64 12, .int .i64 g, .int .i64 (-1), .int .u32 x, .int .i64 n] w ((w.alloc (.cells #[.int .i64 12, .int .i64 g, .int .i64 (-1), .int .u32 x, .int .i64 n] 47)).alloc (.cells #[.int .u8 a, .int .i64 s] 45))) := ⟨(Es.Bk.new _ _ _).below (Es.al1 _ _) (Nat.le_refl _), bel2 (Es.al1 _ _) (Es.al1 _ _)⟩
  have HO : Hid (Es.Bk ((w.alloc (.cells #[.int .i64 12, .int .i64 g, .int .i64 (-1), .int .u32 x, .int .i64 n] 47)).alloc (.cells #[.int .u8 a, .int .i64 s] 45)) (w.heap.size + 1) 45 [.int .u8 a, .int .i64 s]) := Lib.hid (by
    have := Es.Bk.new (w.alloc (.cells #[.int .i64 12, .int .i64 g, .int .i64 (-1), .int .u32 x, .int .i64 n] 47)) 45 [.int .u8 a, .int .i64 s]
    simp at this
    exact this)
  have HG := Lib.hid (hg.below HW.out.bel)
  clear hg
  generalize Lib.decDigits g = r at *
  generalize numt x = t at *
  have i14 := idx14_12
  go_enter Tryz.func19, Tryz.ntmps19
  go_wp2_with (first
  | ((go_at_call 32; with_reducible refine (HI.out _ HG.out).mono ?_); rintro e w1 ⟨rfl, hb⟩; have HF := Lib.hid (HW.out.below hb); have HB := Lib.hid (HO.out.below hb (Nat.le_refl _)); clear hb; obtain ⟨y0, y1, y2, y3, y4, yf, yl⟩ := HF.out.res.five; have o0 := HB.out.cell 0 _ rfl)
  | ((go_at_call 32; with_reducible refine (HNr.out _).mono ?_); rintro e w' ⟨rfl, rfl⟩)
  | fail)
  go_ret
  refine ⟨ret_str ?_, HF.out.bel⟩
  rw [HR.out, HV.out]
  first | exact glue_show_12 r t | exact glue2_show_12 r t

set_option maxHeartbeats 6400000 in
set_option maxRecDepth 100000 in
theorem show_12i (g i : Nat) (x n a s : Int) (w : World) (hr : g < 16) (hi : i < 16) (hx0 : 0 ≤ x) (hx1 : x < 4294967296) (b98 : (a == 98) = false) (hg : Gt w) :
    Calls Tryz.prog 19 #[(⟨12, g, i, x, n⟩ : Sp).val, .agg #[.int .u8 a, .int .i64 s]] w fun e w' => e = .returned (.string (sb (toldF ⟨12, g, i, x, n⟩ a))) ∧ Below w.heap.size w w' := by
  have HI := Lib.hid (fun W h => itoa_sgn x W hx0 hx1 h)
  have ht := numt_len x hx0 hx1
  have HNr := Lib.hid (fun W => itoa_small g (by omega) W)
  have hr' := dd_len g hr
  have HNi := Lib.hid (fun W => itoa_small i (by omega) W)
  have hi' := dd_len i hi
  have HR : Hid (toldF ⟨12, g, i, x, n⟩ a = toldF ⟨12, g, i, x, n⟩ 0) := by
    show _ = _
    have h98 : a ≠ 98 := by simpa using b98
    simp [toldF, h98]
  have HV : Hid (toldF ⟨12, g, i, x, n⟩ 0 = (35 :: numt x) ++ (91 :: ((82 :: Lib.decDigits i) ++ [93]))) := by
    show _ = _
    unfold toldF kindt brk
    simp [rnm_dd g hr, rnm_dd i hi, show ¬ ((i : Int) = -1) from by omega]
  have HW : Hid (Rz 47 [.int .i64 12, .int .i64 g, .int .i64 (i), .int .u32 x, .int .i64 n] w ((w.alloc (.cells #[.int .i64 12, .int .i64 g, .int .i64 (i), .int .u32 x, .int .i64 n] 47)).alloc (.cells #[.int .u8 a, .int .i64 s] 45))) := ⟨(Es.Bk.new _ _ _).below (Es.al1 _ _) (Nat.le_refl _), bel2 (Es.al1 _ _) (Es.al1 _ _)⟩
  have HO : Hid (Es.Bk ((w.alloc (.cells #[.int .i64 12, .int .i64 g, .int .i64 (i), .int .u32 x, .int .i64 n] 47)).alloc (.cells #[.int .u8 a, .int .i64 s] 45)) (w.heap.size + 1) 45 [.int .u8 a, .int .i64 s]) := Lib.hid (by
    have := Es.Bk.new (w.alloc (.cells #[.int .i64 12, .int .i64 g, .int .i64 (i), .int .u32 x, .int .i64 n] 47)) 45 [.int .u8 a, .int .i64 s]
    simp at this
    exact this)
  have HG := Lib.hid (hg.below HW.out.bel)
  clear hg
  generalize Lib.decDigits g = r at *
  have ni : (0 : Int) ≤ i := by omega
  generalize Lib.decDigits i = q at *
  generalize numt x = t at *
  have i14 := idx14_12
  go_enter Tryz.func19, Tryz.ntmps19
  go_wp2_with (first
  | ((go_at_call 32; with_reducible refine (HI.out _ HG.out).mono ?_); rintro e w1 ⟨rfl, hb⟩; have HF := Lib.hid (HW.out.below hb); have HB := Lib.hid (HO.out.below hb (Nat.le_refl _)); clear hb; obtain ⟨y0, y1, y2, y3, y4, yf, yl⟩ := HF.out.res.five; have o0 := HB.out.cell 0 _ rfl)
  | ((go_at_call 32; with_reducible refine (HNr.out _).mono ?_); rintro e w' ⟨rfl, rfl⟩)
  | ((go_at_call 32; with_reducible refine (HNi.out _).mono ?_); rintro e w' ⟨rfl, rfl⟩)
  | fail)
  go_ret
  refine ⟨ret_str ?_, HF.out.bel⟩
  rw [HR.out, HV.out]
  first | exact glue_show_12i r t q | exact glue2_show_12i r t q

set_option maxHeartbeats 6400000 in
set_option maxRecDepth 100000 in
theorem show_13 (g : Nat) (x n a s : Int) (w : World) (hr : g < 16) (hx0 : 0 ≤ x) (hx1 : x < 4294967296) (b98 : (a == 98) = false) (hg : Gt w) :
    Calls Tryz.prog 19 #[(⟨13, g, -1, x, n⟩ : Sp).val, .agg #[.int .u8 a, .int .i64 s]] w fun e w' => e = .returned (.string (sb (toldF ⟨13, g, -1, x, n⟩ a))) ∧ Below w.heap.size w w' := by
  have HI := Lib.hid (fun W h => itoa_sgn x W hx0 hx1 h)
  have ht := numt_len x hx0 hx1
  have HNr := Lib.hid (fun W => itoa_small g (by omega) W)
  have hr' := dd_len g hr
  have HR : Hid (toldF ⟨13, g, -1, x, n⟩ a = toldF ⟨13, g, -1, x, n⟩ 0) := by
    show _ = _
    have h98 : a ≠ 98 := by simpa using b98
    simp [toldF, h98]
  have HV : Hid (toldF ⟨13, g, -1, x, n⟩ 0 = 64 :: 35 :: numt x) := by
    show _ = _
    unfold toldF kindt brk
    simp [rnm_dd g hr]
  have HW : Hid (Rz 47 [.int .i64 13, .int .i64 g, .int .i64 (-1), .int .u32 x, .int .i64 n] w ((w.alloc (.cells #[.int .i64 13, .int .i64 g, .int .i64 (-1), .int .u32 x, .int .i64 n] 47)).alloc (.cells #[.int .u8 a, .int .i64 s] 45))) := ⟨(Es.Bk.new _ _ _).below (Es.al1 _ _) (Nat.le_refl _), bel2 (Es.al1 _ _) (Es.al1 _ _)⟩
  have HO : Hid (Es.Bk ((w.alloc (.cells #[.int .i64 13, .int .i64 g, .int .i64 (-1), .int .u32 x, .int .i64 n] 47)).alloc (.cells #[.int .u8 a, .int .i64 s] 45)) (w.heap.size + 1) 45 [.int .u8 a, .int .i64 s]) := Lib.hid (by
    have := Es.Bk.new (w.alloc (.cells #[.int .i64 13, .int .i64 g, .int .i64 (-1), .int .u32 x, .int .i64 n] 47)) 45 [.int .u8 a, .int .i64 s]
    simp at this
    exact this)
  have HG := Lib.hid (hg.below HW.out.bel)
  clear hg
  generalize Lib.decDigits g = r at *
  generalize numt x = t at *
  have i14 := idx14_13
  go_enter Tryz.func19, Tryz.ntmps19
  go_wp2_with (first
  | ((go_at_call 32; with_reducible refine (HI.out _ HG.out).mono ?_); rintro e w1 ⟨rfl, hb⟩; have HF := Lib.hid (HW.out.below hb); have HB := Lib.hid (HO.out.below hb (Nat.le_refl _)); clear hb; obtain ⟨y0, y1, y2, y3, y4, yf, yl⟩ := HF.out.res.five; have o0 := HB.out.cell 0 _ rfl)
  | ((go_at_call 32; with_reducible refine (HNr.out _).mono ?_); rintro e w' ⟨rfl, rfl⟩)
  | fail)
  go_ret
  refine ⟨ret_str ?_, HF.out.bel⟩
  rw [HR.out, HV.out]
  first | exact glue_show_13 r t | exact glue2_show_13 r t

set_option maxHeartbeats 6400000 in
set_option maxRecDepth 100000 in
theorem show_13i (g i : Nat) (x n a s : Int) (w : World) (hr : g < 16) (hi : i < 16) (hx0 : 0 ≤ x) (hx1 : x < 4294967296) (b98 : (a == 98) = false) (hg : Gt w) :
    Calls Tryz.prog 19 #[(⟨13, g, i, x, n⟩ : Sp).val, .agg #[.int .u8 a, .int .i64 s]] w fun e w' => e = .returned (.string (sb (toldF ⟨13, g, i, x, n⟩ a))) ∧ Below w.heap.size w w' := by
  have HI := Lib.hid (fun W h => itoa_sgn x W hx0 hx1 h)
  have ht := numt_len x hx0 hx1
  have HNr := Lib.hid (fun W => itoa_small g (by omega) W)
  have hr' := dd_len g hr
  have HNi := Lib.hid (fun W => itoa_small i (by omega) W)
  have hi' := dd_len i hi
  have HR : Hid (toldF ⟨13, g, i, x, n⟩ a = toldF ⟨13, g, i, x, n⟩ 0) := by
    show _ = _
    have h98 : a ≠ 98 := by simpa using b98
    simp [toldF, h98]
  have HV : Hid (toldF ⟨13, g, i, x, n⟩ 0 = (64 :: 35 :: numt x) ++ (91 :: ((82 :: Lib.decDigits i) ++ [93]))) := by
    show _ = _
    unfold toldF kindt brk
    simp [rnm_dd g hr, rnm_dd i hi, show ¬ ((i : Int) = -1) from by omega]
  have HW : Hid (Rz 47 [.int .i64 13, .int .i64 g, .int .i64 (i), .int .u32 x, .int .i64 n] w ((w.alloc (.cells #[.int .i64 13, .int .i64 g, .int .i64 (i), .int .u32 x, .int .i64 n] 47)).alloc (.cells #[.int .u8 a, .int .i64 s] 45))) := ⟨(Es.Bk.new _ _ _).below (Es.al1 _ _) (Nat.le_refl _), bel2 (Es.al1 _ _) (Es.al1 _ _)⟩
  have HO : Hid (Es.Bk ((w.alloc (.cells #[.int .i64 13, .int .i64 g, .int .i64 (i), .int .u32 x, .int .i64 n] 47)).alloc (.cells #[.int .u8 a, .int .i64 s] 45)) (w.heap.size + 1) 45 [.int .u8 a, .int .i64 s]) := Lib.hid (by
    have := Es.Bk.new (w.alloc (.cells #[.int .i64 13, .int .i64 g, .int .i64 (i), .int .u32 x, .int .i64 n] 47)) 45 [.int .u8 a, .int .i64 s]
    simp at this
    exact this)
  have HG := Lib.hid (hg.below HW.out.bel)
  clear hg
  generalize Lib.decDigits g = r at *
  have ni : (0 : Int) ≤ i := by omega
  generalize Lib.decDigits i = q at *
  generalize numt x = t at *
  have i14 := idx14_13
  go_enter Tryz.func19, Tryz.ntmps19
  go_wp2_with (first
  | ((go_at_call 32; with_reducible refine (HI.out _ HG.out).mono ?_); rintro e w1 ⟨rfl, hb⟩; have HF := Lib.hid (HW.out.below hb); have HB := Lib.hid (HO.out.below hb (Nat.le_refl _)); clear hb; obtain ⟨y0, y1, y2, y3, y4, yf, yl⟩ := HF.out.res.five; have o0 := HB.out.cell 0 _ rfl)
  | ((go_at_call 32; with_reducible refine (HNr.out _).mono ?_); rintro e w' ⟨rfl, rfl⟩)
  | ((go_at_call 32; with_reducible refine (HNi.out _).mono ?_); rintro e w' ⟨rfl, rfl⟩)
  | fail)
  go_ret
  refine ⟨ret_str ?_, HF.out.bel⟩
  rw [HR.out, HV.out]
  first | exact glue_show_13i r t q | exact glue2_show_13i r t q

set_option maxHeartbeats 6400000 in
set_option maxRecDepth 100000 in
theorem show_5 (g : Nat) (x n a s : Int) (w : World) (hr : g < 16) (hx0 : 0 ≤ x) (hx1 : x < 4294967296) (b98 : (a == 98) = false) (hg : Gt w) :
    Calls Tryz.prog 19 #[(⟨5, g, -1, x, n⟩ : Sp).val, .agg #[.int .u8 a, .int .i64 s]] w fun e w' => e = .returned (.string (sb (toldF ⟨5, g, -1, x, n⟩ a))) ∧ Below w.heap.size w w' := by
  have HI := Lib.hid (fun W h => itoa_sgn x W hx0 hx1 h)
  have ht := numt_len x hx0 hx1
  have HNr := Lib.hid (fun W => itoa_small g (by omega) W)
  have hr' := dd_len g hr
  have HR : Hid (toldF ⟨5, g, -1, x, n⟩ a = toldF ⟨5, g, -1, x, n⟩ 0) := by
    show _ = _
    have h98 : a ≠ 98 := by simpa using b98
    simp [toldF, h98]
  have HV : Hid (toldF ⟨5, g, -1, x, n⟩ 0 = 82 :: Lib.decDigits g) := by
    show _ = _
    unfold toldF kindt brk
    simp [rnm_dd g hr]
  have HW : Hid (Rz 47 [.int .i64 5, .int .i64 g, .int .i64 (-1), .int .u32 x, .int .i64 n] w ((w.alloc (.cells #[.int .i64 5, .int .i64 g, .int .i64 (-1), .int .u32 x, .int .i64 n] 47)).alloc (.cells #[.int .u8 a, .int .i64 s] 45))) := ⟨(Es.Bk.new _ _ _).below (Es.al1 _ _) (Nat.le_refl _), bel2 (Es.al1 _ _) (Es.al1 _ _)⟩
  have HO : Hid (Es.Bk ((w.alloc (.cells #[.int .i64 5, .int .i64 g, .int .i64 (-1), .int .u32 x, .int .i64 n] 47)).alloc (.cells #[.int .u8 a, .int .i64 s] 45)) (w.heap.size + 1) 45 [.int .u8 a, .int .i64 s]) := Lib.hid (by
    have := Es.Bk.new (w.alloc (.cells #[.int .i64 5, .int .i64 g, .int .i64 (-1), .int .u32 x, .int .i64 n] 47)) 45 [.int .u8 a, .int .i64 s]
    simp at this
    exact this)
  have HG := Lib.hid (hg.below HW.out.bel)
  clear hg
  generalize Lib.decDigits g = r at *
  generalize numt x = t at *
  have i14 := idx14_5
  go_enter Tryz.func19, Tryz.ntmps19
  go_wp2_with (first
  | ((go_at_call 32; with_reducible refine (HI.out _ HG.out).mono ?_); rintro e w1 ⟨rfl, hb⟩; have HF := Lib.hid (HW.out.below hb); have HB := Lib.hid (HO.out.below hb (Nat.le_refl _)); clear hb; obtain ⟨y0, y1, y2, y3, y4, yf, yl⟩ := HF.out.res.five; have o0 := HB.out.cell 0 _ rfl)
  | ((go_at_call 32; with_reducible refine (HNr.out _).mono ?_); rintro e w' ⟨rfl, rfl⟩)
  | fail)
  go_ret
  refine ⟨ret_str ?_, HF.out.bel⟩
  rw [HR.out, HV.out]
  first | exact glue_show_5 r t | exact glue2_show_5 r t

set_option maxHeartbeats 6400000 in
set_option maxRecDepth 100000 in
theorem show_5i (g i : Nat) (x n a s : Int) (w : World) (hr : g < 16) (hi : i < 16) (hx0 : 0 ≤ x) (hx1 : x < 4294967296) (b98 : (a == 98) = false) (hg : Gt w) :
    Calls Tryz.prog 19 #[(⟨5, g, i, x, n⟩ : Sp).val, .agg #[.int .u8 a, .int .i64 s]] w fun e w' => e = .returned (.string (sb (toldF ⟨5, g, i, x, n⟩ a))) ∧ Below w.heap.size w w' := by
  have HI := Lib.hid (fun W h => itoa_sgn x W hx0 hx1 h)
  have ht := numt_len x hx0 hx1
  have HNr := Lib.hid (fun W => itoa_small g (by omega) W)
  have hr' := dd_len g hr
  have HNi := Lib.hid (fun W => itoa_small i (by omega) W)
  have hi' := dd_len i hi
  have HR : Hid (toldF ⟨5, g, i, x, n⟩ a = toldF ⟨5, g, i, x, n⟩ 0) := by
    show _ = _
    have h98 : a ≠ 98 := by simpa using b98
    simp [toldF, h98]
  have HV : Hid (toldF ⟨5, g, i, x, n⟩ 0 = (82 :: Lib.decDigits g) ++ (91 :: ((82 :: Lib.decDigits i) ++ [93]))) := by
    show _ = _
    unfold toldF kindt brk
    simp [rnm_dd g hr, rnm_dd i hi, show ¬ ((i : Int) = -1) from by omega]
  have HW : Hid (Rz 47 [.int .i64 5, .int .i64 g, .int .i64 (i), .int .u32 x, .int .i64 n] w ((w.alloc (.cells #[.int .i64 5, .int .i64 g, .int .i64 (i), .int .u32 x, .int .i64 n] 47)).alloc (.cells #[.int .u8 a, .int .i64 s] 45))) := ⟨(Es.Bk.new _ _ _).below (Es.al1 _ _) (Nat.le_refl _), bel2 (Es.al1 _ _) (Es.al1 _ _)⟩
  have HO : Hid (Es.Bk ((w.alloc (.cells #[.int .i64 5, .int .i64 g, .int .i64 (i), .int .u32 x, .int .i64 n] 47)).alloc (.cells #[.int .u8 a, .int .i64 s] 45)) (w.heap.size + 1) 45 [.int .u8 a, .int .i64 s]) := Lib.hid (by
    have := Es.Bk.new (w.alloc (.cells #[.int .i64 5, .int .i64 g, .int .i64 (i), .int .u32 x, .int .i64 n] 47)) 45 [.int .u8 a, .int .i64 s]
    simp at this
    exact this)
  have HG := Lib.hid (hg.below HW.out.bel)
  clear hg
  generalize Lib.decDigits g = r at *
  have ni : (0 : Int) ≤ i := by omega
  generalize Lib.decDigits i = q at *
  generalize numt x = t at *
  have i14 := idx14_5
  go_enter Tryz.func19, Tryz.ntmps19
  go_wp2_with (first
  | ((go_at_call 32; with_reducible refine (HI.out _ HG.out).mono ?_); rintro e w1 ⟨rfl, hb⟩; have HF := Lib.hid (HW.out.below hb); have HB := Lib.hid (HO.out.below hb (Nat.le_refl _)); clear hb; obtain ⟨y0, y1, y2, y3, y4, yf, yl⟩ := HF.out.res.five; have o0 := HB.out.cell 0 _ rfl)
  | ((go_at_call 32; with_reducible refine (HNr.out _).mono ?_); rintro e w' ⟨rfl, rfl⟩)
  | ((go_at_call 32; with_reducible refine (HNi.out _).mono ?_); rintro e w' ⟨rfl, rfl⟩)
  | fail)
  go_ret
  refine ⟨ret_str ?_, HF.out.bel⟩
  rw [HR.out, HV.out]
  first | exact glue_show_5i r t q | exact glue2_show_5i r t q

set_option maxHeartbeats 6400000 in
set_option maxRecDepth 100000 in
theorem show_6 (g : Nat) (x n a s : Int) (w : World) (hr : g < 16) (hx0 : 0 ≤ x) (hx1 : x < 4294967296) (b98 : (a == 98) = false) (hg : Gt w) :
    Calls Tryz.prog 19 #[(⟨6, g, -1, x, n⟩ : Sp).val, .agg #[.int .u8 a, .int .i64 s]] w fun e w' => e = .returned (.string (sb (toldF ⟨6, g, -1, x, n⟩ a))) ∧ Below w.heap.size w w' := by
  have HI := Lib.hid (fun W h => itoa_sgn x W hx0 hx1 h)
  have ht := numt_len x hx0 hx1
  have HNr := Lib.hid (fun W => itoa_small g (by omega) W)
  have hr' := dd_len g hr
  have HR : Hid (toldF ⟨6, g, -1, x, n⟩ a = toldF ⟨6, g, -1, x, n⟩ 0) := by
    show _ = _
    have h98 : a ≠ 98 := by simpa using b98
    simp [toldF, h98]
  have HV : Hid (toldF ⟨6, g, -1, x, n⟩ 0 = (40 :: ((82 :: Lib.decDigits g) ++ [41]))) := by
    show _ = _
    unfold toldF kindt brk
    simp [rnm_dd g hr]
  have HW : Hid (Rz 47 [.int .i64 6, .int .i64 g, .int .i64 (-1), .int .u32 x, .int .i64 n] w ((w.alloc (.cells #[.int .i64 6, .int .i64 g, .int .i64 (-1), .int .u32 x, .int .i64 n] 47)).alloc (.cells #[.int .u8 a, .int .i64 s] 45))) := ⟨(Es.Bk.new _ _ _).below (Es.al1 _ _) (Nat.le_refl _), bel2 (Es.al1 _ _) (Es.al1 _ _)⟩
  have HO : Hid (Es.Bk ((w.alloc (.cells #[.int .i64 6, .int .i64 g, .int .i64 (-1), .int .u32 x, .int .i64 n] 47)).alloc (.cells #[.int .u8 a, .int .i64 s] 45)) (w.heap.size + 1) 45 [.int .u8 a, .int .i64 s]) := Lib.hid (by
    have := Es.Bk.new (w.alloc (.cells #[.int .i64 6, .int .i64 g, .int .i64 (-1), .int .u32 x, .int .i64 n] 47)) 45 [.int .u8 a, .int .i64 s]
    simp at this
    exact this)
  have HG := Lib.hid (hg.below HW.out.bel)
  clear hg
  generalize Lib.decDigits g = r at *
  generalize numt x = t at *
  have i14 := idx14_6
  go_enter Tryz.func19, Tryz.ntmps19
  go_wp2_with (first
  | ((go_at_call 32; with_reducible refine (HI.out _ HG.out).mono ?_); rintro e w1 ⟨rfl, hb⟩; have HF := Lib.hid (HW.out.below hb); have HB := Lib.hid (HO.out.below hb (Nat.le_refl _)); clear hb; obtain ⟨y0, y1, y2, y3, y4, yf, yl⟩ := HF.out.res.five; have o0 := HB.out.cell 0 _ rfl)
  | ((go_at_call 32; with_reducible refine (HNr.out _).mono ?_); rintro e w' ⟨rfl, rfl⟩)
  | fail)
  go_ret
  refine ⟨ret_str ?_, HF.out.bel⟩
  rw [HR.out, HV.out]
  first | exact glue_show_6 r t | exact glue2_show_6 r t

set_option maxHeartbeats 6400000 in
set_option maxRecDepth 100000 in
theorem show_6i (g i : Nat) (x n a s : Int) (w : World) (hr : g < 16) (hi : i < 16) (hx0 : 0 ≤ x) (hx1 : x < 4294967296) (b98 : (a == 98) = false) (hg : Gt w) :
    Calls Tryz.prog 19 #[(⟨6, g, i, x, n⟩ : Sp).val, .agg #[.int .u8 a, .int .i64 s]] w fun e w' => e = .returned (.string (sb (toldF ⟨6, g, i, x, n⟩ a))) ∧ Below w.heap.size w w' := by
  have HI := Lib.hid (fun W h => itoa_sgn x W hx0 hx1 h)
  have ht := numt_len x hx0 hx1
  have HNr := Lib.hid (fun W => itoa_small g (by omega) W)
  have hr' := dd_len g hr
  have HNi := Lib.hid (fun W => itoa_small i (by omega) W)
  have hi' := dd_len i hi
  have HR : Hid (toldF ⟨6, g, i, x, n⟩ a = toldF ⟨6, g, i, x, n⟩ 0) := by
    show _ = _
    have h98 : a ≠ 98 := by simpa using b98
    simp [toldF, h98]
  have HV : Hid (toldF ⟨6, g, i, x, n⟩ 0 = ((40 :: ((82 :: Lib.decDigits g) ++ [41]))) ++ (91 :: ((82 :: Lib.decDigits i) ++ [93]))) := by
    show _ = _
    unfold toldF kindt brk
    simp [rnm_dd g hr, rnm_dd i hi, show ¬ ((i : Int) = -1) from by omega]
  have HW : Hid (Rz 47 [.int .i64 6, .int .i64 g, .int .i64 (i), .int .u32 x, .int .i64 n] w ((w.alloc (.cells #[.int .i64 6, .int .i64 g, .int .i64 (i), .int .u32 x, .int .i64 n] 47)).alloc (.cells #[.int .u8 a, .int .i64 s] 45))) := ⟨(Es.Bk.new _ _ _).below (Es.al1 _ _) (Nat.le_refl _), bel2 (Es.al1 _ _) (Es.al1 _ _)⟩
  have HO : Hid (Es.Bk ((w.alloc (.cells #[.int .i64 6, .int .i64 g, .int .i64 (i), .int .u32 x, .int .i64 n] 47)).alloc (.cells #[.int .u8 a, .int .i64 s] 45)) (w.heap.size + 1) 45 [.int .u8 a, .int .i64 s]) := Lib.hid (by
    have := Es.Bk.new (w.alloc (.cells #[.int .i64 6, .int .i64 g, .int .i64 (i), .int .u32 x, .int .i64 n] 47)) 45 [.int .u8 a, .int .i64 s]
    simp at this
    exact this)
  have HG := Lib.hid (hg.below HW.out.bel)
  clear hg
  generalize Lib.decDigits g = r at *
  have ni : (0 : Int) ≤ i := by omega
  generalize Lib.decDigits i = q at *
  generalize numt x = t at *
  have i14 := idx14_6
  go_enter Tryz.func19, Tryz.ntmps19
  go_wp2_with (first
  | ((go_at_call 32; with_reducible refine (HI.out _ HG.out).mono ?_); rintro e w1 ⟨rfl, hb⟩; have HF := Lib.hid (HW.out.below hb); have HB := Lib.hid (HO.out.below hb (Nat.le_refl _)); clear hb; obtain ⟨y0, y1, y2, y3, y4, yf, yl⟩ := HF.out.res.five; have o0 := HB.out.cell 0 _ rfl)
  | ((go_at_call 32; with_reducible refine (HNr.out _).mono ?_); rintro e w' ⟨rfl, rfl⟩)
  | ((go_at_call 32; with_reducible refine (HNi.out _).mono ?_); rintro e w' ⟨rfl, rfl⟩)
  | fail)
  go_ret
  refine ⟨ret_str ?_, HF.out.bel⟩
  rw [HR.out, HV.out]
  first | exact glue_show_6i r t q | exact glue2_show_6i r t q

set_option maxHeartbeats 6400000 in
set_option maxRecDepth 100000 in
theorem show_7 (g : Nat) (x n a s : Int) (w : World) (hr : g < 16) (hx0 : 0 ≤ x) (hx1 : x < 4294967296) (b98 : (a == 98) = false) (hg : Gt w) :
    Calls Tryz.prog 19 #[(⟨7, g, -1, x, n⟩ : Sp).val, .agg #[.int .u8 a, .int .i64 s]] w fun e w' => e = .returned (.string (sb (toldF ⟨7, g, -1, x, n⟩ a))) ∧ Below w.heap.size w w' := by
  have HI := Lib.hid (fun W h => itoa_sgn x W hx0 hx1 h)
  have ht := numt_len x hx0 hx1
  have HNr := Lib.hid (fun W => itoa_small g (by omega) W)
  have hr' := dd_len g hr
  have HR : Hid (toldF ⟨7, g, -1, x, n⟩ a = toldF ⟨7, g, -1, x, n⟩ 0) := by
    show _ = _
    have h98 : a ≠ 98 := by simpa using b98
    simp [toldF, h98]
  have HV : Hid (toldF ⟨7, g, -1, x, n⟩ 0 = 45 :: (40 :: ((82 :: Lib.decDigits g) ++ [41]))) := by
    show _ = _
    unfold toldF kindt brk
    simp [rnm_dd g hr]
  have HW : Hid (Rz 47 [.int .i64 7, .int .i64 g, .int .i64 (-1), .int .u32 x, .int .i64 n] w ((w.alloc (.cells #[.int .i64 7, .int .i64 g, .int .i64 (-1), .int .u32 x, .int .i64 n] 47)).alloc (.cells #[.int .u8 a, .int .i64 s] 45))) := ⟨(Es.Bk.new _ _ _).below (Es.al1 _ _) (Nat.le_refl _), bel2 (Es.al1 _ _) (Es.al1 _ _)⟩
  have HO : Hid (Es.Bk ((w.alloc (.cells #[.int .i64 7, .int .i64 g, .int .i64 (-1), .int .u32 x, .int .i64 n] 47)).alloc (.cells #[.int .u8 a, .int .i64 s] 45)) (w.heap.size + 1) 45 [.int .u8 a, .int .i64 s]) := Lib.hid (by
    have := Es.Bk.new (w.alloc (.cells #[.int .i64 7, .int .i64 g, .int .i64 (-1), .int .u32 x, .int .i64 n] 47)) 45 [.int .u8 a, .int .i64 s]
    simp at this
    exact this)
  have HG := Lib.hid (hg.below HW.out.bel)
  clear hg
  generalize Lib.decDigits g = r at *
  generalize numt x = t at *
  have i14 := idx14_7
  go_enter Tryz.func19, Tryz.ntmps19
  go_wp2_with (first
  | ((go_at_call 32; with_reducible refine (HI.out _ HG.out).mono ?_); rintro e w1 ⟨rfl, hb⟩; have HF := Lib.hid (HW.out.below hb); have HB := Lib.hid (HO.out.below hb (Nat.le_refl _)); clear hb; obtain ⟨y0, y1, y2, y3, y4, yf, yl⟩ := HF.out.res.five; have o0 := HB.out.cell 0 _ rfl)
  | ((go_at_call 32; with_reducible refine (HNr.out _).mono ?_); rintro e w' ⟨rfl, rfl⟩)
  | fail)
  go_ret
  refine ⟨ret_str ?_, HF.out.bel⟩
  rw [HR.out, HV.out]
  first | exact glue_show_7 r t | exact glue2_show_7 r t

set_option maxHeartbeats 6400000 in
set_option maxRecDepth 100000 in
theorem show_7i (g i : Nat) (x n a s : Int) (w : World) (hr : g < 16) (hi : i < 16) (hx0 : 0 ≤ x) (hx1 : x < 4294967296) (b98 : (a == 98) = false) (hg : Gt w) :
    Calls Tryz.prog 19 #[(⟨7, g, i, x, n⟩ : Sp).val, .agg #[.int .u8 a, .int .i64 s]] w fun e w' => e = .returned (.string (sb (toldF ⟨7, g, i, x, n⟩ a))) ∧ Below w.heap.size w w' := by
  have HI := Lib.hid (fun W h => itoa_sgn x W hx0 hx1 h)
  have ht := numt_len x hx0 hx1
  have HNr := Lib.hid (fun W => itoa_small g (by omega) W)
  have hr' := dd_len g hr
  have HNi := Lib.hid (fun W => itoa_small i (by omega) W)
  have hi' := dd_len i hi
  have HR : Hid (toldF ⟨7, g, i, x, n⟩ a = toldF ⟨7, g, i, x, n⟩ 0) := by
    show _ = _
    have h98 : a ≠ 98 := by simpa using b98
    simp [toldF, h98]
  have HV : Hid (toldF ⟨7, g, i, x, n⟩ 0 = (45 :: (40 :: ((82 :: Lib.decDigits g) ++ [41]))) ++ (91 :: ((82 :: Lib.decDigits i) ++ [93]))) := by
    show _ = _
    unfold toldF kindt brk
    simp [rnm_dd g hr, rnm_dd i hi, show ¬ ((i : Int) = -1) from by omega]
  have HW : Hid (Rz 47 [.int .i64 7, .int .i64 g, .int .i64 (i), .int .u32 x, .int .i64 n] w ((w.alloc (.cells #[.int .i64 7, .int .i64 g, .int .i64 (i), .int .u32 x, .int .i64 n] 47)).alloc (.cells #[.int .u8 a, .int .i64 s] 45))) := ⟨(Es.Bk.new _ _ _).below (Es.al1 _ _) (Nat.le_refl _), bel2 (Es.al1 _ _) (Es.al1 _ _)⟩
  have HO : Hid (Es.Bk ((w.alloc (.cells #[.int .i64 7, .int .i64 g, .int .i64 (i), .int .u32 x, .int .i64 n] 47)).alloc (.cells #[.int .u8 a, .int .i64 s] 45)) (w.heap.size + 1) 45 [.int .u8 a, .int .i64 s]) := Lib.hid (by
    have := Es.Bk.new (w.alloc (.cells #[.int .i64 7, .int .i64 g, .int .i64 (i), .int .u32 x, .int .i64 n] 47)) 45 [.int .u8 a, .int .i64 s]
    simp at this
    exact this)
  have HG := Lib.hid (hg.below HW.out.bel)
  clear hg
  generalize Lib.decDigits g = r at *
  have ni : (0 : Int) ≤ i := by omega
  generalize Lib.decDigits i = q at *
  generalize numt x = t at *
  have i14 := idx14_7
  go_enter Tryz.func19, Tryz.ntmps19
  go_wp2_with (first
  | ((go_at_call 32; with_reducible refine (HI.out _ HG.out).mono ?_); rintro e w1 ⟨rfl, hb⟩; have HF := Lib.hid (HW.out.below hb); have HB := Lib.hid (HO.out.below hb (Nat.le_refl _)); clear hb; obtain ⟨y0, y1, y2, y3, y4, yf, yl⟩ := HF.out.res.five; have o0 := HB.out.cell 0 _ rfl)
  | ((go_at_call 32; with_reducible refine (HNr.out _).mono ?_); rintro e w' ⟨rfl, rfl⟩)
  | ((go_at_call 32; with_reducible refine (HNi.out _).mono ?_); rintro e w' ⟨rfl, rfl⟩)
  | fail)
  go_ret
  refine ⟨ret_str ?_, HF.out.bel⟩
  rw [HR.out, HV.out]
  first | exact glue_show_7i r t q | exact glue2_show_7i r t q

set_option maxHeartbeats 6400000 in
set_option maxRecDepth 100000 in
theorem show_8 (g : Nat) (x n a s : Int) (w : World) (hr : g < 16) (hx0 : 0 ≤ x) (hx1 : x < 4294967296) (b98 : (a == 98) = false) (hg : Gt w) :
    Calls Tryz.prog 19 #[(⟨8, g, -1, x, n⟩ : Sp).val, .agg #[.int .u8 a, .int .i64 s]] w fun e w' => e = .returned (.string (sb (toldF ⟨8, g, -1, x, n⟩ a))) ∧ Below w.heap.size w w' := by
  have HI := Lib.hid (fun W h => itoa_sgn x W hx0 hx1 h)
  have ht := numt_len x hx0 hx1
  have HNr := Lib.hid (fun W => itoa_small g (by omega) W)
  have hr' := dd_len g hr
  have HR : Hid (toldF ⟨8, g, -1, x, n⟩ a = toldF ⟨8, g, -1, x, n⟩ 0) := by
    show _ = _
    have h98 : a ≠ 98 := by simpa using b98
    simp [toldF, h98]
  have HV : Hid (toldF ⟨8, g, -1, x, n⟩ 0 = (40 :: ((82 :: Lib.decDigits g) ++ [41])) ++ [43]) := by
    show _ = _
    unfold toldF kindt brk
    simp [rnm_dd g hr]
  have HW : Hid (Rz 47 [.int .i64 8, .int .i64 g, .int .i64 (-1), .int .u32 x, .int .i64 n] w ((w.alloc (.cells #[.int .i64 8, .int .i64 g, .int .i64 (-1), .int .u32 x, .int .i64 n] 47)).alloc (.cells #[.int .u8 a, .int .i64 s] 45))) := ⟨(Es.Bk.new _ _ _).below (Es.al1 _ _) (Nat.le_refl _), bel2 (Es.al1 _ _) (Es.al1 _ _)⟩
  have HO : Hid (Es.Bk ((w.alloc (.cells #[.int .i64 8, .int .i64 g, .int .i64 (-1), .int .u32 x, .int .i64 n] 47)).alloc (.cells #[.int .u8 a, .int .i64 s] 45)) (w.heap.size + 1) 45 [.int .u8 a, .int .i64 s]) := Lib.hid (by
    have := Es.Bk.new (w.alloc (.cells #[.int .i64 8, .int .i64 g, .int .i64 (-1), .int .u32 x, .int .i64 n] 47)) 45 [.int .u8 a, .int .i64 s]
    simp at this
    exact this)
  have HG := Lib.hid (hg.below HW.out.bel)
  clear hg
  generalize Lib.decDigits g = r at *
  generalize numt x = t at *
  have i14 := idx14_8
  go_enter Tryz.func19, Tryz.ntmps19
  go_wp2_with (first
  | ((go_at_call 32; with_reducible refine (HI.out _ HG.out).mono ?_); rintro e w1 ⟨rfl, hb⟩; have HF := Lib.hid (HW.out.below hb); have HB := Lib.hid (HO.out.below hb (Nat.le_refl _)); clear hb; obtain ⟨y0, y1, y2, y3, y4, yf, yl⟩ := HF.out.res.five; have o0 := HB.out.cell 0 _ rfl)
  | ((go_at_call 32; with_reducible refine (HNr.out _).mono ?_); rintro e w' ⟨rfl, rfl⟩)
  | fail)
  go_ret
  refine ⟨ret_str ?_, HF.out.bel⟩
  rw [HR.out, HV.out]
  first | exact glue_show_8 r t | exact glue2_show_8 r t

set_option maxHeartbeats 6400000 in
set_option maxRecDepth 100000 in
theorem show_8i (g i : Nat) (x n a s : Int) (w : World) (hr : g < 16) (hi : i < 16) (hx0 : 0 ≤ x) (hx1 : x < 4294967296) (b98 : (a == 98) = false) (hg : Gt w) :
    Calls Tryz.prog 19 #[(⟨8, g, i, x, n⟩ : Sp).val, .agg #[.int .u8 a, .int .i64 s]] w fun e w' => e = .returned (.string (sb (toldF ⟨8, g, i, x, n⟩ a))) ∧ Below w.heap.size w w' := by
  have HI := Lib.hid (fun W h => itoa_sgn x W hx0 hx1 h)
  have ht := numt_len x hx0 hx1
  have HNr := Lib.hid (fun W => itoa_small g (by omega) W)
  have hr' := dd_len g hr
  have HNi := Lib.hid (fun W => itoa_small i (by omega) W)
  have hi' := dd_len i hi
  have HR : Hid (toldF ⟨8, g, i, x, n⟩ a = toldF ⟨8, g, i, x, n⟩ 0) := by
    show _ = _
    have h98 : a ≠ 98 := by simpa using b98
    simp [toldF, h98]
  have HV : Hid (toldF ⟨8, g, i, x, n⟩ 0 = ((40 :: ((82 :: Lib.decDigits g) ++ [41])) ++ [43]) ++ (91 :: ((82 :: Lib.decDigits i) ++ [93]))) := by
    show _ = _
    unfold toldF kindt brk
    simp [rnm_dd g hr, rnm_dd i hi, show ¬ ((i : Int) = -1) from by omega]
  have HW : Hid (Rz 47 [.int .i64 8, .int .i64 g, .int .i64 (i), .int .u32 x, .int .i64 n] w ((w.alloc (.cells #[.int .i64 8, .int .i64 g, .int .i64 (i), .int .u32 x, .int .i64 n] 47)).alloc (.cells #[.int .u8 a, .int .i64 s] 45))) := ⟨(Es.Bk.new _ _ _).below (Es.al1 _ _) (Nat.le_refl _), bel2 (Es.al1 _ _) (Es.al1 _ _)⟩
  have HO : Hid (Es.Bk ((w.alloc (.cells #[.int .i64 8, .int .i64 g, .int .i64 (i), .int .u32 x, .int .i64 n] 47)).alloc (.cells #[.int .u8 a, .int .i64 s] 45)) (w.heap.size + 1) 45 [.int .u8 a, .int .i64 s]) := Lib.hid (by
    have := Es.Bk.new (w.alloc (.cells #[.int .i64 8, .int .i64 g, .int .i64 (i), .int .u32 x, .int .i64 n] 47)) 45 [.int .u8 a, .int .i64 s]
    simp at this
    exact this)
  have HG := Lib.hid (hg.below HW.out.bel)
  clear hg
  generalize Lib.decDigits g = r at *
  have ni : (0 : Int) ≤ i := by omega
  generalize Lib.decDigits i = q at *
  generalize numt x = t at *
  have i14 := idx14_8
  go_enter Tryz.func19, Tryz.ntmps19
  go_wp2_with (first
  | ((go_at_call 32; with_reducible refine (HI.out _ HG.out).mono ?_); rintro e w1 ⟨rfl, hb⟩; have HF := Lib.hid (HW.out.below hb); have HB := Lib.hid (HO.out.below hb (Nat.le_refl _)); clear hb; obtain ⟨y0, y1, y2, y3, y4, yf, yl⟩ := HF.out.res.five; have o0 := HB.out.cell 0 _ rfl)
  | ((go_at_call 32; with_reducible refine (HNr.out _).mono ?_); rintro e w' ⟨rfl, rfl⟩)
  | ((go_at_call 32; with_reducible refine (HNi.out _).mono ?_); rintro e w' ⟨rfl, rfl⟩)
  | fail)
  go_ret
  refine ⟨ret_str ?_, HF.out.bel⟩
  rw [HR.out, HV.out]
  first | exact glue_show_8i r t q | exact glue2_show_8i r t q

set_option maxHeartbeats 6400000 in
set_option maxRecDepth 100000 in
theorem show_9 (g : Nat) (x n a s : Int) (w : World) (hr : g < 16) (hx0 : 0 ≤ x) (hx1 : x < 4294967296) (b98 : (a == 98) = false) (hg : Gt w) :
    Calls Tryz.prog 19 #[(⟨9, g, -1, x, n⟩ : Sp).val, .agg #[.int .u8 a, .int .i64 s]] w fun e w' => e = .returned (.string (sb (toldF ⟨9, g, -1, x, n⟩ a))) ∧ Below w.heap.size w w' := by
  have HI := Lib.hid (fun W h => itoa_sgn x W hx0 hx1 h)
  have ht := numt_len x hx0 hx1
  have HNr := Lib.hid (fun W => itoa_small g (by omega) W)
  have hr' := dd_len g hr
  have HR : Hid (toldF ⟨9, g, -1, x, n⟩ a = toldF ⟨9, g, -1, x, n⟩ 0) := by
    show _ = _
    have h98 : a ≠ 98 := by simpa using b98
    simp [toldF, h98]
  have HV : Hid (toldF ⟨9, g, -1, x, n⟩ 0 = 64 :: ((40 :: ((82 :: Lib.decDigits g) ++ [41])) ++ [43])) := by
    show _ = _
    unfold toldF kindt brk
    simp [rnm_dd g hr]
  have HW : Hid (Rz 47 [.int .i64 9, .int .i64 g, .int .i64 (-1), .int .u32 x, .int .i64 n] w ((w.alloc (.cells #[.int .i64 9, .int .i64 g, .int .i64 (-1), .int .u32 x, .int .i64 n] 47)).alloc (.cells #[.int .u8 a, .int .i64 s] 45))) := ⟨(Es.Bk.new _ _ _).below (Es.al1 _ _) (Nat.le_refl _), bel2 (Es.al1 _ _) (Es.al1 _ _)⟩
  have HO : Hid (Es.Bk ((w.alloc (.cells #[.int .i64 9, .int .i64 g, .int .i64 (-1), .int .u32 x, .int .i64 n] 47)).alloc (.cells #[.int .u8 a, .int .i64 s] 45)) (w.heap.size + 1) 45 [.int .u8 a, .int .i64 s]) := Lib.hid (by
    have := Es.Bk.new (w.alloc (.cells #[.int .i64 9, .int .i64 g, .int .i64 (-1), .int .u32 x, .int .i64 n] 47)) 45 [.int .u8 a, .int .i64 s]
    simp at this
    exact this)
  have HG := Lib.hid (hg.below HW.out.bel)
  clear hg
  generalize Lib.decDigits g = r at *
  generalize numt x = t at *
  have i14 := idx14_9
  go_enter Tryz.func19, Tryz.ntmps19
  go_wp2_with (first
  | ((go_at_call 32; with_reducible refine (HI.out _ HG.out).mono ?_); rintro e w1 ⟨rfl, hb⟩; have HF := Lib.hid (HW.out.below hb); have HB := Lib.hid (HO.out.below hb (Nat.le_refl _)); clear hb; obtain ⟨y0, y1, y2, y3, y4, yf, yl⟩ := HF.out.res.five; have o0 := HB.out.cell 0 _ rfl)
  | ((go_at_call 32; with_reducible refine (HNr.out _).mono ?_); rintro e w' ⟨rfl, rfl⟩)
  | fail)
  go_ret
  refine ⟨ret_str ?_, HF.out.bel⟩
  rw [HR.out, HV.out]
  first | exact glue_show_9 r t | exact glue2_show_9 r t

set_option maxHeartbeats 6400000 in
set_option maxRecDepth 100000 in
theorem show_9i (g i : Nat) (x n a s : Int) (w : World) (hr : g < 16) (hi : i < 16) (hx0 : 0 ≤ x) (hx1 : x < 4294967296) (b98 : (a == 98) = false) (hg : Gt w) :
    Calls Tryz.prog 19 #[(⟨9, g, i, x, n⟩ : Sp).val, .agg #[.int .u8 a, .int .i64 s]] w fun e w' => e = .returned (.string (sb (toldF ⟨9, g, i, x, n⟩ a))) ∧ Below w.heap.size w w' := by
  have HI := Lib.hid (fun W h => itoa_sgn x W hx0 hx1 h)
  have ht := numt_len x hx0 hx1
  have HNr := Lib.hid (fun W => itoa_small g (by omega) W)
  have hr' := dd_len g hr
  have HNi := Lib.hid (fun W => itoa_small i (by omega) W)
  have hi' := dd_len i hi
  have HR : Hid (toldF ⟨9, g, i, x, n⟩ a = toldF ⟨9, g, i, x, n⟩ 0) := by
    show _ = _
    have h98 : a ≠ 98 := by simpa using b98
    simp [toldF, h98]
  have HV : Hid (toldF ⟨9, g, i, x, n⟩ 0 = (64 :: ((40 :: ((82 :: Lib.decDigits g) ++ [41])) ++ [43])) ++ (91 :: ((82 :: Lib.decDigits i) ++ [93]))) := by
    show _ = _
    unfold toldF kindt brk
    simp [rnm_dd g hr, rnm_dd i hi, show ¬ ((i : Int) = -1) from by omega]
  have HW : Hid (Rz 47 [.int .i64 9, .int .i64 g, .int .i64 (i), .int .u32 x, .int .i64 n] w ((w.alloc (.cells #[.int .i64 9, .int .i64 g, .int .i64 (i), .int .u32 x, .int .i64 n] 47)).alloc (.cells #[.int .u8 a, .int .i64 s] 45))) := ⟨(Es.Bk.new _ _ _).below (Es.al1 _ _) (Nat.le_refl _), bel2 (Es.al1 _ _) (Es.al1 _ _)⟩
  have HO : Hid (Es.Bk ((w.alloc (.cells #[.int .i64 9, .int .i64 g, .int .i64 (i), .int .u32 x, .int .i64 n] 47)).alloc (.cells #[.int .u8 a, .int .i64 s] 45)) (w.heap.size + 1) 45 [.int .u8 a, .int .i64 s]) := Lib.hid (by
    have := Es.Bk.new (w.alloc (.cells #[.int .i64 9, .int .i64 g, .int .i64 (i), .int .u32 x, .int .i64 n] 47)) 45 [.int .u8 a, .int .i64 s]
    simp at this
    exact this)
  have HG := Lib.hid (hg.below HW.out.bel)
  clear hg
  generalize Lib.decDigits g = r at *
  have ni : (0 : Int) ≤ i := by omega
  generalize Lib.decDigits i = q at *
  generalize numt x = t at *
  have i14 := idx14_9
  go_enter Tryz.func19, Tryz.ntmps19
  go_wp2_with (first
  | ((go_at_call 32; with_reducible refine (HI.out _ HG.out).mono ?_); rintro e w1 ⟨rfl, hb⟩; have HF := Lib.hid (HW.out.below hb); have HB := Lib.hid (HO.out.below hb (Nat.le_refl _)); clear hb; obtain ⟨y0, y1, y2, y3, y4, yf, yl⟩ := HF.out.res.five; have o0 := HB.out.cell 0 _ rfl)
  | ((go_at_call 32; with_reducible refine (HNr.out _).mono ?_); rintro e w' ⟨rfl, rfl⟩)
  | ((go_at_call 32; with_reducible refine (HNi.out _).mono ?_); rintro e w' ⟨rfl, rfl⟩)
  | fail)
  go_ret
  refine ⟨ret_str ?_, HF.out.bel⟩
  rw [HR.out, HV.out]
  first | exact glue_show_9i r t q | exact glue2_show_9i r t q

set_option maxHeartbeats 6400000 in
set_option maxRecDepth 100000 in
theorem show_10 (g : Nat) (x n a s : Int) (w : World) (hr : g < 16) (hx0 : 0 ≤ x) (hx1 : x < 4294967296) (b98 : (a == 98) = false) (hg : Gt w) :
    Calls Tryz.prog 19 #[(⟨10, g, -1, x, n⟩ : Sp).val, .agg #[.int .u8 a, .int .i64 s]] w fun e w' => e = .returned (.string (sb (toldF ⟨10, g, -1, x, n⟩ a))) ∧ Below w.heap.size w w' := by
  have HI := Lib.hid (fun W h => itoa_sgn x W hx0 hx1 h)
  have ht := numt_len x hx0 hx1
  have HNr := Lib.hid (fun W => itoa_small g (by omega) W)
  have hr' := dd_len g hr
  have HR : Hid (toldF ⟨10, g, -1, x, n⟩ a = toldF ⟨10, g, -1, x, n⟩ 0) := by
    show _ = _
    have h98 : a ≠ 98 := by simpa using b98
    simp [toldF, h98]
  have HV : Hid (toldF ⟨10, g, -1, x, n⟩ 0 = numt x ++ (40 :: ((82 :: Lib.decDigits g) ++ [41]))) := by
    show _ = _
    unfold toldF kindt brk
    simp [rnm_dd g hr]
  have HW : Hid (Rz 47 [.int .i64 10, .int .i64 g, .int .i64 (-1), .int .u32 x, .int .i64 n] w ((w.alloc (.cells #[.int .i64 10, .int .i64 g, .int .i64 (-1), .int .u32 x, .int .i64 n] 47)).alloc (.cells #[.int .u8 a, .int .i64 s] 45))) := ⟨(Es.Bk.new _ _ _).below (Es.al1 _ _) (Nat.le_refl _), bel2 (Es.al1 _ _) (Es.al1 _ _)⟩
  have HO : Hid (Es.Bk ((w.alloc (.cells #[.int .i64 10, .int .i64 g, .int .i64 (-1), .int .u32 x, .int .i64 n] 47)).alloc (.cells #[.int .u8 a, .int .i64 s] 45)) (w.heap.size + 1) 45 [.int .u8 a, .int .i64 s]) := Lib.hid (by
    have := Es.Bk.new (w.alloc (.cells #[.int .i64 10, .int .i64 g, .int .i64 (-1), .int .u32 x, .int .i64 n] 47)) 45 [.int .u8 a, .int .i64 s]
    simp at this
    exact this)
  have HG := Lib.hid (hg.below HW.out.bel)
  clear hg
  generalize Lib.decDigits g = r at *
  generalize numt x = t at *
  have i14 := idx14_10
  go_enter Tryz.func19, Tryz.ntmps19
  go_wp2_with (first
  | ((go_at_call 32; with_reducible refine (HI.out _ HG.out).mono ?_); rintro e w1 ⟨rfl, hb⟩; have HF := Lib.hid (HW.out.below hb); have HB := Lib.hid (HO.out.below hb (Nat.le_refl _)); clear hb; obtain ⟨y0, y1, y2, y3, y4, yf, yl⟩ := HF.out.res.five; have o0 := HB.out.cell 0 _ rfl)
  | ((go_at_call 32; with_reducible refine (HNr.out _).mono ?_); rintro e w' ⟨rfl, rfl⟩)
  | fail)
  go_ret
  refine ⟨ret_str ?_, HF.out.bel⟩
  rw [HR.out, HV.out]
  first | exact glue_show_10 r t | exact glue2_show_10 r t

set_option maxHeartbeats 6400000 in
set_option maxRecDepth 100000 in
theorem show_10i (g i : Nat) (x n a s : Int) (w : World) (hr : g < 16) (hi : i < 16) (hx0 : 0 ≤ x) (hx1 : x < 4294967296) (b98 : (a == 98) = false) (hg : Gt w) :
    Calls Tryz.prog 19 #[(⟨10, g, i, x, n⟩ : Sp).val, .agg #[.int .u8 a, .int .i64 s]] w fun e w' => e = .returned (.string (sb (toldF ⟨10, g, i, x, n⟩ a))) ∧ Below w.heap.size w w' := by
  have HI := Lib.hid (fun W h => itoa_sgn x W hx0 hx1 h)
  have ht := numt_len x hx0 hx1
  have HNr := Lib.hid (fun W => itoa_small g (by omega) W)
  have hr' := dd_len g hr
  have HNi := Lib.hid (fun W => itoa_small i (by omega) W)
  have hi' := dd_len i hi
  have HR : Hid (toldF ⟨10, g, i, x, n⟩ a = toldF ⟨10, g, i, x, n⟩ 0) := by
    show _ = _
    have h98 : a ≠ 98 := by simpa using b98
    simp [toldF, h98]
  have HV : Hid (toldF ⟨10, g, i, x, n⟩ 0 = (numt x ++ (40 :: ((82 :: Lib.decDigits g) ++ [41]))) ++ (91 :: ((82 :: Lib.decDigits i) ++ [93]))) := by
    show _ = _
    unfold toldF kindt brk
    simp [rnm_dd g hr, rnm_dd i hi, show ¬ ((i : Int) = -1) from by omega]
  have HW : Hid (Rz 47 [.int .i64 10, .int .i64 g, .int .i64 (i), .int .u32 x, .int .i64 n] w ((w.alloc (.cells #[.int .i64 10, .int .i64 g, .int .i64 (i), .int .u32 x, .int .i64 n] 47)).alloc (.cells #[.int .u8 a, .int .i64 s] 45))) := ⟨(Es.Bk.new _ _ _).below (Es.al1 _ _) (Nat.le_refl _), bel2 (Es.al1 _ _) (Es.al1 _ _)⟩
  have HO : Hid (Es.Bk ((w.alloc (.cells #[.int .i64 10, .int .i64 g, .int .i64 (i), .int .u32 x, .int .i64 n] 47)).alloc (.cells #[.int .u8 a, .int .i64 s] 45)) (w.heap.size + 1) 45 [.int .u8 a, .int .i64 s]) := Lib.hid (by
    have := Es.Bk.new (w.alloc (.cells #[.int .i64 10, .int .i64 g, .int .i64 (i), .int .u32 x, .int .i64 n] 47)) 45 [.int .u8 a, .int .i64 s]
    simp at this
    exact this)
  have HG := Lib.hid (hg.below HW.out.bel)
  clear hg
  generalize Lib.decDigits g = r at *
  have ni : (0 : Int) ≤ i := by omega
  generalize Lib.decDigits i = q at *
  generalize numt x = t at *
  have i14 := idx14_10
  go_enter Tryz.func19, Tryz.ntmps19
  go_wp2_with (first
  | ((go_at_call 32; with_reducible refine (HI.out _ HG.out).mono ?_); rintro e w1 ⟨rfl, hb⟩; have HF := Lib.hid (HW.out.below hb); have HB := Lib.hid (HO.out.below hb (Nat.le_refl _)); clear hb; obtain ⟨y0, y1, y2, y3, y4, yf, yl⟩ := HF.out.res.five; have o0 := HB.out.cell 0 _ rfl)
  | ((go_at_call 32; with_reducible refine (HNr.out _).mono ?_); rintro e w' ⟨rfl, rfl⟩)
  | ((go_at_call 32; with_reducible refine (HNi.out _).mono ?_); rintro e w' ⟨rfl, rfl⟩)
  | fail)
  go_ret
  refine ⟨ret_str ?_, HF.out.bel⟩
  rw [HR.out, HV.out]
  first | exact glue_show_10i r t q | exact glue2_show_10i r t q

set_option maxHeartbeats 6400000 in
set_option maxRecDepth 100000 in
theorem show_11 (g : Nat) (x n a s : Int) (w : World) (hr : g < 16) (hx0 : 0 ≤ x) (hx1 : x < 4294967296) (b98 : (a == 98) = false) (hg : Gt w) :
    Calls Tryz.prog 19 #[(⟨11, g, -1, x, n⟩ : Sp).val, .agg #[.int .u8 a, .int .i64 s]] w fun e w' => e = .returned (.string (sb (toldF ⟨11, g, -1, x, n⟩ a))) ∧ Below w.heap.size w w' := by
  have HI := Lib.hid (fun W h => itoa_sgn x W hx0 hx1 h)
  have ht := numt_len x hx0 hx1
  have HNr := Lib.hid (fun W => itoa_small g (by omega) W)
  have hr' := dd_len g hr
  have HR : Hid (toldF ⟨11, g, -1, x, n⟩ a = toldF ⟨11, g, -1, x, n⟩ 0) := by
    show _ = _
    have h98 : a ≠ 98 := by simpa using b98
    simp [toldF, h98]
  have HV : Hid (toldF ⟨11, g, -1, x, n⟩ 0 = 64 :: (numt x ++ (40 :: ((82 :: Lib.decDigits g) ++ [41])))) := by
    show _ = _
    unfold toldF kindt brk
    simp [rnm_dd g hr]
  have HW : Hid (Rz 47 [.int .i64 11, .int .i64 g, .int .i64 (-1), .int .u32 x, .int .i64 n] w ((w.alloc (.cells #[.int .i64 11, .int .i64 g, .int .i64 (-1), .int .u32 x, .int .i64 n] 47)).alloc (.cells #[.int .u8 a, .int .i64 s] 45))) := ⟨(Es.Bk.new _ _ _).below (Es.al1 _ _) (Nat.le_refl _), bel2 (Es.al1 _ _) (Es.al1 _ _)⟩
  have HO : Hid (Es.Bk ((w.alloc (.cells #[.int .i64 11, .int .i64 g, .int .i64 (-1), .int .u32 x, .int .i64 n] 47)).alloc (.cells #[.int .u8 a, .int .i64 s] 45)) (w.heap.size + 1) 45 [.int .u8 a, .int .i64 s]) := Lib.hid (by
    have := Es.Bk.new (w.alloc (.cells #[.int .i64 11, .int .i64 g, .int .i64 (-1), .int .u32 x, .int .i64 n] 47)) 45 [.int .u8 a, .int .i64 s]
    simp at this
    exact this)
  have HG := Lib.hid (hg.below HW.out.bel)
  clear hg
  generalize Lib.decDigits g = r at *
  generalize numt x = t at *
  have i14 := idx14_11
  go_enter Tryz.func19, Tryz.ntmps19
  go_wp2_with (first
  | ((go_at_call 32; with_reducible refine (HI.out _ HG.out).mono ?_); rintro e w1 ⟨rfl, hb⟩; have HF := Lib.hid (HW.out.below hb); have HB := Lib.hid (HO.out.below hb (Nat.le_refl _)); clear hb; obtain ⟨y0, y1, y2, y3, y4, yf, yl⟩ := HF.out.res.five; have o0 := HB.out.cell 0 _ rfl)
  | ((go_at_call 32; with_reducible refine (HNr.out _).mono ?_); rintro e w' ⟨rfl, rfl⟩)
  | fail)
  go_ret
  refine ⟨ret_str ?_, HF.out.bel⟩
  rw [HR.out, HV.out]
  first | exact glue_show_11 r t | exact glue2_show_11 r t

set_option maxHeartbeats 6400000 in
set_option maxRecDepth 100000 in
theorem show_11i (g i : Nat) (x n a s : Int) (w : World) (hr : g < 16) (hi : i < 16) (hx0 : 0 ≤ x) (hx1 : x < 4294967296) (b98 : (a == 98) = false) (hg : Gt w) :
    Calls Tryz.prog 19 #[(⟨11, g, i, x, n⟩ : Sp).val, .agg #[.int .u8 a, .int .i64 s]] w fun e w' => e = .returned (.string (sb (toldF ⟨11, g, i, x, n⟩ a))) ∧ Below w.heap.size w w' := by
  have HI := Lib.hid (fun W h => itoa_sgn x W hx0 hx1 h)
  have ht := numt_len x hx0 hx1
  have HNr := Lib.hid (fun W => itoa_small g (by omega) W)
  have hr' := dd_len g hr
  have HNi := Lib.hid (fun W => itoa_small i (by omega) W)
  have hi' := dd_len i hi
  have HR : Hid (toldF ⟨11, g, i, x, n⟩ a = toldF ⟨11, g, i, x, n⟩ 0) := by
    show _ = _
    have h98 : a ≠ 98 := by simpa using b98
    simp [toldF, h98]
  have HV : Hid (toldF ⟨11, g, i, x, n⟩ 0 = (64 :: (numt x ++ (40 :: ((82 :: Lib.decDigits g) ++ [41])))) ++ (91 :: ((82 :: Lib.decDigits i) ++ [93]))) := by
    show _ = _
    unfold toldF kindt brk
    simp [rnm_dd g hr, rnm_dd i hi, show ¬ ((i : Int) = -1) from by omega]
  have HW : Hid (Rz 47 [.int .i64 11, .int .i64 g, .int .i64 (i), .int .u32 x, .int .i64 n] w ((w.alloc (.cells #[.int .i64 11, .int .i64 g, .int .i64 (i), .int .u32 x, .int .i64 n] 47)).alloc (.cells #[.int .u8 a, .int .i64 s] 45))) := ⟨(Es.Bk.new _ _ _).below (Es.al1 _ _) (Nat.le_refl _), bel2 (Es.al1 _ _) (Es.al1 _ _)⟩
  have HO : Hid (Es.Bk ((w.alloc (.cells #[.int .i64 11, .int .i64 g, .int .i64 (i), .int .u32 x, .int .i64 n] 47)).alloc (.cells #[.int .u8 a, .int .i64 s] 45)) (w.heap.size + 1) 45 [.int .u8 a, .int .i64 s]) := Lib.hid (by
    have := Es.Bk.new (w.alloc (.cells #[.int .i64 11, .int .i64 g, .int .i64 (i), .int .u32 x, .int .i64 n] 47)) 45 [.int .u8 a, .int .i64 s]
    simp at this
    exact this)
  have HG := Lib.hid (hg.below HW.out.bel)
  clear hg
  generalize Lib.decDigits g = r at *
  have ni : (0 : Int) ≤ i := by omega
  generalize Lib.decDigits i = q at *
  generalize numt x = t at *
  have i14 := idx14_11
  go_enter Tryz.func19, Tryz.ntmps19
  go_wp2_with (first
  | ((go_at_call 32; with_reducible refine (HI.out _ HG.out).mono ?_); rintro e w1 ⟨rfl, hb⟩; have HF := Lib.hid (HW.out.below hb); have HB := Lib.hid (HO.out.below hb (Nat.le_refl _)); clear hb; obtain ⟨y0, y1, y2, y3, y4, yf, yl⟩ := HF.out.res.five; have o0 := HB.out.cell 0 _ rfl)
  | ((go_at_call 32; with_reducible refine (HNr.out _).mono ?_); rintro e w' ⟨rfl, rfl⟩)
  | ((go_at_call 32; with_reducible refine (HNi.out _).mono ?_); rintro e w' ⟨rfl, rfl⟩)
  | fail)
  go_ret
  refine ⟨ret_str ?_, HF.out.bel⟩
  rw [HR.out, HV.out]
  first | exact glue_show_11i r t q | exact glue2_show_11i r t q

set_option maxHeartbeats 6400000 in
set_option maxRecDepth 100000 in
theorem show_b (k i : Int) (g : Nat) (x n s : Int) (w : World) (hr : g < 16) (hx0 : 0 ≤ x) (hx1 : x < 4294967296) (hg : Gt w) :
    Calls Tryz.prog 19 #[(⟨k, g, i, x, n⟩ : Sp).val, .agg #[.int .u8 98, .int .i64 s]] w fun e w' => e = .returned (.string (sb (toldF ⟨k, g, i, x, n⟩ 98))) ∧ Below w.heap.size w w' := by
  have HI := Lib.hid (fun W h => itoa_sgn x W hx0 hx1 h)
  have HNr := Lib.hid (fun W => itoa_small g (by omega) W)
  have hr' := dd_len g hr
  have HR : Hid (toldF ⟨k, g, i, x, n⟩ 98 = numt x) := rfl
  have HW : Hid (Rz 47 [.int .i64 k, .int .i64 g, .int .i64 i, .int .u32 x, .int .i64 n] w ((w.alloc (.cells #[.int .i64 k, .int .i64 g, .int .i64 i, .int .u32 x, .int .i64 n] 47)).alloc (.cells #[.int .u8 98, .int .i64 s] 45))) := ⟨(Es.Bk.new _ _ _).below (Es.al1 _ _) (Nat.le_refl _), bel2 (Es.al1 _ _) (Es.al1 _ _)⟩
  have HO : Hid (Es.Bk ((w.alloc (.cells #[.int .i64 k, .int .i64 g, .int .i64 i, .int .u32 x, .int .i64 n] 47)).alloc (.cells #[.int .u8 98, .int .i64 s] 45)) (w.heap.size + 1) 45 [.int .u8 98, .int .i64 s]) := Lib.hid (by
    have := Es.Bk.new (w.alloc (.cells #[.int .i64 k, .int .i64 g, .int .i64 i, .int .u32 x, .int .i64 n] 47)) 45 [.int .u8 98, .int .i64 s]
    simp at this
    exact this)
  have HG := Lib.hid (hg.below HW.out.bel)
  clear hg
  generalize Lib.decDigits g = r at *
  generalize numt x = t at *
  go_enter Tryz.func19, Tryz.ntmps19
  go_wp2_with (first
  | ((go_at_call 32; with_reducible refine (HI.out _ HG.out).mono ?_); rintro e w1 ⟨rfl, hb⟩; have HF := Lib.hid (HW.out.below hb); have HB := Lib.hid (HO.out.below hb (Nat.le_refl _)); clear hb; obtain ⟨y0, y1, y2, y3, y4, yf, yl⟩ := HF.out.res.five; have o0 := HB.out.cell 0 _ rfl)
  | ((go_at_call 32; with_reducible refine (HNr.out _).mono ?_); rintro e w' ⟨rfl, rfl⟩)
  | fail)
  go_ret
  exact ⟨by rw [HR.out]; rfl, HF.out.bel⟩

theorem show_any (s : Sp) (a z : Int) (w : World) (hk : s.k = 0 ∨ (5 ≤ s.k ∧ s.k ≤ 13)) (hr : 0 ≤ s.r ∧ s.r ≤ 15) (hi : -1 ≤ s.i ∧ s.i ≤ 15) (hx : 0 ≤ s.x ∧ s.x < 4294967296) (hg : Gt w) :
    Calls Tryz.prog 19 #[s.val, .agg #[.int .u8 a, .int .i64 z]] w fun e w' => e = .returned (.string (sb (toldF s a))) ∧ Below w.heap.size w w' := by
  obtain ⟨k, g, i, x, n⟩ := s
  simp only at hk hr hi hx
  obtain ⟨g, rfl⟩ : ∃ m : Nat, g = m := ⟨g.toNat, by omega⟩
  by_cases h98 : a = 98
  · subst h98; exact show_b k i g x n z w (by omega) hx.1 hx.2 hg
  · have b98 : (a == 98) = false := by simpa using h98
    have hk' : k = 0 ∨ k = 12 ∨ k = 13 ∨ k = 5 ∨ k = 6 ∨ k = 7 ∨ k = 8 ∨ k = 9 ∨ k = 10 ∨ k = 11 := by omega
    by_cases h1 : i = -1
    · subst h1
      rcases hk' with rfl | rfl | rfl | rfl | rfl | rfl | rfl | rfl | rfl | rfl
      · exact show_0 g x n a z w (by omega) hx.1 hx.2 b98 hg
      · exact show_12 g x n a z w (by omega) hx.1 hx.2 b98 hg
      · exact show_13 g x n a z w (by omega) hx.1 hx.2 b98 hg
      · exact show_5 g x n a z w (by omega) hx.1 hx.2 b98 hg
      · exact show_6 g x n a z w (by omega) hx.1 hx.2 b98 hg
      · exact show_7 g x n a z w (by omega) hx.1 hx.2 b98 hg
      · exact show_8 g x n a z w (by omega) hx.1 hx.2 b98 hg
      · exact show_9 g x n a z w (by omega) hx.1 hx.2 b98 hg
      · exact show_10 g x n a z w (by omega) hx.1 hx.2 b98 hg
      · exact show_11 g x n a z w (by omega) hx.1 hx.2 b98 hg
    · obtain ⟨i, rfl⟩ : ∃ m : Nat, i = m := ⟨i.toNat, by omega⟩
      rcases hk' with rfl | rfl | rfl | rfl | rfl | rfl | rfl | rfl | rfl | rfl
      · exact show_0i g i x n a z w (by omega) (by omega) hx.1 hx.2 b98 hg
      · exact show_12i g i x n a z w (by omega) (by omega) hx.1 hx.2 b98 hg
      · exact show_13i g i x n a z w (by omega) (by omega) hx.1 hx.2 b98 hg
      · exact show_5i g i x n a z w (by omega) (by omega) hx.1 hx.2 b98 hg
      · exact show_6i g i x n a z w (by omega) (by omega) hx.1 hx.2 b98 hg
      · exact show_7i g i x n a z w (by omega) (by omega) hx.1 hx.2 b98 hg
      · exact show_8i g i x n a z w (by omega) (by omega) hx.1 hx.2 b98 hg
      · exact show_9i g i x n a z w (by omega) (by omega) hx.1 hx.2 b98 hg
      · exact show_10i g i x n a z w (by omega) (by omega) hx.1 hx.2 b98 hg
      · exact show_11i g i x n a z w (by omega) (by omega) hx.1 hx.2 b98 hg

end Go.Proofs.YtppkpfkoggnbmaaGreatDoor.Cs.Ka
