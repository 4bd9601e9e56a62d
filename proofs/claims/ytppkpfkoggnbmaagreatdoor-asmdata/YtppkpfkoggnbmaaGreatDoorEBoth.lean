/- Decode of both, all in one; what each statement of layer 11 asks first; the walks of SpecDecodes and SpecSizes. -/
import Derived.Test.YtppkpfkoggnbmaaGreatDoorERef5
import Derived.Deep.QuietTactic
import Derived.BigQuiet
namespace Go.Proofs.YtppkpfkoggnbmaaGreatDoor.Cs.Es
open Go.RowKit
set_option linter.unusedVariables false

theorem dec_arg {l : List Int} {a z : Int} (h : gd a z = false) : dec l a z = (zs, 1) := by unfold dec; rw [if_pos h]
theorem dec_nil {a z : Int} (h : gd a z = true) (h98 : a ≠ 98) : dec [] a z = (zs, 3) := by
  unfold dec; rw [if_neg (by simp [h]), if_neg h98]
theorem dec_0 {a z x : Int} {t : List Int} (h : gd a z = true) (h98 : a ≠ 98) (hx : x / 16 ≠ 4) : dec (x :: t) a z = fin x t a z (-1) 1 := by
  unfold dec; rw [if_neg (by simp [h]), if_neg h98]; simp only [if_neg hx]
theorem dec_15 {a z x : Int} {t : List Int} (h : gd a z = true) (h98 : a ≠ 98) (hx : x / 16 = 4) (h15 : x % 16 = 15) : dec (x :: t) a z = (bd 1, 0) := by
  unfold dec; rw [if_neg (by simp [h]), if_neg h98]; simp only [if_pos hx, if_pos h15]
theorem dec_short {a z x : Int} (h : gd a z = true) (h98 : a ≠ 98) (hx : x / 16 = 4) (h15 : x % 16 ≠ 15) : dec [x] a z = (zs, 3) := by
  unfold dec; rw [if_neg (by simp [h]), if_neg h98]; simp only [if_pos hx, if_neg h15]
theorem dec_1 {a z x y : Int} {u : List Int} (h : gd a z = true) (h98 : a ≠ 98) (hx : x / 16 = 4) (h15 : x % 16 ≠ 15) : dec (x :: y :: u) a z = fin y u a z (x % 16) 2 := by
  unfold dec; rw [if_neg (by simp [h]), if_neg h98]; simp only [if_pos hx, if_neg h15]

theorem decode_any (A : Option Addr) (n c : Nat) (ys : List Int) (a z : Int) (w : World) (hy : By w A n c ys) (hn : n ≤ 100000) (ha : 0 ≤ a ∧ a < 256) :
    Calls Tryz.prog 15 #[.slice A n c, opv a z] w fun e w' => e = .returned (.tuple #[(dec ys a z).1.val, .int .i64 (dec ys a z).2]) ∧ Below w.heap.size w w' := by
  by_cases hg : gd a z = true
  · by_cases h98 : a = 98
    · subst h98; exact decode_b A n c ys z w hy (by omega) hg
    · match ys, hy with
      | [], hy =>
        have hl := hy.len
        simp at hl
        subst hl
        rw [dec_nil hg h98]
        exact decode_nil A c a z w ha hg h98
      | x :: t, hy =>
        by_cases hx : x / 16 = 4
        · by_cases h15 : x % 16 = 15
          · have := decode_ix A n c x t a z w hy (by omega) ha hg h98 hx (.inl h15)
            simp only [if_pos h15] at this
            rw [dec_15 hg h98 hx h15]
            exact this
          · match t, hy with
            | [], hy =>
              have hl := hy.len
              simp at hl
              have := decode_ix A n c x [] a z w hy (by omega) ha hg h98 hx (.inr hl.symm)
              simp only [if_neg h15] at this
              rw [dec_short hg h98 hx h15]
              exact this
            | y :: u, hy =>
              rw [dec_1 hg h98 hx h15]
              exact decode_1 A n c x y u a z w hy (by omega) ha hg h98 hx h15
        · rw [dec_0 hg h98 hx]
          exact decode_0 A n c x t a z w hy (by omega) ha hg h98 hx
  · have hg : gd a z = false := by simpa using hg
    rw [dec_arg hg]
    exact decode_arg A n c a z w ha hg

theorem rdecode_any (A : Option Addr) (n c : Nat) (ys : List Int) (a z : Int) (w : World) (hy : By w A n c ys) (hn : n ≤ 100000) (ha : 0 ≤ a ∧ a < 256) :
    Calls Tryz.prog 18 #[.slice A n c, opv a z] w fun e w' => e = .returned (.tuple #[(dec ys a z).1.val, .int .i64 (dec ys a z).2]) ∧ Below w.heap.size w w' := by
  by_cases hg : gd a z = true
  · by_cases h98 : a = 98
    · subst h98; exact rdecode_b A n c ys z w hy hn hg
    · match ys, hy with
      | [], hy =>
        have hl := hy.len
        simp at hl
        subst hl
        rw [dec_nil hg h98]
        exact rdecode_nil A c a z w hg h98
      | x :: t, hy =>
        have hb := hy.byt.hd
        by_cases hx : x / 16 = 4
        · by_cases h15 : x % 16 = 15
          · obtain rfl : x = 79 := by omega
            rw [dec_15 hg h98 hx h15]
            exact rdecode_4f A n c t a z w hy hn hg h98
          · have h79 : x ≠ 79 := by omega
            match t, hy with
            | [], hy =>
              have hl := hy.len
              simp at hl
              subst hl
              rw [dec_short hg h98 hx h15]
              exact rdecode_short A c x a z w hy hg h98 hx h79
            | y :: u, hy =>
              rw [dec_1 hg h98 hx h15]
              by_cases hyy : y / 16 ≤ 5 ∨ (y / 16 = 8 ∧ y % 16 = 15)
              · rw [fin_no hyy (by omega)]
                exact rdecode_no A n c x y u a z w hy hn hg h98 hx h79 hyy
              · exact rdecode_1 A n c x y u a z w hy hn ha hg h98 hx h79 (by omega) (fun h => hyy (.inr h))
        · rw [dec_0 hg h98 hx]
          exact rdecode_0 A n c x t a z w hy hn ha hg h98 hx
  · have hg : gd a z = false := by simpa using hg
    rw [dec_arg hg]
    exact rdecode_arg A n c a z w hg

end Go.Proofs.YtppkpfkoggnbmaaGreatDoor.Cs.Es
