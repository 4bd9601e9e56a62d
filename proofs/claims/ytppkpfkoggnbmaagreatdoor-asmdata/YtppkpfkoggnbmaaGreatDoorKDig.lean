/- digits of the law; rows of bytes that the law makes. -/
import Derived.Test.YtppkpfkoggnbmaaGreatDoorKWTxt
import Derived.Test.YtppkpfkoggnbmaaGreatDoorKDat
import Derived.Test.YtppkpfkoggnbmaaGreatDoorKSrc
namespace Go.Proofs.YtppkpfkoggnbmaaGreatDoor.Cs.Ka
open Go.RowKit Es
open Ia (sb)
set_option linter.unusedVariables false
set_option linter.unusedSimpArgs false

theorem str_one (q : Int) : str [q] = sb [UInt8.ofNat q.toNat] := by simp [str, ByteArray.push]
theorem conv_one (W : World) (q : Int) (hq : 0 ≤ q ∧ q < 256) :
    (convert 22 9 (.slice (some ⟨W.heap.size, 0, none⟩) 1 1)).run Tryz.prog (W.alloc (.cells #[.int .u8 q] 5)) = .ok (.string (sb [UInt8.ofNat q.toNat])) (W.alloc (.cells #[.int .u8 q] 5)) := by
  have hB : By (W.alloc (.cells #[.int .u8 q] 5)) (some ⟨W.heap.size, 0, none⟩) 1 1 [q] := (R8.lit W [q] 1 rfl (by omega)).by rfl (Byt.cons hq Byt.nil)
  rw [run_str hB, str_one]
theorem dd_step (y : Nat) (l : Tx) : 0 < y → dd y ++ l = (if y / 10 = 0 then [UInt8.ofNat (48 + y % 10)] else dd (y / 10) ++ [UInt8.ofNat (48 + y % 10)]) ++ l := by
  intro hy
  by_cases h : y / 10 = 0
  · have : y < 10 := by omega
    rw [if_pos h, show y % 10 = y by omega]
    simp only [dd]
    rw [Lib.decDigits_one this]
  · rw [if_neg h]
    simp only [dd]
    conv => lhs; rw [Lib.decDigits, dif_neg (by omega)]
/-- where the loop over a number's digits stands -/
structure Dg (x y : Nat) (l : Tx) : Prop where
  le : y ≤ x
  z : y = 0 → l = dd x
  s : 0 < y → dd x = dd y ++ l
theorem Dg.start (x : Nat) : Dg x (x / 10) [UInt8.ofNat (48 + x % 10)] := by
  refine ⟨Nat.div_le_self _ _, fun h => ?_, fun h => ?_⟩
  · have : x < 10 := by omega
    rw [show x % 10 = x by omega]
    exact (Lib.decDigits_one this).symm
  · simp only [dd]
    conv => lhs; rw [Lib.decDigits, dif_neg (by omega)]
theorem Dg.next {x y : Nat} {l : Tx} (h : Dg x y l) (hy : 0 < y) : Dg x (y / 10) ([UInt8.ofNat (48 + y % 10)] ++ l) := by
  have h1 := h.s hy
  have h2 := dd_step y l hy
  refine ⟨Nat.le_trans (Nat.div_le_self _ _) h.le, fun h0 => ?_, fun h0 => ?_⟩
  · rw [h1, h2, if_pos h0]
  · rw [h1, h2, if_neg (by omega), List.append_assoc]

theorem Dg.len {x y : Nat} {l : Tx} (h : Dg x y l) : l.length ≤ (dd x).length := by
  by_cases hy : 0 < y
  · rw [h.s hy, List.length_append]; omega
  · rw [h.z (by omega)]; omega

set_option maxHeartbeats 6400000 in
set_option maxRecDepth 100000 in
theorem digits_any (x : Nat) (hx : x < 4294967296) (w : World) : Calls Tryz.prog 13 #[.int .u32 (x : Int)] w fun e w' => e = .returned (.string (sb (dd x))) ∧ Below w.heap.size w w' := by
  have hq : 0 ≤ 48 + (x : Int) % 10 ∧ 48 + (x : Int) % 10 < 256 := by omega
  have hc := conv_one w (48 + (x : Int) % 10) hq
  have e0 : (48 + (x : Int) % 10).toNat = 48 + x % 10 := by omega
  rw [e0] at hc
  have HS := Lib.hid (Dg.start x)
  generalize hl : ([UInt8.ofNat (48 + x % 10)] : Tx) = l0 at *
  clear hl
  go_enter Tryz.func13, Tryz.ntmps13
  go_wp2_with fail
  go_loopw [0, 3] (fun nv sv wr => ∃ (y : Nat) (l : Tx) (tt : ByteArray), nv = .int .u32 (y : Int) ∧ sv = .string tt ∧ tt = sb l ∧ Dg x y l ∧ Below w.heap.size w wr) (fun nv _ _ => (intOf nv).toNat)
  case atStart => exact ⟨x / 10, l0, _, by go_num, rfl, rfl, HS.out, (Es.al1 w _)⟩
  case round =>
    clear hc hq e0 HS
    obtain ⟨y, l, tt, rfl, rfl, hT, hD, hb⟩ := hrel
    by_cases hy : 0 < y
    · have hle := hD.le
      have hq : 0 ≤ 48 + (y : Int) % 10 ∧ 48 + (y : Int) % 10 < 256 := by omega
      have hc := conv_one wr (48 + (y : Int) % 10) hq
      have e0 : (48 + (y : Int) % 10).toNat = 48 + y % 10 := by omega
      rw [e0] at hc
      have HN := Lib.hid (hD.next hy)
      have HB := Lib.hid (bel2 hb (Es.al1 wr (.cells #[.int .u8 (48 + (y : Int) % 10)] 5)))
      have HT : Hid (sb [UInt8.ofNat (48 + y % 10)] ++ tt = sb ([UInt8.ofNat (48 + y % 10)] ++ l)) := by
        show _ = _
        rw [hT]
        exact Ia.sb_append _ _
      have hz : (0 : Int) < (y : Int) := by omega
      have hsz : tt.size ≤ 21 := by
        rw [hT, Ia.sb_size]
        have := hD.len
        have := ddn_len x hx
        omega
      have hl1 : ([UInt8.ofNat (48 + y % 10)] : Tx).length ≤ 1 := by simp
      clear hT hD hb
      generalize hl : ([UInt8.ofNat (48 + y % 10)] : Tx) = l1 at *
      clear hl
      go_wp2_with fail
      go_roundw
      case rel => exact ⟨y / 10, _, _, by go_num, rfl, HT.out, HN.out, HB.out⟩
      case measure => first | (simp [intOf]; done) | (simp [intOf]; omega)
    · obtain rfl : y = 0 := by omega
      have HE : Hid (tt = sb (dd x)) := by
        show _ = _
        rw [hT, hD.z rfl]
      have HB := Lib.hid hb
      clear hT hD hb
      go_wp2_with fail
      go_ret
      exact ⟨ret_str HE.out, HB.out⟩

end Go.Proofs.YtppkpfkoggnbmaaGreatDoor.Cs.Ka
