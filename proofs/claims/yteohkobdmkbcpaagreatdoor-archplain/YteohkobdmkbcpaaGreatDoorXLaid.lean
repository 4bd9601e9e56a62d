/- Contracts: long numbers as they stand in a memory; a row of numbers the other way round. -/
import Derived.Test.YteohkobdmkbcpaaGreatDoorXPhy
import Derived.Test.YteohkobdmkbcpaaGreatDoorXPut
namespace Go.Proofs.YteohkobdmkbcpaaGreatDoor.Cs
open Go.RowKit
set_option linter.unusedVariables false
set_option linter.unusedSimpArgs false

theorem low4 {x : Int} (h : U x) : Rm.low x 4 = [x % 256, x / 256 % 256, x / 65536 % 256, x / 16777216] := by
  obtain ⟨h0, h1⟩ := h
  have e : Rm.low x 4 = [x / 1 % 256, x / 256 % 256, x / 65536 % 256, x / 16777216 % 256] := by simp [Rm.low, List.range, List.range.loop]
  rw [e, Int.ediv_one]
  have : x / 16777216 % 256 = x / 16777216 := by omega
  rw [this]
theorem lt_cell {w : World} {b o : Nat} {v : Value} (e : w.cell? ⟨b, o, none⟩ = some v) : b < w.heap.size := by
  by_cases hb : b < w.heap.size
  · exact hb
  · exfalso; simp [World.cell?, Array.getElem?_eq_none (Nat.le_of_not_lt hb)] at e
theorem laid_cons (x : Int) (l : List Int) : laid (x :: l) = Rm.low x 4 ++ laid l := rfl
theorem laid_app (l m : List Int) : laid (l ++ m) = laid l ++ laid m := by simp [laid]
theorem laid_len (l : List Int) : (laid l).length = 4 * l.length := by
  induction l with
  | nil => rfl
  | cons x l ih => rw [laid_cons, List.length_append, ih, Rm.low_length, List.length_cons]; omega

set_option maxHeartbeats 2000000 in
set_option maxRecDepth 100000 in
theorem laid_any (l : List Int) (n r cap : Nat) (hl : l.length = n) (hn : n ≤ 1000) (hu : ∀ k, U (l.getD k 0)) (w : World) (hc : ∀ k, k < n → w.cell? ⟨r, k, none⟩ = some (.int .u32 (l.getD k 0))) :
    Calls Tryz.prog 68 #[.slice (some ⟨r, 0, none⟩) n cap] w fun e w' => ∃ A c, e = .returned (.slice A (4 * n) c) ∧ Bt.Es.R8 w' (.slice A (4 * n) c) (laid l) ∧ Tl.Ab w.heap.size (Tl.Bl (.slice A (4 * n) c)) ∧ Below w.heap.size w w' := by
  have HC := Lib.hid hc
  have HU := Lib.hid hu
  have HL := Lib.hid hl
  have hn0 : (0 : Int) ≤ (n : Int) := by omega
  have hn1 : (n : Int) ≤ 1000 := by omega
  clear hc hu hl
  go_enter Tryz.func68, Tryz.ntmps68
  go_wp2
  go_loopw [3, 8] (fun v i W => ∃ k : Nat, k ≤ n ∧ i = .int .i64 k ∧ Bt.Es.R8 W v (laid (l.take k)) ∧ Tl.Ab w.heap.size (Tl.Bl v) ∧ Below w.heap.size w W) (fun _ i _ => n - (intOf i).toNat)
  case atStart => exact ⟨0, Nat.zero_le _, rfl, by simpa [laid] using Bt.Es.R8.nil w, fun k hk => by simp [Tl.Bl, Value.ownBlock] at hk, Below.refl _ _⟩
  case round =>
    obtain ⟨k, hk, rfl, hR, hA, hB⟩ := hrel
    by_cases hlt : k < n
    · have hk' : (k : Int) < (n : Int) := by omega
      have c := (hB.cell (p := ⟨r, k, none⟩) (lt_cell (HC.out k hlt))).trans (HC.out k hlt)
      obtain ⟨x0, x1⟩ := HU.out k
      have HT := Lib.hid (show l.take (k + 1) = l.take k ++ [l.getD k 0] by
        have hkl : k < l.length := by rw [HL.out]; exact hlt
        rw [List.take_add_one, List.getElem?_eq_getElem hkl, List.getD, List.getElem?_eq_getElem hkl]; rfl)
      generalize l.getD k 0 = x at *
      have HR := Lib.hid hR
      have HA := Lib.hid hA
      have HB := Lib.hid hB
      clear hR hA hB
      have hU : U x := ⟨x0, x1⟩
      have hlt4 := low4 hU
      have HLw := Lib.hid hlt4
      have hBy : Bt.Es.By (wr.alloc (.cells #[Value.int .u8 (x % 256), Value.int .u8 (x / 256 % 256), Value.int .u8 (x / 65536 % 256), Value.int .u8 (x / 16777216)] 5)) (some ⟨wr.heap.size, 0, none⟩) 4 4 [x % 256, x / 256 % 256, x / 65536 % 256, x / 16777216] := by
        refine ⟨rfl, ?_, fun _ => ⟨_, rfl, by simp, fun j v hv => ?_⟩, Nat.le_refl _, by omega⟩
        · intro y hy
          simp only [List.mem_cons, List.mem_nil_iff, or_false] at hy
          rcases hy with rfl | rfl | rfl | rfl <;> omega
        · rw [Bt.Es.Addr.add_lit', cell_of_row _ wr.heap.size _ _ _ _ (heap_alloc_new wr _)]
          simpa [Bt.Es.cel] using hv
      obtain ⟨A', c', w2, hrun, hR2, hS2⟩ := Bt.Es.run_app8 (wr.alloc (.cells #[Value.int .u8 (x % 256), Value.int .u8 (x / 256 % 256), Value.int .u8 (x / 65536 % 256), Value.int .u8 (x / 16777216)] 5)) _ _ _ _ 4 4 (Tl.own_below HR.out (Tl.Ia.al1 wr _)) hBy (by rw [laid_len, List.length_take]; omega)
      have HR2 := Lib.hid hR2
      have HA2 := Lib.hid (hS2.ab HA.out (by have := HB.out.size; simp; omega))
      have HB2 := Lib.hid (hS2.below (Tl.bel_trans HB.out (Tl.Ia.al1 wr _) HB.out.size) HA.out (by have := HB.out.size; simp; omega))
      have hq : (laid (l.take k)).length = 4 * k := by rw [laid_len, List.length_take, HL.out]; omega
      rw [hq] at hrun HR2 HA2
      have HQ := Lib.hid (show Bt.Es.R8 w2 (.slice A' (4 * k + 4) c') (laid (l.take (k + 1))) by
        rw [HT.out, laid_app, show laid [x] = [x % 256, x / 256 % 256, x / 65536 % 256, x / 16777216] by rw [← HLw.out]; simp [laid]]
        exact HR2.out)
      clear hR2 hS2 hBy hlt4 hq HR2
      go_wp2_with (first | (at_builtin; refine Tl.wpList_append_run _ rfl _ _ _ _ rfl _ _ rfl rfl hrun ?_) | fail)
      go_roundw
      case rel => exact ⟨k + 1, by omega, by go_num, HQ.out, HA2.out, HB2.out⟩
      case measure => simp [intOf]; omega
    · obtain rfl : k = n := by omega
      have e : l.take k = l := by rw [List.take_of_length_le (by rw [HL.out]; exact Nat.le_refl _)]
      rw [e] at hR
      have hq : (laid l).length = 4 * k := by rw [laid_len, HL.out]
      obtain ⟨A, c, rfl⟩ := hR.shape
      rw [hq] at hR hA ⊢
      have HR := Lib.hid hR
      have HA := Lib.hid hA
      have HB := Lib.hid hB
      clear hR hA hB e hq
      go_wp2
      go_ret
      exact ⟨A, c, rfl, HR.out, HA.out, HB.out⟩
end Go.Proofs.YteohkobdmkbcpaaGreatDoor.Cs
