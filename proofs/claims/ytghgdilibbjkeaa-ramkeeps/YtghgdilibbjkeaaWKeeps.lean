/- The walk of RamKeeps. -/
import Derived.Test.YtghgdilibbjkeaaOwn
namespace Go.Proofs.Ytghgdilibbjkeaa.Cs
open Go.RowKit

set_option maxHeartbeats 400000 in
theorem keeps_long (A : Option Addr) (n c : Nat) (w : World) (hn : 4096 < n) :
    Calls Try.prog 3 #[.slice A n c] w fun e w' => e = .returned (.bool true) ∧ Below w.heap.size w w' := by
  have hn' : (4096 : Int) < (n : Int) := by omega
  go_enter Try.func3, Try.ntmps3
  go_wp2_with fail
  refine (ralive _).mono ?_
  rintro e w1 ⟨rfl, hb1⟩
  go_wp2
  go_ret
  exact ⟨rfl, hb1⟩

/-- Bytes of all of a memory. -/
theorem bytes_all (g r n : Nat) (ys : List Int) (hn : ys.length = n) (w : World) (h : Mem w g r ys) :
    Calls Try.prog 10 #[.pointer (some ⟨g, 0, none⟩), .int .u32 0, .int .i64 n] w fun e w' =>
      ∃ b, e = .returned (.tuple #[.slice (some ⟨b, 0, none⟩) n n, .int .i64 0]) ∧ w.heap.size ≤ b ∧ Row w' b ys ∧ Below w.heap.size w w' := by
  subst hn
  refine (bytes_ok g r ys 0 ys.length w h (by simp)).mono ?_
  rintro e w' ⟨b, rfl, hb, hrow, hbel⟩
  simp only [List.drop_zero, List.take_length] at hrow ⊢
  exact ⟨b, rfl, hb, Row.of hrow, hbel⟩

/-- A row whose bytes may have turned, and nothing else. -/
def Turned (W : World) (b n : Nat) (wr : World) : Prop := ∃ zs, Row wr b zs ∧ zs.length = n ∧ W.grownBy wr (some b)
theorem Turned.refl {W : World} {b n : Nat} {ys : List Int} (h : Row W b ys) (hn : ys.length = n) : Turned W b n W := ⟨ys, h, hn, World.grownBy.refl _ _⟩
theorem grown_setCell (w : World) (b j : Nat) (v : Value) : w.grownBy (w.setCell ⟨b, j, none⟩ v) (some b) :=
  ⟨rfl, rfl, rfl, by simp [World.setCell], fun k _ hne => Below.heap_setCell _ _ _ _ (by simpa using hne)⟩
theorem Turned.set {W wr : World} {b n : Nat} (h : Turned W b n wr) (j : Nat) (v : Int) : Turned W b n (wr.setCell ⟨b, j, none⟩ (.int .u8 v)) := by
  obtain ⟨zs, hr, hn, hg⟩ := h
  exact ⟨_, hr.set j v, by simpa using hn, grown_trans hg (grown_setCell _ _ _ _)⟩

set_option maxHeartbeats 800000 in
theorem keeps_short (A : Option Addr) (n c : Nat) (ys : List Int) (w : World) (hs : Src w A ys) (hm : ys.length = n) (hby : Byt ys) (hn : n ≤ 4096) :
    Calls Try.prog 3 #[.slice A n c] w fun e w' => e = .returned (.bool true) ∧ Below w.heap.size w w' := by
  have hn' : ¬ (4096 : Int) < (n : Int) := by omega
  have HS := Lib.hid hs
  have HL := Lib.hid hm
  have HY := Lib.hid hby
  clear hs hm hby
  go_enter Try.func3, Try.ntmps3
  go_wp2_with fail
  refine (ralive _).mono ?_
  rintro e w1 ⟨rfl, hb1⟩
  go_wp2_with fail
  refine (new_any n _).mono ?_
  rintro e w2 ⟨g, r, rfl, hg, hr, hm, hb2⟩
  rw [sized_nat n (by omega)] at hm
  have HM := Lib.hid hm
  have HB := Lib.hid (bel_trans hb1 hb2)
  have hr' : w.heap.size ≤ r := by have := hb1.size; omega
  have HS2 := Lib.hid (HS.out.below HB.out)
  clear hm hb1 hb2
  obtain ⟨b, cap, w3, hrun, H3⟩ := run_append_b w2 A n c ys HS2.out HL.out (by omega)
  have HR := Lib.hid hrun
  clear hrun
  go_wp2_with (at_builtin; refine wpList_append_run _ rfl _ _ _ _ rfl _ _ rfl rfl HR.out ?_)
  have hb3 := H3.out.1
  have hM3 := HM.out.below_ H3.out.2.2
  refine (load_all g r n cap ys _ _ hM3 H3.out.2.1.src HL.out HY.out).mono ?_
  rintro e w4 ⟨rfl, hm4, hg4⟩
  have hgl := HM.out.glt
  have hrl := HM.out.rlt
  have HR4 := Lib.hid (H3.out.2.1.keep (hg4.block b H3.out.2.1.lt (by simp; omega)))
  have HM4 := Lib.hid hm4
  have HB4 := Lib.hid (below_of_grown (bel_trans HB.out H3.out.2.2) hg4 (bel_trans HB.out H3.out.2.2).size hr')
  clear hM3 hm4 hg4
  have HS4 := Lib.hid (HS.out.below HB4.out)
  have hs1 := run_string w4 (some ⟨b, 0, none⟩) n cap ys HR4.out.src HL.out
  have hs2 := run_string w4 A n c ys HS4.out HL.out
  go_wp2
  clear hs1 hs2
  have hbr : b ≠ r ∧ b ≠ g := by omega
  have hbw : w.heap.size ≤ b := by have := HB.out.size; omega
  go_loopw [32] (fun i wr => ∃ k : Nat, k ≤ n ∧ i = .int .i64 k ∧ Turned w4 b n wr) (fun i _ => n - (intOf i).toNat)
  case atStart => exact ⟨0, Nat.zero_le _, rfl, Turned.refl HR4.out HL.out⟩
  case round =>
    obtain ⟨k, hk, rfl, ht⟩ := hrel
    have HT := Lib.hid ht
    by_cases hlt : k < n
    · obtain ⟨zs, hrow, hzl, hg⟩ := ht
      have hcl := hrow.cell (j := k) (by omega)
      have hfr := hrow.free k
      clear hrow hg hzl
      go_wp2
      go_roundw
      case rel => exact ⟨k + 1, by omega, by go_num, HT.out.set k _⟩
      case measure => simp [intOf]; omega
    · obtain ⟨zs, hrow, hzl, hg⟩ := ht
      have HM5 := Lib.hid (HM4.out.grown hg (by omega) (by omega))
      have HB5 := Lib.hid (below_of_grown HB4.out hg HB4.out.size hbw)
      clear hrow hg hzl
      go_wp2_with fail
      refine (bytes_all g r n ys HL.out _ HM5.out).mono ?_
      rintro e w6 ⟨b6, rfl, hb6, hr6, hbe6⟩
      have HR6 := Lib.hid hr6
      have HM6 := Lib.hid (HM5.out.below_ hbe6)
      have HB6 := Lib.hid (bel_trans HB5.out hbe6)
      have hgl5 := HM5.out.glt
      have hrl5 := HM5.out.rlt
      have hbw6 : w.heap.size ≤ b6 := by have := HB5.out.size; omega
      clear hr6 hbe6
      have hs1 := run_string w6 (some ⟨b6, 0, none⟩) n n ys HR6.out.src HL.out
      have hs2 := run_string w6 A n c ys (HS.out.below HB6.out) HL.out
      go_wp2
      clear hs1 hs2
      go_loopw [60] (fun i wr => ∃ k : Nat, k ≤ n ∧ i = .int .i64 k ∧ Turned w6 b6 n wr) (fun i _ => n - (intOf i).toNat)
      case atStart => exact ⟨0, Nat.zero_le _, rfl, Turned.refl HR6.out HL.out⟩
      case round =>
        obtain ⟨k', hk', rfl, ht⟩ := hrel
        have HT' := Lib.hid ht
        by_cases hlt' : k' < n
        · obtain ⟨zs', hrow, hzl, hg⟩ := ht
          have hcl := hrow.cell (j := k') (by omega)
          have hfr := hrow.free k'
          clear hrow hg hzl
          go_wp2
          go_roundw
          case rel => exact ⟨k' + 1, by omega, by go_num, HT'.out.set k' _⟩
          case measure => simp [intOf]; omega
        · obtain ⟨zs', hrow, hzl, hg⟩ := ht
          have HM7 := Lib.hid (HM6.out.grown hg (by omega) (by omega))
          have HB7 := Lib.hid (below_of_grown HB6.out hg HB6.out.size hbw6)
          clear hrow hg hzl
          go_wp2_with fail
          refine (bytes_all g r n ys HL.out _ HM7.out).mono ?_
          rintro e w8 ⟨b8, rfl, hb8, hr8, hbe8⟩
          have HB8 := Lib.hid (bel_trans HB7.out hbe8)
          have hs1 := run_string w8 (some ⟨b8, 0, none⟩) n n ys hr8.src HL.out
          have hs2 := run_string w8 A n c ys (HS.out.below HB8.out) HL.out
          clear hr8 hbe8
          go_wp2
          go_ret
          exact ⟨rfl, HB8.out⟩

theorem keeps_walk (A : Option Addr) (n c : Nat) (zs : List Int) (w : World)
    (h : (A = none ∧ n = 0 ∧ c = 0 ∧ zs = []) ∨ ∃ x : Addr, A = some x ∧ n ≤ c ∧ c ≤ maxLen ∧ zs.length = c ∧ (∀ i, i < zs.length → w.cell? (x.add i) = some (.int .u8 (zs.getD i 0))) ∧ ∀ n ∈ zs, (Lit.int .u8 n).wf = true) :
    Calls Try.prog 3 #[.slice A n c] w fun e w' => e = .returned (.bool true) ∧ Below w.heap.size w w' := by
  obtain ⟨ys, hl, hb, hs⟩ := src_of_row h
  by_cases hn : 4096 < n
  · exact keeps_long A n c w hn
  · exact keeps_short A n c ys w hs hl hb (by omega)

end Go.Proofs.Ytghgdilibbjkeaa.Cs
