/- The walk of PslBack. -/
import Derived.Test.YtlijffjfaggkoaaQRef2
namespace Go.Proofs.Ytlijffjfaggkoaa.Cs
open Go.RowKit

/-- A slice that came in: n numbers. -/
structure Src (w : World) (A : Option Addr) (n : Nat) (ys : List Int) : Prop where
  len : ys.length = n
  num : ∀ k, U (ys.getD k 0)
  cell : ∀ k, k < n → ∃ ad, A = some ad ∧ ad.block < w.heap.size ∧ w.cell? (ad.add k) = some (.int .u32 (ys.getD k 0))
theorem block_add (a : Addr) (n : Nat) : (a.add n).block = a.block := by unfold Addr.add; split <;> rfl
theorem src_of_row {w : World} {A : Option Addr} {n c : Nat} {zs : List Int}
    (h : (A = none ∧ n = 0 ∧ c = 0 ∧ zs = []) ∨ ∃ x : Addr, A = some x ∧ n ≤ c ∧ c ≤ maxLen ∧ zs.length = c ∧ (∀ i, i < zs.length → w.cell? (x.add i) = some (.int .u32 (zs.getD i 0))) ∧ ∀ n ∈ zs, (Lit.int .u32 n).wf = true) :
    ∃ ys, Src w A n ys := by
  rcases h with ⟨rfl, rfl, rfl, rfl⟩ | ⟨x, rfl, hn, _, hl, hc, hw⟩
  · exact ⟨[], rfl, fun k => by simp [U], fun k hk => by omega⟩
  · have hget : ∀ k, k < n → (zs.take n).getD k 0 = zs.getD k 0 := fun k hk => by simp [List.getD, hk]
    refine ⟨zs.take n, by rw [List.length_take]; omega, fun k => ?_, fun k hk => ⟨x, rfl, ?_, ?_⟩⟩
    · by_cases hk : k < n
      · rw [hget k hk]
        have hm : zs.getD k 0 ∈ zs := by
          simp only [List.getD, List.getElem?_eq_getElem (by omega : k < zs.length), Option.getD_some]
          exact List.getElem_mem _
        exact U_of (hw _ hm)
      · simp [List.getD, List.getElem?_take, hk, U]
    · have := block_lt_of_cell (hc k (by omega))
      rwa [block_add] at this
    · rw [hget k hk]
      exact hc k (by omega)
theorem Src.at_ {w wr : World} {A : Option Addr} {n : Nat} {ys : List Int} (h : Src w A n ys) (hb : Below w.heap.size w wr) {k : Nat} (hk : k < n) : ∃ ad, A = some ad ∧ wr.cell? (ad.add k) = some (.int .u32 (ys.getD k 0)) := by
  obtain ⟨ad, e, hl, hc⟩ := h.cell k hk
  exact ⟨ad, e, (hb.cell (p := ad.add k) (by rw [block_add]; exact hl)).trans hc⟩

theorem user_as (x : Int) (b : Bool) (hx : U x) (hb : bi x 24 = b) (w : World) :
    Calls Try.prog 13 #[.int .u32 x] w fun e w' => e = .returned (.bool b) ∧ w = w' := hb ▸ user_any x hx w

set_option maxHeartbeats 2000000 in
theorem qback_short (f : Int) (A : Option Addr) (n c : Nat) (ys : List Int) (hf : U f) (w : World) (hs : Src w A n ys) (hn : n ≤ 60) :
    Calls Try.prog 5 #[.int .u32 f, .slice A n c] w fun e w' => e = .returned (.bool true) ∧ Below w.heap.size w w' := by
  have hn' : ¬ (60 : Int) < (n : Int) := by omega
  have HS := Lib.hid hs
  have HF := Lib.hid hf
  clear hs hf
  go_enter Try.func5, Try.ntmps5
  go_wp2_with (first | (go_at_call 9; refine (alive_any _).mono ?_; rintro e w' ⟨rfl, rfl⟩) | fail)
  go_loopw [0, 14] (fun a i W => ∃ k : Nat, k ≤ n ∧ i = .int .i64 k ∧ ∃ F, a = .int .u32 F ∧ U F ∧ Below w.heap.size w W) (fun _ i _ => n - (intOf i).toNat)
  case atStart => exact ⟨0, Nat.zero_le _, rfl, _, rfl, HF.out, Below.refl _ _⟩
  case round =>
    clear HF
    obtain ⟨k, hk, rfl, F, rfl, hF, hb⟩ := hrel
    have HB := Lib.hid hb
    have HF := Lib.hid hF
    clear hb hF
    by_cases hlt : k < n
    · obtain ⟨ad, rfl, hc⟩ := HS.out.at_ HB.out hlt
      have hX := HS.out.num k
      generalize ys.getD k 0 = X at *
      have K1 := Lib.hid (back_any F X HF.out hX)
      have K2 := Lib.hid (rback_any F X HF.out hX)
      have HX := Lib.hid hX
      clear hX
      cases hbk : bk F X
      · rw [hbk] at K1 K2
        clear hbk
        go_wp2_with fail
        refine (K1.out _).mono ?_
        rintro e w' ⟨rfl, rfl⟩
        go_wp2_with fail
        refine (K2.out _).mono ?_
        rintro e w1 ⟨rfl, hb1⟩
        go_wp2_with fail
        refine (K1.out _).mono ?_
        rintro e w' ⟨rfl, rfl⟩
        go_wp2_with fail
        go_roundw
        case rel => exact ⟨k + 1, by omega, by go_num, F, rfl, HF.out, below2 HB.out hb1⟩
        case measure => simp [intOf]; omega
      · have hl := bk_level hbk
        have HU := Lib.hid (fun h => bk_user hbk h)
        have K3 := Lib.hid (ipl_any F HF.out)
        have K4 := Lib.hid (ipl_any X HX.out)
        have hl' : ¬ ip F < ip X := by omega
        clear hl
        rw [hbk] at K1 K2
        clear hbk
        generalize ip F = p at *
        generalize ip X = q at *
        cases hu : bi F 24
        · have K5 := Lib.hid (user_as F _ HF.out hu)
          clear hu HU
          go_wp2_with fail
          refine (K1.out _).mono ?_
          rintro e w' ⟨rfl, rfl⟩
          go_wp2_with fail
          refine (K2.out _).mono ?_
          rintro e w1 ⟨rfl, hb1⟩
          go_wp2_with fail
          refine (K1.out _).mono ?_
          rintro e w' ⟨rfl, rfl⟩
          go_wp2_with fail
          refine (K5.out _).mono ?_
          rintro e w' ⟨rfl, rfl⟩
          go_wp2_with fail
          refine (K4.out _).mono ?_
          rintro e w' ⟨rfl, rfl⟩
          go_wp2_with fail
          refine (K3.out _).mono ?_
          rintro e w' ⟨rfl, rfl⟩
          go_wp2_with fail
          go_roundw
          case rel => exact ⟨k + 1, by omega, by go_num, X, rfl, HX.out, below2 HB.out hb1⟩
          case measure => simp [intOf]; omega
        · have K5 := Lib.hid (user_as F _ HF.out hu)
          have K6 := Lib.hid (user_as X _ HX.out (HU.out hu))
          clear hu HU
          go_wp2_with fail
          refine (K1.out _).mono ?_
          rintro e w' ⟨rfl, rfl⟩
          go_wp2_with fail
          refine (K2.out _).mono ?_
          rintro e w1 ⟨rfl, hb1⟩
          go_wp2_with fail
          refine (K1.out _).mono ?_
          rintro e w' ⟨rfl, rfl⟩
          go_wp2_with fail
          refine (K5.out _).mono ?_
          rintro e w' ⟨rfl, rfl⟩
          go_wp2_with fail
          refine (K6.out _).mono ?_
          rintro e w' ⟨rfl, rfl⟩
          go_wp2_with fail
          refine (K4.out _).mono ?_
          rintro e w' ⟨rfl, rfl⟩
          go_wp2_with fail
          refine (K3.out _).mono ?_
          rintro e w' ⟨rfl, rfl⟩
          go_wp2_with fail
          go_roundw
          case rel => exact ⟨k + 1, by omega, by go_num, X, rfl, HX.out, below2 HB.out hb1⟩
          case measure => simp [intOf]; omega
    · obtain rfl : k = n := by omega
      go_wp2
      go_ret
      exact ⟨rfl, HB.out⟩

set_option maxHeartbeats 400000 in
theorem qback_long (f : Int) (A : Option Addr) (n c : Nat) (w : World) (hn : ¬ n ≤ 60) :
    Calls Try.prog 5 #[.int .u32 f, .slice A n c] w fun e w' => e = .returned (.bool true) ∧ Below w.heap.size w w' := by
  have hn' : (60 : Int) < (n : Int) := by omega
  go_enter Try.func5, Try.ntmps5
  go_wp2_with (first | (go_at_call 9; refine (alive_any _).mono ?_; rintro e w' ⟨rfl, rfl⟩) | fail)
  go_ret
  exact ⟨rfl, Below.refl _ _⟩

theorem qback_walk (f : Int) (A : Option Addr) (n c : Nat) (zs : List Int) (w : World) (hf : (Lit.int .u32 f).wf = true)
    (h : (A = none ∧ n = 0 ∧ c = 0 ∧ zs = []) ∨ ∃ x : Addr, A = some x ∧ n ≤ c ∧ c ≤ maxLen ∧ zs.length = c ∧ (∀ i, i < zs.length → w.cell? (x.add i) = some (.int .u32 (zs.getD i 0))) ∧ ∀ n ∈ zs, (Lit.int .u32 n).wf = true) :
    Calls Try.prog 5 #[.int .u32 f, .slice A n c] w fun e w' => e = .returned (.bool true) ∧ Below w.heap.size w w' := by
  obtain ⟨ys, hs⟩ := src_of_row h
  by_cases hn : n ≤ 60
  · exact qback_short f A n c ys (U_of hf) w hs hn
  · exact qback_long f A n c w hn
end Go.Proofs.Ytlijffjfaggkoaa.Cs
