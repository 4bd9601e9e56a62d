/- Contracts: New, Level, a step in which nothing is raised. -/
import Derived.Test.YteohkobdmkbcpaaGreatDoorXSte
import Derived.Lib.Strings
import Derived.Lib.Slices
import Derived.Lib.Small
import Derived.Lib.Walk
import Derived.Lib.BitFns
namespace Go.Proofs.YteohkobdmkbcpaaGreatDoor.Cs
open Go.RowKit
set_option linter.unusedVariables false
set_option linter.unusedSimpArgs false

/-- A new machine. -/
def Mc.nul (xs : List Int) : Mc := ⟨Hr.Re.nul, Mm.noTabs, 0, 0, xs⟩
set_option maxHeartbeats 1000000 in
set_option maxRecDepth 100000 in
theorem anew_any (w : World) (rg r : Nat) (xs : List Int) (hm : Rm.Mem w rg r xs) (hK : 7 ≤ r) (hKw : 7 ≤ w.heap.size) (gl : Tl.Ia.Gl w) : Calls Tryz.prog 27 #[.pointer (some ⟨rg, 0, none⟩)] w fun e w' =>
    ∃ a S, e = .returned (.pointer (some ⟨a.g, 0, none⟩)) ∧ a.rg = rg ∧ a.r = r ∧ Mach w' a S (Mc.nul xs) ∧ (∀ k, Fo a S k → k = r ∨ w.heap.size ≤ k) ∧ Ch w' a S (Mc.nul xs) w' ∧ Below w.heap.size w w' := by
  have HM := Lib.hid hm
  have HG := Lib.hid gl
  have HN := Lib.hid (fun W => Mm.mnew_any rg W)
  clear hm gl
  go_enter Tryz.func27, Tryz.ntmps27
  go_wp2_with fail
  refine (HN.out _).mono ?_
  rintro e w1 ⟨mg, tg, S, rfl, h1, h2, hx, hab, hb1⟩
  have HX := Lib.hid hx
  have HAb := Lib.hid hab
  have HB1 := Lib.hid hb1
  clear hx hab hb1
  go_wp2_with fail
  refine (Hr.new_any _).mono ?_
  rintro e w2 ⟨rfl, hf, hb2⟩
  have HF := Lib.hid hf
  have HB2 := Lib.hid hb2
  clear hf hb2
  go_wp2
  have hb3 : Below w2.heap.size w2 (w2.alloc (.cells #[.pointer (some ⟨rg, 0, none⟩), .pointer (some ⟨mg, 0, none⟩), .pointer (some ⟨w1.heap.size, 0, none⟩), .int .u32 0, .int .i64 0] 70)) := by go_grown
  have hbox : (w2.alloc (.cells #[.pointer (some ⟨rg, 0, none⟩), .pointer (some ⟨mg, 0, none⟩), .pointer (some ⟨w1.heap.size, 0, none⟩), .int .u32 0, .int .i64 0] 70)).heap[w2.heap.size]? = some (.cells #[.pointer (some ⟨rg, 0, none⟩), .pointer (some ⟨mg, 0, none⟩), .pointer (some ⟨w1.heap.size, 0, none⟩), .int .u32 0, .int .i64 0] 70 (0, 0)) := heap_alloc_new _ _
  have hs1 := HB1.out.size
  have hs2 := HB2.out.size
  have hall := Tl.bel2 (Tl.bel2 HB1.out HB2.out) hb3
  have hmach : Mach _ ⟨w2.heap.size, rg, r, mg, w1.heap.size, tg⟩ S (Mc.nul xs) := ⟨hbox, ⟨[], ⟨(HX.out.below (Tl.bel2 HB2.out hb3)), HM.out.below_ hall⟩⟩, ⟨_, _, HF.out.below hb3⟩, ⟨by simp [Mc.nul], by simp [Mc.nul]⟩⟩
  have hfo : ∀ k, Fo ⟨w2.heap.size, rg, r, mg, w1.heap.size, tg⟩ S k → k = r ∨ w.heap.size ≤ k := fun k hk => by
    rcases hk with rfl | rfl | rfl | rfl | hk
    · right; show w.heap.size ≤ w2.heap.size; omega
    · left; rfl
    · right; exact h1
    · right; exact hs1
    · right; exact HAb.out k hk
  refine bodyPost_ret (v := .pointer (some ⟨w2.heap.size, 0, none⟩)) (by simp [results, Tryz.results27, go_sem]) rfl ⟨⟨w2.heap.size, rg, r, mg, w1.heap.size, tg⟩, S, rfl, rfl, rfl, hmach, hfo, Ch.refl hmach (fun k hk => ?_) (HG.out.below hall), hall⟩
  rcases hfo k hk with rfl | e
  · exact hK
  · exact Nat.le_trans hKw e

/-- How many bits a number wants. -/
def blen (x : Int) : Int := (Go.Lib.bitLen x.toNat : Nat)
set_option maxHeartbeats 4000000 in
set_option maxRecDepth 100000 in
theorem len_any (x : Int) (w : World) (hx : U x) : Calls Tryz.prog 43 #[.int .u32 x] w fun e w' => e = .returned (.int .i64 (blen x)) ∧ w = w' := by
  obtain ⟨h0, hx1⟩ := hx
  unfold blen
  by_cases c1 : 65536 ≤ x
  · by_cases c2 : 256 ≤ x / 65536
    · skip
      have y0 : 0 ≤ x / 65536 / 256 := by omega
      have y1 : x / 65536 / 256 ≤ 255 := by omega
      have l := Go.Lib.bitLen_le8' (x / 65536 / 256) y0 y1
      have e := Go.Lib.len8_of (x / 65536 / 256) y0 y1
      have s := Go.Lib.bitLen_shift24 x.toNat (by omega) (by omega)
      have q : (x / 65536 / 256).toNat = x.toNat / 16777216 := by omega
      rw [q] at l e
      have HE := Lib.hid e
      have HL := Lib.hid l
      have HS := Lib.hid s
      clear e l s q
      go_enter Tryz.func43, Tryz.ntmps43
      go_wp2
      all_goals go_ret
      all_goals
        refine ⟨congrArg Ending.returned (congrArg (Value.int IntKind.i64) ?_), rfl⟩
        have e := HE.out
        have l := HL.out
        have s := HS.out
        simp only [wrap64, Int.emod_emod_of_dvd] at *
        first | omega | (rw [e]; omega)
    · skip
      have y0 : 0 ≤ x / 65536 := by omega
      have y1 : x / 65536 ≤ 255 := by omega
      have l := Go.Lib.bitLen_le8' (x / 65536) y0 y1
      have e := Go.Lib.len8_of (x / 65536) y0 y1
      have s := Go.Lib.bitLen_shift16 x.toNat (by omega) (by omega)
      have q : (x / 65536).toNat = x.toNat / 65536 := by omega
      rw [q] at l e
      have HE := Lib.hid e
      have HL := Lib.hid l
      have HS := Lib.hid s
      clear e l s q
      go_enter Tryz.func43, Tryz.ntmps43
      go_wp2
      all_goals go_ret
      all_goals
        refine ⟨congrArg Ending.returned (congrArg (Value.int IntKind.i64) ?_), rfl⟩
        have e := HE.out
        have l := HL.out
        have s := HS.out
        simp only [wrap64, Int.emod_emod_of_dvd] at *
        first | omega | (rw [e]; omega)
  · by_cases c2 : 256 ≤ x
    · skip
      have y0 : 0 ≤ x / 256 := by omega
      have y1 : x / 256 ≤ 255 := by omega
      have l := Go.Lib.bitLen_le8' (x / 256) y0 y1
      have e := Go.Lib.len8_of (x / 256) y0 y1
      have s := Go.Lib.bitLen_shift8 x.toNat (by omega) (by omega)
      have q : (x / 256).toNat = x.toNat / 256 := by omega
      rw [q] at l e
      have HE := Lib.hid e
      have HL := Lib.hid l
      have HS := Lib.hid s
      clear e l s q
      go_enter Tryz.func43, Tryz.ntmps43
      go_wp2
      all_goals go_ret
      all_goals
        refine ⟨congrArg Ending.returned (congrArg (Value.int IntKind.i64) ?_), rfl⟩
        have e := HE.out
        have l := HL.out
        have s := HS.out
        simp only [wrap64, Int.emod_emod_of_dvd] at *
        first | omega | (rw [e]; omega)
    · skip
      have y0 : 0 ≤ x := by omega
      have y1 : x ≤ 255 := by omega
      have l := Go.Lib.bitLen_le8' (x) y0 y1
      have e := Go.Lib.len8_of (x) y0 y1
      have HE := Lib.hid e
      have HL := Lib.hid l
      clear e l 
      go_enter Tryz.func43, Tryz.ntmps43
      go_wp2
      all_goals go_ret
      all_goals
        refine ⟨congrArg Ending.returned (congrArg (Value.int IntKind.i64) ?_), rfl⟩
        have e := HE.out
        have l := HL.out
        simp only [wrap64, Int.emod_emod_of_dvd] at *
        first | omega | (rw [e]; omega)
theorem blen_bound (x : Int) (hx : U x) : 0 ≤ blen x ∧ blen x ≤ 32 := by
  have : Go.Lib.bitLenAux 64 x.toNat ≤ 32 := Go.Lib.bitLenAux_le 64 x.toNat 32 (by have := hx.2; omega)
  unfold blen Go.Lib.bitLen
  omega
/-- The highest line above the level. -/
def lvl (p l : Int) : Int := if Ps.ip p < blen l - 1 then blen l - 1 else 0
set_option maxHeartbeats 1000000 in
set_option maxRecDepth 100000 in
theorem level_any (p l : Int) (hp : U p) (hl : U l) (w : World) : Calls Tryz.prog 21 #[.int .u32 p, .int .u32 l] w fun e w' => e = .returned (.int .i64 (lvl p l)) ∧ w = w' := by
  have HI := Lib.hid (fun W => Ps.ipl_any p hp W)
  have HN := Lib.hid (fun W => len_any l W hl)
  obtain ⟨b0, b1⟩ := blen_bound l hl
  obtain ⟨i0, i1⟩ := Ps.ip_bound p
  unfold lvl
  generalize blen l = b at *
  generalize Ps.ip p = i at *
  by_cases h : i < b - 1
  · rw [if_pos h]
    go_enter Tryz.func21, Tryz.ntmps21
    go_wp2_with (first
      | (go_at_call 43; refine (HN.out _).mono ?_; rintro e w1 ⟨rfl, rfl⟩)
      | (go_at_call 34; refine (HI.out _).mono ?_; rintro e w1 ⟨rfl, rfl⟩)
      | fail)
    go_ret
    exact ⟨rfl, rfl⟩
  · rw [if_neg h]
    go_enter Tryz.func21, Tryz.ntmps21
    go_wp2_with (first
      | (go_at_call 43; refine (HN.out _).mono ?_; rintro e w1 ⟨rfl, rfl⟩)
      | (go_at_call 34; refine (HI.out _).mono ?_; rintro e w1 ⟨rfl, rfl⟩)
      | fail)
    go_ret
    exact ⟨rfl, rfl⟩

end Go.Proofs.YteohkobdmkbcpaaGreatDoor.Cs
