/- AsmBack: what Text says is assembled to bytes of which Text says the same. -/
import Derived.Test.YtppkpfkoggnbmaaGreatDoorKWTxt
import Derived.Test.YtppkpfkoggnbmaaGreatDoorGKbk
namespace Go.Proofs.YtppkpfkoggnbmaaGreatDoor.Cs.Ka
open Go.RowKit Es
open Ia (sb)
set_option linter.unusedVariables false
set_option linter.unusedSimpArgs false

set_option maxHeartbeats 6400000 in
set_option maxRecDepth 100000 in
theorem asmback_walk (A : Option Addr) (n c : Nat) (ys : List Int) (w : World) (h : By w A n c ys) (ht : Tz w) :
    Calls Tryz.prog 4 #[.slice A n c] w fun e w' => e = .returned (.bool true) ∧ Below w.heap.size w w' := by
  have HA := Lib.hid (alive w ht.lo ht.gt ht.gl)
  by_cases hn : 256 < n
  · clear h ht
    go_enter Tryz.func4, Tryz.ntmps4
    go_wp2_with (first | (go_at_call 8; refine HA.out.mono ?_; rintro e w1 ⟨rfl, hb⟩; have HL := Lib.hid hb; clear hb) | fail)
    go_ret
    exact ⟨rfl, HL.out⟩
  · have H1 := Lib.hid (fun V (hV : Below w.heap.size w V) => text_any A n c ys V (h.below hV (Nat.le_refl _)) (by omega) (ht.below hV).gt (ht.below hV).gl)
    have hby := h.byt
    obtain ⟨⟨r1, r2, r3⟩, hr⟩ : ∃ r, txtF ys = r := ⟨_, rfl⟩
    rw [hr] at H1
    by_cases h0 : r3 = 0
    · subst h0
      obtain ⟨cs, b1, b2, b3, b4, b5, b6, b7⟩ := back_all hby hr
      have H2 := Lib.hid (fun V (hV : Below w.heap.size w V) => assemble_any V r1 b4 (by omega) (ht.below hV).lo (ht.below hV).gt (ht.below hV).gl)
      rw [b1] at H2
      have H3 := Lib.hid (fun V (hV : Below w.heap.size w V) A' c' (hB : By V A' cs.length c' cs) => text_any A' cs.length c' cs V hB (by omega) (ht.below hV).gt (ht.below hV).gl)
      rw [b3] at H3
      have hle : ¬ r2 < (cs.length : Int) := by omega
      clear h ht hby hr b1 b2 b3 b4 b5 b6 b7
      unfold AsO at H2
      simp only at H2
      generalize cs.length = m at *
      go_enter Tryz.func4, Tryz.ntmps4
      go_wp2_with (first
        | (go_at_call 8; refine HA.out.mono ?_; rintro e w1 ⟨rfl, hb⟩; have HL := Lib.hid hb; clear hb)
        | ((go_at_call 9; with_reducible refine (H1.out _ HL.out).mono ?_); intro e w2 hr; obtain ⟨he, hb⟩ := hr; simp only at he; subst he; have HL2 := Lib.hid (bel2 HL.out hb); clear hb)
        | (go_at_call 11; refine (H2.out _ HL2.out).mono ?_; intro e w3 hr; obtain ⟨A', c', rfl, hB, hb⟩ := hr; have HB := Lib.hid hB; have HL3 := Lib.hid (bel2 HL2.out hb); clear hB hb)
        | ((go_at_call 9; with_reducible refine (H3.out _ HL3.out _ _ HB.out).mono ?_); intro e w4 hr; obtain ⟨he, hb⟩ := hr; simp only at he; subst he; have HL4 := Lib.hid (bel2 HL3.out hb); clear hb)
        | fail)
      go_ret
      exact ⟨rfl, HL4.out⟩
    · obtain ⟨rfl, rfl⟩ := txtF_err hr h0
      have g0 : (r3 != 0) = true := by simpa using h0
      clear h ht hby hr h0
      go_enter Tryz.func4, Tryz.ntmps4
      go_wp2_with (first
        | (go_at_call 8; refine HA.out.mono ?_; rintro e w1 ⟨rfl, hb⟩; have HL := Lib.hid hb; clear hb)
        | ((go_at_call 9; with_reducible refine (H1.out _ HL.out).mono ?_); intro e w2 hr; obtain ⟨he, hb⟩ := hr; simp only at he; subst he; have HL2 := Lib.hid (bel2 HL.out hb); clear hb)
        | fail)
      go_ret
      exact ⟨rfl, HL2.out⟩

end Go.Proofs.YtppkpfkoggnbmaaGreatDoor.Cs.Ka
