/- AsmTexts: what Text answers. -/
import Derived.Test.YtppkpfkoggnbmaaGreatDoorKAli
import Derived.Test.YtppkpfkoggnbmaaGreatDoorGKte
namespace Go.Proofs.YtppkpfkoggnbmaaGreatDoor.Cs.Ka
open Go.RowKit Es
open Ia (sb)
set_option linter.unusedVariables false
set_option linter.unusedSimpArgs false

/-- what the row's condition gives the walks -/
structure Tz (w : World) : Prop where
  gt : Gt w
  gl : Ia.Gl w
  lo : 13 ≤ w.heap.size
theorem Tz.below {w w' : World} (h : Tz w) (b : Below w.heap.size w w') : Tz w' := ⟨h.gt.below b, h.gl.below b, Nat.le_trans h.lo b.size⟩

set_option maxHeartbeats 6400000 in
set_option maxRecDepth 100000 in
theorem asmtexts_walk (A : Option Addr) (n c : Nat) (ys : List Int) (w : World) (h : By w A n c ys) (ht : Tz w) :
    Calls Tryz.prog 3 #[.slice A n c] w fun e w' => e = .returned (.bool true) ∧ Below w.heap.size w w' := by
  have HA := Lib.hid (alive w ht.lo ht.gt ht.gl)
  have HB := Lib.hid h
  have HT := Lib.hid ht
  by_cases hn : 256 < n
  · clear h ht
    go_enter Tryz.func3, Tryz.ntmps3
    go_wp2_with (first | (go_at_call 8; refine HA.out.mono ?_; rintro e w1 ⟨rfl, hb⟩; have HL := Lib.hid hb; clear hb) | fail)
    go_ret
    exact ⟨rfl, HL.out⟩
  · have H1 := Lib.hid (fun V (hV : Below w.heap.size w V) => text_any A n c ys V (h.below hV (Nat.le_refl _)) (by omega) (ht.below hV).gt (ht.below hV).gl)
    have H2 := Lib.hid (fun V (hV : Below w.heap.size w V) => rtext_any A n c ys V (h.below hV (Nat.le_refl _)) (by omega) (ht.below hV).gt)
    generalize txtF ys = r at *
    obtain ⟨r1, r2, r3⟩ := r
    clear h ht
    go_enter Tryz.func3, Tryz.ntmps3
    go_wp2_with (first
      | (go_at_call 8; refine HA.out.mono ?_; rintro e w1 ⟨rfl, hb⟩; have HL := Lib.hid hb; clear hb)
      | (go_at_call 9; refine (H1.out _ HL.out).mono ?_; intro e w2 hr; obtain ⟨he, hb⟩ := hr; simp only at he; subst he; have HL2 := Lib.hid (bel2 HL.out hb); clear hb)
      | (go_at_call 10; refine (H2.out _ HL2.out).mono ?_; intro e w3 hr; obtain ⟨he, hb⟩ := hr; simp only at he; subst he; have HL3 := Lib.hid (bel2 HL2.out hb); clear hb)
      | fail)
    go_ret
    exact ⟨rfl, HL3.out⟩

end Go.Proofs.YtppkpfkoggnbmaaGreatDoor.Cs.Ka
