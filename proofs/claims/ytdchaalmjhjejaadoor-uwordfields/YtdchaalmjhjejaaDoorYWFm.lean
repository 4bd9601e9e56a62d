/- The walk of UwordFields: whatever comes in. -/
import Derived.Test.YtdchaalmjhjejaaDoorYWFl
namespace Go.Proofs.YtdchaalmjhjejaaDoor.Cs
open Go.RowKit Go.ChangeShapes Go.WideShapes Tl Tl.Ia
set_option linter.unusedVariables false
set_option linter.unusedSimpArgs false

set_option maxHeartbeats 1600000 in
set_option maxRecDepth 100000 in
theorem fields_walk (p : Nat → Int) (s : ByteArray) (x : Int) (w : World) (_ : (Lit.int .i64 x).wf = true) (hg : Gl w) :
    Calls Tryd.prog 3 #[.agg (cw p).toArray, .string s, .int .i64 x] w fun e w' => e = .returned (.bool true) ∧ Below w.heap.size w w' := by
  by_cases hla : 256 < s.size
  · have HV := Lib.hid (Ws.box w p hg)
    have HA := Lib.hid alive_any
    clear hg
    go_enter Tryd.func3, Tryd.ntmps3
    go_wp2_with (first
      | (refine wl_box rfl _ _ rfl (cw p) rfl ?_; generalize w.alloc (.cells (cw p).toArray 23) = W at *)
      | (go_at_call 9; with_reducible refine (HA.out _ HV.out.gl).mono ?_; rintro e w1 ⟨rfl, hb⟩; replace HV := Lib.hid (HV.out.below hb); clear hb)
      | fail)
    go_ret
    exact ⟨rfl, HV.out.bel⟩
  · rw [sb_of s, sb_size] at hla
    rw [sb_of s]
    generalize s.data.toList = l at *
    have hj : ix l = -1 ∧ btF l = 0 ∧ gt p l = 0 ∨ ∃ i : Nat, i < 12 ∧ ix l = i ∧ btF l = wd i ∧ gt p l = p i := by
      rcases ix_spec l with ⟨h, -⟩ | ⟨i, hi, h, -⟩
      · exact .inl ⟨h, by unfold btF; rw [h]; rfl, by unfold gt; rw [h]; rfl⟩
      · exact .inr ⟨i, hi, h, by unfold btF; rw [h, if_neg (by omega), Int.toNat_natCast], gt_at p h⟩
    rcases stF_cases p l x with ⟨e, h, hn⟩ | ⟨i, hi, h1, _, _, h⟩
    · exact fields_in p p l x e _ _ _ w hg (by omega) (at_any l) (ubits_any l) (gtC_of rfl) (stC_of h) (rsC_of h) hj (.inl (by simpa using hn))
    · exact fields_in p _ l x 0 _ _ _ w hg (by omega) (at_any l) (ubits_any l) (gtC_of rfl) (stC_of h) (rsC_of h) hj (.inr ⟨rfl, gtC_of (by rw [gt_at _ h1, st_same])⟩)
end Go.Proofs.YtdchaalmjhjejaaDoor.Cs
