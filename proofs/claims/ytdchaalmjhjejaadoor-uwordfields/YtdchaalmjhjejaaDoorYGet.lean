/- Contracts of package uword: Bits, Get, Set; of the document's: Set. -/
import Derived.Test.YtdchaalmjhjejaaDoorYWord
namespace Go.Proofs.YtdchaalmjhjejaaDoor.Cs
open Go.RowKit Tl Tl.Ia
set_option linter.unusedVariables false
set_option linter.unusedSimpArgs false

set_option maxHeartbeats 1600000 in
set_option maxRecDepth 100000 in
theorem ubits_any (l : List UInt8) (w : World) (hg : Gl w) : Calls Tryd.prog 17 #[.string (sb l)] w fun e w' => e = .returned (.int .i64 (btF l)) ∧ Below w.heap.size w w' := by
  have HI := Lib.hid (index_any l w hg)
  rcases ix_spec l with ⟨h1, -⟩ | ⟨k, hk, h1, -⟩
  · have HE : Hid (btF l = 0) := by show btF l = 0; unfold btF; rw [h1]; rfl
    rw [h1] at HI
    clear hg h1
    go_enter Tryd.func17, Tryd.ntmps17
    go_wp2_with (first | (go_at_call 26; refine HI.out.mono ?_; rintro e w1 ⟨rfl, hb⟩; have HB := Lib.hid hb; clear hb) | fail)
    go_ret
    exact ⟨by rw [HE.out]; rfl, HB.out⟩
  · have HE : Hid (btF l = wd k) := by show btF l = wd k; unfold btF; rw [h1, if_neg (by omega), Int.toNat_natCast]
    rw [h1] at HI
    have HG := Lib.hid hg
    have hk' : (k : Int) < 12 := by omega
    clear hg h1
    go_enter Tryd.func17, Tryd.ntmps17
    go_wp2_with (first | (go_at_call 26; refine HI.out.mono ?_; rintro e w1 ⟨rfl, hb⟩; have c := (HG.out.below hb).bit hk; generalize ((wd k : Nat) : Int) = z at *; have HB := Lib.hid hb; clear hb) | fail)
    go_ret
    exact ⟨by rw [HE.out]; rfl, HB.out⟩

/-- a word in a variable -/
structure Vd (w : World) (b : Nat) (q : Nat → Int) (W : World) : Prop where
  k1 : Bk W b 23 (cw q)
  b0 : w.heap.size ≤ b
  bel : Below w.heap.size w W
  gl : Gl W
theorem Vd.below {w W W' : World} {b : Nat} {q : Nat → Int} (h : Vd w b q W) (m : Below W.heap.size W W') : Vd w b q W' :=
  ⟨h.k1.below m, h.b0, bel_trans h.bel m h.bel.size, h.gl.below m⟩
theorem Vd.new (w : World) (q : Nat → Int) (g : Gl w) : Vd w w.heap.size q (w.alloc (.cells (cw q).toArray 23)) := ⟨Bk.new _ _ _, Nat.le_refl _, al1 _ _, g.below (al1 _ _)⟩
theorem Vd.cell {w W : World} {b : Nat} {q : Nat → Int} (h : Vd w b q W) {k : Nat} (hk : k < 12) : W.cell? ⟨b, k, none⟩ = some (.int .i64 (q k)) := h.k1.cell k _ (cw_get q k hk)

set_option maxHeartbeats 1600000 in
set_option maxRecDepth 100000 in
theorem get_any (p : Nat → Int) (l : List UInt8) (w : World) (hg : Gl w) : Calls Tryd.prog 18 #[.agg (cw p).toArray, .string (sb l)] w fun e w' => e = .returned (.int .i64 (gt p l)) ∧ Below w.heap.size w w' := by
  have HV := Lib.hid (Vd.new w p hg)
  have HI := Lib.hid (fun W h => index_any l W h)
  rcases ix_spec l with ⟨h1, -⟩ | ⟨k, hk, h1, -⟩
  · have HE : Hid (gt p l = 0) := by show gt p l = 0; unfold gt; rw [h1]; rfl
    rw [h1] at HI
    clear hg h1
    go_enter Tryd.func18, Tryd.ntmps18
    go_wp2_with (first
      | (refine wl_box rfl _ _ rfl (cw p) rfl ?_; generalize w.alloc (.cells (cw p).toArray 23) = W at *)
      | (go_at_call 26; refine (HI.out _ HV.out.gl).mono ?_; rintro e w1 ⟨rfl, hb⟩; have HV1 := Lib.hid (HV.out.below hb); clear hb)
      | fail)
    go_ret
    exact ⟨by rw [HE.out]; rfl, HV1.out.bel⟩
  · have HE : Hid (gt p l = p k) := by show gt p l = p k; unfold gt; rw [h1, if_neg (by omega), Int.toNat_natCast]
    rw [h1] at HI
    have hk' : (k : Int) < 12 := by omega
    have HX := Lib.hid (fun W b => pidx W b k hk)
    clear hg h1
    go_enter Tryd.func18, Tryd.ntmps18
    go_wp2_with (first
      | (refine wl_box rfl _ _ rfl (cw p) rfl ?_; generalize w.alloc (.cells (cw p).toArray 23) = W at *)
      | (go_at_call 26; refine (HI.out _ HV.out.gl).mono ?_; rintro e w1 ⟨rfl, hb⟩; have HV1 := Lib.hid (HV.out.below hb); clear hb)
      | (go_at_call 28; refine (parts_any _ _).mono ?_; rintro e w2 ⟨rfl, hb⟩; have HV2 := Lib.hid (HV1.out.below hb); have c := HV2.out.cell hk; clear hb)
      | (refine wl_index rfl 54 _ _ rfl _ _ _ rfl rfl (HX.out _ _) ?_)
      | fail)
    go_ret
    exact ⟨by rw [HE.out]; rfl, HV2.out.bel⟩
end Go.Proofs.YtdchaalmjhjejaaDoor.Cs
