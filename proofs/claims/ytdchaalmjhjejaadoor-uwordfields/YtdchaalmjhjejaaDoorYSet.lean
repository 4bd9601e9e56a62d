/- Contracts of package uword: Set; of the document's: Set. -/
import Derived.Test.YtdchaalmjhjejaaDoorYGet
namespace Go.Proofs.YtdchaalmjhjejaaDoor.Cs
open Go.RowKit Tl Tl.Ia
set_option linter.unusedVariables false
set_option linter.unusedSimpArgs false

/-- a word in a variable, and another one for what is answered -/
structure Sd (w : World) (b r : Nat) (q : Nat → Int) (W : World) : Prop where
  k1 : Bk W b 23 (cw q)
  k2 : Bk W r 23 (cw fun _ => 0)
  b0 : w.heap.size ≤ b
  r0 : w.heap.size ≤ r
  ne : b ≠ r
  bel : Below w.heap.size w W
  gl : Gl W
section
variable {w W W' : World} {b r : Nat} {q : Nat → Int}
theorem Sd.below (h : Sd w b r q W) (m : Below W.heap.size W W') : Sd w b r q W' :=
  ⟨h.k1.below m, h.k2.below m, h.b0, h.r0, h.ne, bel_trans h.bel m h.bel.size, h.gl.below m⟩
theorem Sd.new (w : World) (q : Nat → Int) (g : Gl w) : Sd w w.heap.size (w.heap.size + 1) q ((w.alloc (.cells (cw q).toArray 23)).alloc (.cells #[Value.int IntKind.i64 0, Value.int IntKind.i64 0, Value.int IntKind.i64 0, Value.int IntKind.i64 0, Value.int IntKind.i64 0, Value.int IntKind.i64 0, Value.int IntKind.i64 0, Value.int IntKind.i64 0, Value.int IntKind.i64 0, Value.int IntKind.i64 0, Value.int IntKind.i64 0, Value.int IntKind.i64 0] 23)) := by
  have hs : (w.alloc (.cells (cw q).toArray 23)).heap.size = w.heap.size + 1 := by simp
  have k2 := Bk.new (w.alloc (.cells (cw q).toArray 23)) 23 (cw fun _ => 0)
  rw [hs] at k2
  exact ⟨(Bk.new _ _ _).alloc _, k2, Nat.le_refl _, by omega, by omega, bel2 (al1 _ _) (al1 _ _), g.below (bel2 (al1 _ _) (al1 _ _))⟩
theorem Sd.cell (h : Sd w b r q W) {k : Nat} (hk : k < 12) : W.cell? ⟨b, k, none⟩ = some (.int .i64 (q k)) := h.k1.cell k _ (cw_get q k hk)
theorem Sd.range (h : Sd w b r q W) : W.rangeAt b 0 (cw q) := h.k1.range 0 _ (by simp)
theorem Sd.there (h : Sd w b r q W) : W.there r 0 (cw q).toArray.size := h.k2.there 0 12 (by decide)
theorem Sd.set (h : Sd w b r q W) {k : Nat} (hk : k < 12) (x : Int) : Sd w b r (st q k x) (W.setCell ⟨b, k, none⟩ (.int .i64 x)) := by
  refine ⟨?_, h.k2.other (Ne.symm h.ne) _ _, h.b0, h.r0, h.ne, h.bel.setCell h.b0 _, ?_⟩
  · rw [← cw_set q x k hk]; exact h.k1.set _ _
  · refine ⟨fun j v hv => ?_⟩
    have := h.gl.fl j v hv
    by_cases e : 0 = b
    · exfalso
      have c := h.gl.fl 0 (.string (sb [97, 108, 117])) rfl
      have c2 := h.k1.cell 0 _ (cw_get q 0 (by omega))
      subst e
      have := c2.symm.trans c
      cases this
    · simp only [World.cell?] at this ⊢
      rw [Below.heap_setCell _ _ _ _ e]
      exact this
theorem Sd.load (h : Sd w b r q W) (p : Nat → Int) : (loadVar 23 ⟨r, 0, none⟩).run Tryd.prog (W.setCells r 0 (cw p)) = .ok (.agg (cw p).toArray) (W.setCells r 0 (cw p)) := word_load (h.k2.whole (cw p) rfl)
theorem Sd.fin (h : Sd w b r q W) (p : Nat → Int) : Below w.heap.size w (W.setCells r 0 (cw p)) := below_cells _ _ h.bel h.r0
end
theorem cw_all (p : Nat → Int) : (cw p).toArray.all (·.oneCell') = true := all_oneCell_toArray (cw_one p)

set_option maxHeartbeats 1600000 in
set_option maxRecDepth 100000 in
theorem set_any (p : Nat → Int) (l : List UInt8) (x : Int) (w : World) (hg : Gl w) : Calls Tryd.prog 15 #[.agg (cw p).toArray, .string (sb l), .int .i64 x] w fun e w' => e = .returned (.tuple #[.agg (cw (stF p l x).1).toArray, .int .i64 (stF p l x).2]) ∧ Below w.heap.size w w' := by
  have HV := Lib.hid (Sd.new w p hg)
  have HI := Lib.hid (fun W h => index_any l W h)
  have HA := Lib.hid cw_all
  have HR := Lib.hid Tryd.underlying23
  rcases ix_spec l with ⟨h1, -⟩ | ⟨k, hk, h1, -⟩
  · have HE : Hid (stF p l x = (p, 5)) := by show stF p l x = (p, 5); unfold stF; rw [h1]; rfl
    rw [h1] at HI
    clear hg h1
    go_enter Tryd.func15, Tryd.ntmps15
    go_wp2_with (first
      | (refine wl_box rfl _ _ rfl (cw p) rfl ?_)
      | (go_at_call 26; generalize (w.alloc (.cells (cw p).toArray 23)).alloc (.cells #[Value.int IntKind.i64 0, Value.int IntKind.i64 0, Value.int IntKind.i64 0, Value.int IntKind.i64 0, Value.int IntKind.i64 0, Value.int IntKind.i64 0, Value.int IntKind.i64 0, Value.int IntKind.i64 0, Value.int IntKind.i64 0, Value.int IntKind.i64 0, Value.int IntKind.i64 0, Value.int IntKind.i64 0] 23) = W at *; refine (HI.out _ HV.out.gl).mono ?_; rintro e w1 ⟨rfl, hb⟩; have HV1 := Lib.hid (HV.out.below hb); clear hb)
      | (refine wpList_load_mid rfl 23 _ rfl w.heap.size 0 rfl (cw p) _ HV1.out.range HR.out rfl wd_size ?_)
      | (refine wpList_store_mid rfl 23 _ _ rfl (w.heap.size + 1) 0 (cw p).toArray rfl rfl HV1.out.there wd_size (HA.out p) ?_)
      | fail)
    have hld := HV1.out.load p
    exact bodyPost_ret (v := .tuple #[.agg (cw p).toArray, .int .i64 5]) (by simp [results, Tryd.results15, asAddr, Act.put, hld]) rfl ⟨by rw [HE.out], HV1.out.fin p⟩
  · have HF := Lib.hid (fun W => fits_any x k hk W)
    rw [h1] at HI
    have hk' : (k : Int) < 12 := by omega
    have HK := Lib.hid hk
    have HC := Lib.hid (fun (W : World) (g : Gl W) => g.bit hk)
    have e0 : stF p l x = if ft x (wd k) then (st p k x, 0) else (p, 1) := by unfold stF; rw [h1, if_neg (by omega), Int.toNat_natCast]
    cases hf : ft x (wd k)
    · rw [hf] at e0 HF
      have HE := Lib.hid e0
      clear hg h1 hf e0 hk
      generalize ((wd k : Nat) : Int) = z at *
      go_enter Tryd.func15, Tryd.ntmps15
      go_wp2_with (first
        | (refine wl_box rfl _ _ rfl (cw p) rfl ?_)
        | (go_at_call 26; generalize (w.alloc (.cells (cw p).toArray 23)).alloc (.cells #[Value.int IntKind.i64 0, Value.int IntKind.i64 0, Value.int IntKind.i64 0, Value.int IntKind.i64 0, Value.int IntKind.i64 0, Value.int IntKind.i64 0, Value.int IntKind.i64 0, Value.int IntKind.i64 0, Value.int IntKind.i64 0, Value.int IntKind.i64 0, Value.int IntKind.i64 0, Value.int IntKind.i64 0] 23) = W at *; refine (HI.out _ HV.out.gl).mono ?_; rintro e w1 ⟨rfl, hb⟩; have HV1 := Lib.hid (HV.out.below hb); have c := HC.out _ HV1.out.gl; clear hb)
        | (go_at_call 27; refine (HF.out _).mono ?_; rintro e w2 ⟨rfl, rfl⟩)
        | (refine wpList_load_mid rfl 23 _ rfl w.heap.size 0 rfl (cw p) _ HV1.out.range HR.out rfl wd_size ?_)
        | (refine wpList_store_mid rfl 23 _ _ rfl (w.heap.size + 1) 0 (cw p).toArray rfl rfl HV1.out.there wd_size (HA.out p) ?_)
        | fail)
      have hld := HV1.out.load p
      exact bodyPost_ret (v := .tuple #[.agg (cw p).toArray, .int .i64 1]) (by simp [results, Tryd.results15, asAddr, Act.put, hld]) rfl ⟨by rw [HE.out]; rfl, HV1.out.fin p⟩
    · rw [hf] at e0 HF
      have HE := Lib.hid e0
      have HX := Lib.hid (fun W b => pidx W b k hk)
      clear hg h1 hf e0 hk
      generalize ((wd k : Nat) : Int) = z at *
      go_enter Tryd.func15, Tryd.ntmps15
      go_wp2_with (first
        | (refine wl_box rfl _ _ rfl (cw p) rfl ?_)
        | (go_at_call 26; generalize (w.alloc (.cells (cw p).toArray 23)).alloc (.cells #[Value.int IntKind.i64 0, Value.int IntKind.i64 0, Value.int IntKind.i64 0, Value.int IntKind.i64 0, Value.int IntKind.i64 0, Value.int IntKind.i64 0, Value.int IntKind.i64 0, Value.int IntKind.i64 0, Value.int IntKind.i64 0, Value.int IntKind.i64 0, Value.int IntKind.i64 0, Value.int IntKind.i64 0] 23) = W at *; refine (HI.out _ HV.out.gl).mono ?_; rintro e w1 ⟨rfl, hb⟩; have HV1 := Lib.hid (HV.out.below hb); have c := HC.out _ HV1.out.gl; clear hb)
        | (go_at_call 27; refine (HF.out _).mono ?_; rintro e w2 ⟨rfl, rfl⟩)
        | (go_at_call 28; refine (parts_any _ _).mono ?_; rintro e w2 ⟨rfl, hb⟩; clear c; have HV2 := Lib.hid (HV1.out.below hb); have c := HV2.out.cell HK.out; have f := HV2.out.k1.free k; have HV3 := Lib.hid (HV2.out.set HK.out x); clear hb)
        | (refine wl_index rfl 54 _ _ rfl _ _ _ rfl rfl (HX.out _ _) ?_)
        | (refine wpList_load_mid rfl 23 _ rfl w.heap.size 0 rfl (cw (st p k x)) _ HV3.out.range HR.out rfl wd_size ?_)
        | (refine wpList_store_mid rfl 23 _ _ rfl (w.heap.size + 1) 0 (cw (st p k x)).toArray rfl rfl HV3.out.there wd_size (HA.out _) ?_)
        | fail)
      have hld := HV3.out.load (st p k x)
      exact bodyPost_ret (v := .tuple #[.agg (cw (st p k x)).toArray, .int .i64 0]) (by simp [results, Tryd.results15, asAddr, Act.put, hld]) rfl ⟨by rw [HE.out]; rfl, HV3.out.fin (st p k x)⟩
end Go.Proofs.YtdchaalmjhjejaaDoor.Cs
