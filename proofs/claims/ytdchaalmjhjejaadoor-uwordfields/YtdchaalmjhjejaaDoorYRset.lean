/- Contract of the document's Set. -/
import Derived.Test.YtdchaalmjhjejaaDoorYSet
namespace Go.Proofs.YtdchaalmjhjejaaDoor.Cs
open Go.RowKit Tl Tl.Ia
set_option linter.unusedVariables false
set_option linter.unusedSimpArgs false

theorem ft_neg {x : Int} {b : Nat} (h : x < 0) : ft x b = false := by unfold ft; simp; omega
theorem ft_ge {x : Int} {b : Nat} (h : ft x b = false) (h0 : 0 ≤ x) : (2 : Int) ^ b ≤ x := by
  unfold ft at h
  have := of_decide_eq_false h
  omega

set_option maxHeartbeats 1600000 in
set_option maxRecDepth 100000 in
theorem rset_any (p : Nat → Int) (l : List UInt8) (x : Int) (w : World) (hg : Gl w) : Calls Tryd.prog 16 #[.agg (cw p).toArray, .string (sb l), .int .i64 x] w fun e w' => e = .returned (.tuple #[.agg (cw (stF p l x).1).toArray, .int .i64 (stF p l x).2]) ∧ Below w.heap.size w w' := by
  have HV := Lib.hid (Sd.new w p hg)
  have HI := Lib.hid (fun W => at_any l W)
  have HA := Lib.hid cw_all
  have HR := Lib.hid Tryd.underlying23
  rcases ix_spec l with ⟨h1, -⟩ | ⟨k, hk, h1, -⟩
  · have HE : Hid (stF p l x = (p, 5)) := by show stF p l x = (p, 5); unfold stF; rw [h1]; rfl
    rw [h1] at HI
    clear hg h1
    go_enter Tryd.func16, Tryd.ntmps16
    go_wp2_with (first
      | (refine wl_box rfl _ _ rfl (cw p) rfl ?_)
      | (go_at_call 13; generalize (w.alloc (.cells (cw p).toArray 23)).alloc (.cells #[Value.int IntKind.i64 0, Value.int IntKind.i64 0, Value.int IntKind.i64 0, Value.int IntKind.i64 0, Value.int IntKind.i64 0, Value.int IntKind.i64 0, Value.int IntKind.i64 0, Value.int IntKind.i64 0, Value.int IntKind.i64 0, Value.int IntKind.i64 0, Value.int IntKind.i64 0, Value.int IntKind.i64 0] 23) = W at *; refine (HI.out _).mono ?_; rintro e w1 ⟨rfl, hb⟩; have HV1 := Lib.hid (HV.out.below hb); clear hb)
      | (refine wpList_load_mid rfl 23 _ rfl w.heap.size 0 rfl (cw p) _ HV1.out.range HR.out rfl wd_size ?_)
      | (refine wpList_store_mid rfl 23 _ _ rfl (w.heap.size + 1) 0 (cw p).toArray rfl rfl HV1.out.there wd_size (HA.out p) ?_)
      | fail)
    have hld := HV1.out.load p
    exact bodyPost_ret (v := .tuple #[.agg (cw p).toArray, .int .i64 5]) (by simp [results, Tryd.results16, asAddr, Act.put, hld]) rfl ⟨by rw [HE.out], HV1.out.fin p⟩
  · rw [h1] at HI
    have hk' : (k : Int) < 12 := by omega
    have HK := Lib.hid hk
    have e0 : stF p l x = if ft x (wd k) then (st p k x, 0) else (p, 1) := by unfold stF; rw [h1, if_neg (by omega), Int.toNat_natCast]
    by_cases hx : x < 0
    · rw [ft_neg hx] at e0
      have HE := Lib.hid e0
      clear hg h1 e0 hk
      go_enter Tryd.func16, Tryd.ntmps16
      go_wp2_with (first
        | (refine wl_box rfl _ _ rfl (cw p) rfl ?_)
        | (go_at_call 13; generalize (w.alloc (.cells (cw p).toArray 23)).alloc (.cells #[Value.int IntKind.i64 0, Value.int IntKind.i64 0, Value.int IntKind.i64 0, Value.int IntKind.i64 0, Value.int IntKind.i64 0, Value.int IntKind.i64 0, Value.int IntKind.i64 0, Value.int IntKind.i64 0, Value.int IntKind.i64 0, Value.int IntKind.i64 0, Value.int IntKind.i64 0, Value.int IntKind.i64 0] 23) = W at *; refine (HI.out _).mono ?_; rintro e w1 ⟨rfl, hb⟩; have HV1 := Lib.hid (HV.out.below hb); clear hb)
        | (refine wpList_load_mid rfl 23 _ rfl w.heap.size 0 rfl (cw p) _ HV1.out.range HR.out rfl wd_size ?_)
        | (refine wpList_store_mid rfl 23 _ _ rfl (w.heap.size + 1) 0 (cw p).toArray rfl rfl HV1.out.there wd_size (HA.out p) ?_)
        | fail)
      have hld := HV1.out.load p
      exact bodyPost_ret (v := .tuple #[.agg (cw p).toArray, .int .i64 1]) (by simp [results, Tryd.results16, asAddr, Act.put, hld]) rfl ⟨by rw [HE.out]; rfl, HV1.out.fin p⟩
    · have hx0 : 0 ≤ x := by omega
      have HC := Lib.hid (fun (W : World) (r : Nat) (g : Bk W r 3 (cw fun k => 2 ^ wd k)) => g.cell k _ (cw_get _ k hk))
      cases hf : ft x (wd k)
      · have hge := ft_ge hf hx0
        rw [hf] at e0
        have HE := Lib.hid e0
        clear hg h1 e0 hk hf
        generalize (2 : Int) ^ wd k = z at *
        go_enter Tryd.func16, Tryd.ntmps16
        go_wp2_with (first
          | (refine wl_box rfl _ _ rfl (cw p) rfl ?_)
          | (go_at_call 13; generalize (w.alloc (.cells (cw p).toArray 23)).alloc (.cells #[Value.int IntKind.i64 0, Value.int IntKind.i64 0, Value.int IntKind.i64 0, Value.int IntKind.i64 0, Value.int IntKind.i64 0, Value.int IntKind.i64 0, Value.int IntKind.i64 0, Value.int IntKind.i64 0, Value.int IntKind.i64 0, Value.int IntKind.i64 0, Value.int IntKind.i64 0, Value.int IntKind.i64 0] 23) = W at *; refine (HI.out _).mono ?_; rintro e w1 ⟨rfl, hb⟩; have HV1 := Lib.hid (HV.out.below hb); clear hb)
          | (go_at_call 25; refine (wide_any _).mono ?_; rintro e w2 ⟨r, rfl, hr, hk, hb⟩; have HV2 := Lib.hid (HV1.out.below hb); have c := HC.out _ _ hk; clear hb hr hk)
          | (refine wpList_load_mid rfl 23 _ rfl w.heap.size 0 rfl (cw p) _ HV2.out.range HR.out rfl wd_size ?_)
          | (refine wpList_store_mid rfl 23 _ _ rfl (w.heap.size + 1) 0 (cw p).toArray rfl rfl HV2.out.there wd_size (HA.out p) ?_)
          | fail)
        have hld := HV2.out.load p
        exact bodyPost_ret (v := .tuple #[.agg (cw p).toArray, .int .i64 1]) (by simp [results, Tryd.results16, asAddr, Act.put, hld]) rfl ⟨by rw [HE.out]; rfl, HV2.out.fin p⟩
      · have hlt : x < 2 ^ wd k := ((ft_iff _ _).1 hf).2
        rw [hf] at e0
        have HE := Lib.hid e0
        have HS := Lib.hid (cw_set p x k hk)
        clear hg h1 e0 hk hf
        generalize (2 : Int) ^ wd k = z at *
        go_enter Tryd.func16, Tryd.ntmps16
        go_wp2_with (first
          | (refine wl_box rfl _ _ rfl (cw p) rfl ?_)
          | (go_at_call 13; generalize (w.alloc (.cells (cw p).toArray 23)).alloc (.cells #[Value.int IntKind.i64 0, Value.int IntKind.i64 0, Value.int IntKind.i64 0, Value.int IntKind.i64 0, Value.int IntKind.i64 0, Value.int IntKind.i64 0, Value.int IntKind.i64 0, Value.int IntKind.i64 0, Value.int IntKind.i64 0, Value.int IntKind.i64 0, Value.int IntKind.i64 0, Value.int IntKind.i64 0] 23) = W at *; refine (HI.out _).mono ?_; rintro e w1 ⟨rfl, hb⟩; have HV1 := Lib.hid (HV.out.below hb); clear hb)
          | (go_at_call 25; refine (wide_any _).mono ?_; rintro e w2 ⟨r, rfl, hr, hk, hb⟩; have HV2 := Lib.hid (HV1.out.below hb); have c := HC.out _ _ hk; clear hb hr hk)
          | (refine wpList_load_mid rfl 23 _ rfl w.heap.size 0 rfl (cw p) _ HV2.out.range HR.out rfl wd_size ?_)
          | (go_at_call 14; refine (rparts_any p _).mono ?_; rintro e w3 ⟨r3, rfl, hr, hk, hb⟩; clear c; have hlr := HV2.out.bel.size; have HV3 := Lib.hid (HV2.out.below hb); have c := hk.cell k _ (cw_get p k HK.out); have f := hk.free k; have HP := Lib.hid (hk.set k (.int .i64 x)); rw [HS.out] at HP; have HQ := Lib.hid (show Below w2.heap.size w2 (w3.setCell ⟨r3, k, none⟩ (.int .i64 x)) from hb.setCell hr _); have HV4 := Lib.hid (HV2.out.below HQ.out); clear hb hr hk)
          | (go_at_call 29; refine (word_any (st p k x) _ _ _ (fun j hj => HP.out.cell j _ (cw_get _ j hj))).mono ?_; rintro e w5 ⟨rfl, hb⟩; have HV5 := Lib.hid (HV4.out.below hb); clear hb)
          | (refine wpList_store_mid rfl 23 _ _ rfl (w.heap.size + 1) 0 (cw (st p k x)).toArray rfl rfl HV5.out.there wd_size (HA.out _) ?_)
          | fail)
        have hld := HV5.out.load (st p k x)
        exact bodyPost_ret (v := .tuple #[.agg (cw (st p k x)).toArray, .int .i64 0]) (by simp [results, Tryd.results16, asAddr, Act.put, hld]) rfl ⟨by rw [HE.out]; rfl, HV5.out.fin (st p k x)⟩
end Go.Proofs.YtdchaalmjhjejaaDoor.Cs
