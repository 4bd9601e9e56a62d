/- The walk of UwordSets. -/
import Derived.Test.YtdchaalmjhjejaaDoorYWs
namespace Go.Proofs.YtdchaalmjhjejaaDoor.Cs
open Go.RowKit Go.ChangeShapes Go.WideShapes Tl Tl.Ia
set_option linter.unusedVariables false
set_option linter.unusedSimpArgs false

set_option maxHeartbeats 6400000 in
set_option maxRecDepth 100000 in
/-- whichever of two sets fails -/
theorem sets_short (p p1 p2 : Nat → Int) (e1 e2 : Int) (a b : List UInt8) (x y : Int) (w : World) (hg : Gl w) (hsa : (a.length : Int) ≤ 256) (hsb : (b.length : Int) ≤ 256) (h1 : StC p a x p1 e1) (h2 : StC p b y p2 e2) (he : ¬ e1 = 0 ∨ e1 = 0 ∧ ¬ e2 = 0) :
    Calls Tryd.prog 8 #[.agg (cw p).toArray, .string (sb a), .string (sb b), .int .i64 x, .int .i64 y] w fun e w' => e = .returned (.bool true) ∧ Below w.heap.size w w' := by
  have HV := Lib.hid (Ws.box w p hg)
  have HA := Lib.hid alive_any
  have C1 := Lib.hid h1
  have C2 := Lib.hid h2
  clear hg h1 h2
  rcases he with he | ⟨rfl, he⟩
  · go_enter Tryd.func8, Tryd.ntmps8
    go_wp2_with (first
      | (refine wl_box rfl _ _ rfl (cw p) rfl ?_; generalize w.alloc (.cells (cw p).toArray 23) = W at *)
      | (go_at_call 9; with_reducible refine (HA.out _ HV.out.gl).mono ?_; rintro e w1 ⟨rfl, hb⟩; replace HV := Lib.hid (HV.out.below hb); clear hb)
      | (refine wl_ld rfl _ rfl w.heap.size rfl p (HV.out.at_ _ _ (by simp)) ?_)
      | (go_at_call 15; with_reducible refine (C1.out _ HV.out.gl).mono ?_; rintro e w2 ⟨rfl, hb⟩; replace HV := Lib.hid (HV.out.below hb); clear hb)
      | (refine wpList_store_mid rfl 23 _ _ rfl w2.heap.size 0 (cw p1).toArray rfl rfl (new_there w2 _) wd_size (cw_all _) ?_; obtain ⟨hk, hb⟩ := new_word w2 p1; generalize (w2.alloc (.cells #[Value.int IntKind.i64 0, Value.int IntKind.i64 0, Value.int IntKind.i64 0, Value.int IntKind.i64 0, Value.int IntKind.i64 0, Value.int IntKind.i64 0, Value.int IntKind.i64 0, Value.int IntKind.i64 0, Value.int IntKind.i64 0, Value.int IntKind.i64 0, Value.int IntKind.i64 0, Value.int IntKind.i64 0] 23)).setCells w2.heap.size 0 (cw p1) = w3 at *; replace HV := Lib.hid (HV.out.add p1 hb w2.heap.size hk); clear hb hk)
      | (go_at_call 15; with_reducible refine (C2.out _ HV.out.gl).mono ?_; rintro e w4 ⟨rfl, hb⟩; replace HV := Lib.hid (HV.out.below hb); clear hb)
      | (refine wpList_store_mid rfl 23 _ _ rfl w4.heap.size 0 (cw p2).toArray rfl rfl (new_there w4 _) wd_size (cw_all _) ?_; obtain ⟨hk, hb⟩ := new_word w4 p2; generalize (w4.alloc (.cells #[Value.int IntKind.i64 0, Value.int IntKind.i64 0, Value.int IntKind.i64 0, Value.int IntKind.i64 0, Value.int IntKind.i64 0, Value.int IntKind.i64 0, Value.int IntKind.i64 0, Value.int IntKind.i64 0, Value.int IntKind.i64 0, Value.int IntKind.i64 0, Value.int IntKind.i64 0, Value.int IntKind.i64 0] 23)).setCells w4.heap.size 0 (cw p2) = w5 at *; replace HV := Lib.hid (HV.out.add p2 hb w4.heap.size hk); clear hb hk)
      | fail)
    go_ret
    exact ⟨rfl, HV.out.bel⟩
  · go_enter Tryd.func8, Tryd.ntmps8
    go_wp2_with (first
      | (refine wl_box rfl _ _ rfl (cw p) rfl ?_; generalize w.alloc (.cells (cw p).toArray 23) = W at *)
      | (go_at_call 9; with_reducible refine (HA.out _ HV.out.gl).mono ?_; rintro e w1 ⟨rfl, hb⟩; replace HV := Lib.hid (HV.out.below hb); clear hb)
      | (refine wl_ld rfl _ rfl w.heap.size rfl p (HV.out.at_ _ _ (by simp)) ?_)
      | (go_at_call 15; with_reducible refine (C1.out _ HV.out.gl).mono ?_; rintro e w2 ⟨rfl, hb⟩; replace HV := Lib.hid (HV.out.below hb); clear hb)
      | (refine wpList_store_mid rfl 23 _ _ rfl w2.heap.size 0 (cw p1).toArray rfl rfl (new_there w2 _) wd_size (cw_all _) ?_; obtain ⟨hk, hb⟩ := new_word w2 p1; generalize (w2.alloc (.cells #[Value.int IntKind.i64 0, Value.int IntKind.i64 0, Value.int IntKind.i64 0, Value.int IntKind.i64 0, Value.int IntKind.i64 0, Value.int IntKind.i64 0, Value.int IntKind.i64 0, Value.int IntKind.i64 0, Value.int IntKind.i64 0, Value.int IntKind.i64 0, Value.int IntKind.i64 0, Value.int IntKind.i64 0] 23)).setCells w2.heap.size 0 (cw p1) = w3 at *; replace HV := Lib.hid (HV.out.add p1 hb w2.heap.size hk); clear hb hk)
      | (go_at_call 15; with_reducible refine (C2.out _ HV.out.gl).mono ?_; rintro e w4 ⟨rfl, hb⟩; replace HV := Lib.hid (HV.out.below hb); clear hb)
      | (refine wpList_store_mid rfl 23 _ _ rfl w4.heap.size 0 (cw p2).toArray rfl rfl (new_there w4 _) wd_size (cw_all _) ?_; obtain ⟨hk, hb⟩ := new_word w4 p2; generalize (w4.alloc (.cells #[Value.int IntKind.i64 0, Value.int IntKind.i64 0, Value.int IntKind.i64 0, Value.int IntKind.i64 0, Value.int IntKind.i64 0, Value.int IntKind.i64 0, Value.int IntKind.i64 0, Value.int IntKind.i64 0, Value.int IntKind.i64 0, Value.int IntKind.i64 0, Value.int IntKind.i64 0, Value.int IntKind.i64 0] 23)).setCells w4.heap.size 0 (cw p2) = w5 at *; replace HV := Lib.hid (HV.out.add p2 hb w4.heap.size hk); clear hb hk)
      | fail)
    go_ret
    exact ⟨rfl, HV.out.bel⟩

set_option maxHeartbeats 6400000 in
set_option maxRecDepth 100000 in
theorem sets_two (p p1 p2 r s : Nat → Int) (a b : List UInt8) (x y : Int) (w : World) (hg : Gl w) (hsa : (a.length : Int) ≤ 256) (hsb : (b.length : Int) ≤ 256) (h1 : StC p a x p1 0) (h2 : StC p b y p2 0) (h3 : StC p1 b y r 0) (h4 : StC p2 a x s 0)
    (he : (a == b) = true ∧ eqw r p2 = true ∧ eqw s p1 = true ∨ (a == b) = false ∧ eqw r s = true ∧ GtC r a x ∧ GtC r b y) :
    Calls Tryd.prog 8 #[.agg (cw p).toArray, .string (sb a), .string (sb b), .int .i64 x, .int .i64 y] w fun e w' => e = .returned (.bool true) ∧ Below w.heap.size w w' := by
  have HV := Lib.hid (Ws.box w p hg)
  have HA := Lib.hid alive_any
  have C1 := Lib.hid h1
  have C2 := Lib.hid h2
  have C3 := Lib.hid h3
  have C4 := Lib.hid h4
  clear hg h1 h2 h3 h4
  rcases he with ⟨hab, h5, h6⟩ | ⟨hab, h5, h6, h7⟩
  · have E1 := Lib.hid h5
    have E2 := Lib.hid h6
    clear h5 h6
    go_enter Tryd.func8, Tryd.ntmps8
    go_wp2_with (first
      | (refine wl_box rfl _ _ rfl (cw p) rfl ?_; generalize w.alloc (.cells (cw p).toArray 23) = W at *)
      | (go_at_call 9; with_reducible refine (HA.out _ HV.out.gl).mono ?_; rintro e w1 ⟨rfl, hb⟩; replace HV := Lib.hid (HV.out.below hb); clear hb)
      | (refine wl_ld rfl _ rfl w.heap.size rfl p (HV.out.at_ _ _ (by simp)) ?_)
      | (go_at_call 15; with_reducible refine (C1.out _ HV.out.gl).mono ?_; rintro e w2 ⟨rfl, hb⟩; replace HV := Lib.hid (HV.out.below hb); clear hb)
      | (refine wpList_store_mid rfl 23 _ _ rfl w2.heap.size 0 (cw p1).toArray rfl rfl (new_there w2 _) wd_size (cw_all _) ?_; obtain ⟨hk, hb⟩ := new_word w2 p1; generalize (w2.alloc (.cells #[Value.int IntKind.i64 0, Value.int IntKind.i64 0, Value.int IntKind.i64 0, Value.int IntKind.i64 0, Value.int IntKind.i64 0, Value.int IntKind.i64 0, Value.int IntKind.i64 0, Value.int IntKind.i64 0, Value.int IntKind.i64 0, Value.int IntKind.i64 0, Value.int IntKind.i64 0, Value.int IntKind.i64 0] 23)).setCells w2.heap.size 0 (cw p1) = w3 at *; replace HV := Lib.hid (HV.out.add p1 hb w2.heap.size hk); clear hb hk)
      | (go_at_call 15; with_reducible refine (C2.out _ HV.out.gl).mono ?_; rintro e w4 ⟨rfl, hb⟩; replace HV := Lib.hid (HV.out.below hb); clear hb)
      | (refine wpList_store_mid rfl 23 _ _ rfl w4.heap.size 0 (cw p2).toArray rfl rfl (new_there w4 _) wd_size (cw_all _) ?_; obtain ⟨hk, hb⟩ := new_word w4 p2; generalize (w4.alloc (.cells #[Value.int IntKind.i64 0, Value.int IntKind.i64 0, Value.int IntKind.i64 0, Value.int IntKind.i64 0, Value.int IntKind.i64 0, Value.int IntKind.i64 0, Value.int IntKind.i64 0, Value.int IntKind.i64 0, Value.int IntKind.i64 0, Value.int IntKind.i64 0, Value.int IntKind.i64 0, Value.int IntKind.i64 0] 23)).setCells w4.heap.size 0 (cw p2) = w5 at *; replace HV := Lib.hid (HV.out.add p2 hb w4.heap.size hk); clear hb hk)
      | (go_at_call 15; with_reducible refine (C3.out _ HV.out.gl).mono ?_; rintro e w6 ⟨rfl, hb⟩; replace HV := Lib.hid (HV.out.below hb); clear hb)
      | (refine wpList_store_mid rfl 23 _ _ rfl w6.heap.size 0 (cw r).toArray rfl rfl (new_there w6 _) wd_size (cw_all _) ?_; obtain ⟨hk, hb⟩ := new_word w6 r; generalize (w6.alloc (.cells #[Value.int IntKind.i64 0, Value.int IntKind.i64 0, Value.int IntKind.i64 0, Value.int IntKind.i64 0, Value.int IntKind.i64 0, Value.int IntKind.i64 0, Value.int IntKind.i64 0, Value.int IntKind.i64 0, Value.int IntKind.i64 0, Value.int IntKind.i64 0, Value.int IntKind.i64 0, Value.int IntKind.i64 0] 23)).setCells w6.heap.size 0 (cw r) = w7 at *; replace HV := Lib.hid (HV.out.add r hb w6.heap.size hk); clear hb hk)
      | (go_at_call 15; with_reducible refine (C4.out _ HV.out.gl).mono ?_; rintro e w8 ⟨rfl, hb⟩; replace HV := Lib.hid (HV.out.below hb); clear hb)
      | (refine wpList_store_mid rfl 23 _ _ rfl w8.heap.size 0 (cw s).toArray rfl rfl (new_there w8 _) wd_size (cw_all _) ?_; obtain ⟨hk, hb⟩ := new_word w8 s; generalize (w8.alloc (.cells #[Value.int IntKind.i64 0, Value.int IntKind.i64 0, Value.int IntKind.i64 0, Value.int IntKind.i64 0, Value.int IntKind.i64 0, Value.int IntKind.i64 0, Value.int IntKind.i64 0, Value.int IntKind.i64 0, Value.int IntKind.i64 0, Value.int IntKind.i64 0, Value.int IntKind.i64 0, Value.int IntKind.i64 0] 23)).setCells w8.heap.size 0 (cw s) = w9 at *; replace HV := Lib.hid (HV.out.add s hb w8.heap.size hk); clear hb hk)
      | (refine wl_ld rfl _ rfl w2.heap.size rfl p1 (HV.out.at_ _ _ (by simp)) ?_)
      | (refine wl_ld rfl _ rfl w4.heap.size rfl p2 (HV.out.at_ _ _ (by simp)) ?_)
      | (refine wl_ld rfl _ rfl w6.heap.size rfl r (HV.out.at_ _ _ (by simp)) ?_)
      | (refine wl_ld rfl _ rfl w8.heap.size rfl s (HV.out.at_ _ _ (by simp)) ?_)
      | (with_reducible refine wl_eqw rfl _ _ _ rfl _ _ rfl rfl ?_; rw [E1.out])
      | (with_reducible refine wl_eqw rfl _ _ _ rfl _ _ rfl rfl ?_; rw [E2.out])
      | fail)
    go_ret
    exact ⟨rfl, HV.out.bel⟩
  · have E1 := Lib.hid h5
    have G1 := Lib.hid h6
    have G2 := Lib.hid h7
    clear h5 h6 h7
    go_enter Tryd.func8, Tryd.ntmps8
    go_wp2_with (first
      | (refine wl_box rfl _ _ rfl (cw p) rfl ?_; generalize w.alloc (.cells (cw p).toArray 23) = W at *)
      | (go_at_call 9; with_reducible refine (HA.out _ HV.out.gl).mono ?_; rintro e w1 ⟨rfl, hb⟩; replace HV := Lib.hid (HV.out.below hb); clear hb)
      | (refine wl_ld rfl _ rfl w.heap.size rfl p (HV.out.at_ _ _ (by simp)) ?_)
      | (go_at_call 15; with_reducible refine (C1.out _ HV.out.gl).mono ?_; rintro e w2 ⟨rfl, hb⟩; replace HV := Lib.hid (HV.out.below hb); clear hb)
      | (refine wpList_store_mid rfl 23 _ _ rfl w2.heap.size 0 (cw p1).toArray rfl rfl (new_there w2 _) wd_size (cw_all _) ?_; obtain ⟨hk, hb⟩ := new_word w2 p1; generalize (w2.alloc (.cells #[Value.int IntKind.i64 0, Value.int IntKind.i64 0, Value.int IntKind.i64 0, Value.int IntKind.i64 0, Value.int IntKind.i64 0, Value.int IntKind.i64 0, Value.int IntKind.i64 0, Value.int IntKind.i64 0, Value.int IntKind.i64 0, Value.int IntKind.i64 0, Value.int IntKind.i64 0, Value.int IntKind.i64 0] 23)).setCells w2.heap.size 0 (cw p1) = w3 at *; replace HV := Lib.hid (HV.out.add p1 hb w2.heap.size hk); clear hb hk)
      | (go_at_call 15; with_reducible refine (C2.out _ HV.out.gl).mono ?_; rintro e w4 ⟨rfl, hb⟩; replace HV := Lib.hid (HV.out.below hb); clear hb)
      | (refine wpList_store_mid rfl 23 _ _ rfl w4.heap.size 0 (cw p2).toArray rfl rfl (new_there w4 _) wd_size (cw_all _) ?_; obtain ⟨hk, hb⟩ := new_word w4 p2; generalize (w4.alloc (.cells #[Value.int IntKind.i64 0, Value.int IntKind.i64 0, Value.int IntKind.i64 0, Value.int IntKind.i64 0, Value.int IntKind.i64 0, Value.int IntKind.i64 0, Value.int IntKind.i64 0, Value.int IntKind.i64 0, Value.int IntKind.i64 0, Value.int IntKind.i64 0, Value.int IntKind.i64 0, Value.int IntKind.i64 0] 23)).setCells w4.heap.size 0 (cw p2) = w5 at *; replace HV := Lib.hid (HV.out.add p2 hb w4.heap.size hk); clear hb hk)
      | (go_at_call 15; with_reducible refine (C3.out _ HV.out.gl).mono ?_; rintro e w6 ⟨rfl, hb⟩; replace HV := Lib.hid (HV.out.below hb); clear hb)
      | (refine wpList_store_mid rfl 23 _ _ rfl w6.heap.size 0 (cw r).toArray rfl rfl (new_there w6 _) wd_size (cw_all _) ?_; obtain ⟨hk, hb⟩ := new_word w6 r; generalize (w6.alloc (.cells #[Value.int IntKind.i64 0, Value.int IntKind.i64 0, Value.int IntKind.i64 0, Value.int IntKind.i64 0, Value.int IntKind.i64 0, Value.int IntKind.i64 0, Value.int IntKind.i64 0, Value.int IntKind.i64 0, Value.int IntKind.i64 0, Value.int IntKind.i64 0, Value.int IntKind.i64 0, Value.int IntKind.i64 0] 23)).setCells w6.heap.size 0 (cw r) = w7 at *; replace HV := Lib.hid (HV.out.add r hb w6.heap.size hk); clear hb hk)
      | (go_at_call 15; with_reducible refine (C4.out _ HV.out.gl).mono ?_; rintro e w8 ⟨rfl, hb⟩; replace HV := Lib.hid (HV.out.below hb); clear hb)
      | (refine wpList_store_mid rfl 23 _ _ rfl w8.heap.size 0 (cw s).toArray rfl rfl (new_there w8 _) wd_size (cw_all _) ?_; obtain ⟨hk, hb⟩ := new_word w8 s; generalize (w8.alloc (.cells #[Value.int IntKind.i64 0, Value.int IntKind.i64 0, Value.int IntKind.i64 0, Value.int IntKind.i64 0, Value.int IntKind.i64 0, Value.int IntKind.i64 0, Value.int IntKind.i64 0, Value.int IntKind.i64 0, Value.int IntKind.i64 0, Value.int IntKind.i64 0, Value.int IntKind.i64 0, Value.int IntKind.i64 0] 23)).setCells w8.heap.size 0 (cw s) = w9 at *; replace HV := Lib.hid (HV.out.add s hb w8.heap.size hk); clear hb hk)
      | (refine wl_ld rfl _ rfl w2.heap.size rfl p1 (HV.out.at_ _ _ (by simp)) ?_)
      | (refine wl_ld rfl _ rfl w4.heap.size rfl p2 (HV.out.at_ _ _ (by simp)) ?_)
      | (refine wl_ld rfl _ rfl w6.heap.size rfl r (HV.out.at_ _ _ (by simp)) ?_)
      | (refine wl_ld rfl _ rfl w8.heap.size rfl s (HV.out.at_ _ _ (by simp)) ?_)
      | (with_reducible refine wl_eqw rfl _ _ _ rfl _ _ rfl rfl ?_; rw [E1.out])
      | (go_at_call 18; with_reducible refine (G1.out _ HV.out.gl).mono ?_; rintro e w10 ⟨rfl, hb⟩; replace HV := Lib.hid (HV.out.below hb); clear hb)
      | (go_at_call 18; with_reducible refine (G2.out _ HV.out.gl).mono ?_; rintro e w11 ⟨rfl, hb⟩; replace HV := Lib.hid (HV.out.below hb); clear hb)
      | fail)
    go_ret
    exact ⟨rfl, HV.out.bel⟩

set_option maxHeartbeats 6400000 in
set_option maxRecDepth 100000 in
theorem sets_walk (p : Nat → Int) (sa sb' : ByteArray) (x y : Int) (w : World) (_ : (Lit.int .i64 x).wf = true) (_ : (Lit.int .i64 y).wf = true) (hg : Gl w) :
    Calls Tryd.prog 8 #[.agg (cw p).toArray, .string sa, .string sb', .int .i64 x, .int .i64 y] w fun e w' => e = .returned (.bool true) ∧ Below w.heap.size w w' := by
  by_cases hla : 256 < sa.size
  · have HV := Lib.hid (Ws.box w p hg)
    have HA := Lib.hid alive_any
    clear hg
    go_enter Tryd.func8, Tryd.ntmps8
    go_wp2_with (first
      | (refine wl_box rfl _ _ rfl (cw p) rfl ?_; generalize w.alloc (.cells (cw p).toArray 23) = W at *)
      | (go_at_call 9; with_reducible refine (HA.out _ HV.out.gl).mono ?_; rintro e w1 ⟨rfl, hb⟩; replace HV := Lib.hid (HV.out.below hb); clear hb)
      | fail)
    go_ret
    exact ⟨rfl, HV.out.bel⟩
  · by_cases hlb : 256 < sb'.size
    · have HV := Lib.hid (Ws.box w p hg)
      have HA := Lib.hid alive_any
      clear hg
      have hla : sa.size ≤ 256 := by omega
      go_enter Tryd.func8, Tryd.ntmps8
      go_wp2_with (first
        | (refine wl_box rfl _ _ rfl (cw p) rfl ?_; generalize w.alloc (.cells (cw p).toArray 23) = W at *)
        | (go_at_call 9; with_reducible refine (HA.out _ HV.out.gl).mono ?_; rintro e w1 ⟨rfl, hb⟩; replace HV := Lib.hid (HV.out.below hb); clear hb)
        | fail)
      go_ret
      exact ⟨rfl, HV.out.bel⟩
    · rw [sb_of sa, sb_size] at hla
      rw [sb_of sb', sb_size] at hlb
      rw [sb_of sa, sb_of sb']
      generalize sa.data.toList = a at *
      generalize sb'.data.toList = b at *
      rcases stF_cases p a x with ⟨e1, h1, n1⟩ | ⟨i, hi, xi, ai, fi, h1⟩
      · exact sets_short p p _ e1 _ a b x y w hg (by omega) (by omega) (stC_of h1) (stC_of (q := (stF p b y).1) (e := (stF p b y).2) rfl) (.inl (by simpa using n1))
      · rcases stF_cases p b y with ⟨e2, h2, n2⟩ | ⟨j, hj, xj, bj, fj, h2⟩
        · exact sets_short p _ _ 0 e2 a b x y w hg (by omega) (by omega) (stC_of h1) (stC_of h2) (.inr ⟨rfl, by simpa using n2⟩)
        · refine sets_two p _ _ _ _ a b x y w hg (by omega) (by omega) (stC_of h1) (stC_of h2) (stC_of (stF_at _ xj fj)) (stC_of (stF_at _ xi fi)) ?_
          by_cases e : a = b
          · left
            have eij : i = j := by rw [e, xj] at xi; omega
            subst eij
            refine ⟨by simpa using e, eqw_of fun k _ => ?_, eqw_of fun k _ => ?_⟩ <;> (unfold st; split <;> rfl)
          · right
            have nij : i ≠ j := fun h => e (by rw [ai, bj, h])
            refine ⟨by simpa using e, eqw_of fun k _ => ?_, gtC_of ?_, gtC_of ?_⟩
            · unfold st
              by_cases h1 : k = i
              · subst h1; rw [if_neg nij, if_pos rfl, if_pos rfl]
              · by_cases h2 : k = j
                · subst h2; rw [if_pos rfl, if_neg h1, if_pos rfl]
                · rw [if_neg h2, if_neg h1, if_neg h1, if_neg h2]
            · rw [gt_at _ xi, st_other _ _ nij, st_same]
            · rw [gt_at _ xj, st_same]
end Go.Proofs.YtdchaalmjhjejaaDoor.Cs
