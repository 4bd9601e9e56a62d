/- The walk of RegsStacks. -/
import Derived.Test.YtgljkadelkglbaaHLaw
namespace Go.Proofs.Ytgljkadelkglbaa.Cs
open Go.RowKit Ps Tl

theorem stack_as (w : World) (g : Nat) (e : Re) (ss : List Int) (n : Int) (h : Fi w g e ss n) (u : Bool) (y : Int) (hy : ks e u = y) :
    Calls Try.prog 27 #[.pointer (some ⟨g, 0, none⟩), .bool u] w fun r w' => r = .returned (.int .u32 y) ∧ w = w' := hy ▸ stack_any w g e ss n h u

/-- a File, the state that came in, and one that is kept -/
structure L2 (w W : World) (b g q : Nat) (s : Re) (x : Xs) (e : Re) (ss : List Int) (n : Int) (f : Re) : Prop where
  hd : Hd w W g e ss n
  st : Sb W b s x
  wa : Sb W q f x
  bg : b ≠ g
  qg : q ≠ g
section
variable {w W W' : World} {b g q : Nat} {s e e' f : Re} {x : Xs} {ss ss' : List Int} {n n' : Int}
theorem L2.step (h : L2 w W b g q s x e ss n f) (k : Fi W' g e' ss' n') (m : Mods (One g) W W') : L2 w W' b g q s x e' ss' n' f :=
  ⟨h.hd.step k m, h.st.mods m h.bg, h.wa.mods m h.qg, h.bg, h.qg⟩
theorem L2.below (h : L2 w W b g q s x e ss n f) (m : Below W.heap.size W W') : L2 w W' b g q s x e ss n f :=
  ⟨h.hd.below m, h.st.below m, h.wa.below m, h.bg, h.qg⟩
theorem L2.now (h : L2 w W b g q s x e ss n f) (r : Re) (hr : r.Ok) : L2 w (W.alloc (.cells (r.cells x.l).toArray 28)) b g q s x e ss n f ∧ Sb (W.alloc (.cells (r.cells x.l).toArray 28)) W.heap.size r x :=
  ⟨h.below ((Below.refl _ _).alloc (Nat.le_refl _) _), Sb.new _ _ hr⟩
end
theorem L2.mk' {w W : World} {b g : Nat} {s e : Re} {x : Xs} {ss : List Int} {n : Int} (h : Hd w W g e ss n) (hs : Sb W b s x) (bg : b ≠ g) : L2 w (W.alloc (.cells (e.cells x.l).toArray 28)) b g W.heap.size s x e ss n e :=
  ⟨h.below ((Below.refl _ _).alloc (Nat.le_refl _) _), hs.below ((Below.refl _ _).alloc (Nat.le_refl _) _), Sb.new _ _ h.fi.ok, bg, fun e => by have := h.fi.bk.lt; omega⟩

set_option maxHeartbeats 4000000 in
theorem stacks_walk0 (s : Re) (x : Xs) (k u a c : Int) (w : World) (hs : s.Ok) (hk : U k) (hu : U u) (ha : U a) (hc : U c) :
    Calls Try.prog 5 #[sv s x, .int .u32 k, .int .u32 u, .int .u32 a, .int .u32 c] w fun r w' => r = .returned (.bool true) ∧ Below w.heap.size w w' := by
  have HS := Lib.hid hs
  have HK := Lib.hid hk
  have HU := Lib.hid hu
  have HA := Lib.hid ha
  have HC := Lib.hid hc
  clear hs hk hu ha hc
  go_enter Try.func5, Try.ntmps5
  go_wp2_with (refine wl_box rfl _ _ rfl _ rfl ?_)
  refine (alive_any _).mono ?_
  rintro _ w1 ⟨rfl, b1⟩
  have HT := Lib.hid ((Sb.new w x HS.out).below b1)
  have HB := Lib.hid (below2 ((Below.refl w.heap.size w).alloc (Nat.le_refl _) _) b1)
  clear b1
  have hbl := HT.out.lt
  generalize hb : w.heap.size = b at *
  go_wp2_with fail
  refine (new_any _).mono ?_
  rintro _ w2 ⟨rfl, f2, b2⟩
  have H2 := Lib.hid (Hd.new (hb.symm ▸ HB.out) f2 b2)
  have T2 := Lib.hid (HT.out.below b2)
  have HN : Hid (b ≠ w1.heap.size) := Nat.ne_of_lt hbl
  clear f2 b2 HT HB hbl
  generalize w1.heap.size = g at *
  go_wp2_with (refine wl_state rfl _ rfl b rfl s x T2.out ?_)
  refine (load_any _ g _ s x _ _ H2.out.fi HS.out).mono ?_
  rintro _ w3 ⟨rfl, f3, m3⟩
  have H3 := Lib.hid (H2.out.step f3 m3)
  have T3 := Lib.hid (T2.out.mods m3 HN.out)
  clear f3 m3 H2 T2
  go_wp2_with fail
  refine (setstack_any _ g _ _ _ H3.out.fi false k HK.out).mono ?_
  rintro _ w4 ⟨rfl, f4, m4⟩
  have H4 := Lib.hid (H3.out.step f4 m4)
  have T4 := Lib.hid (T3.out.mods m4 HN.out)
  clear f4 m4 H3 T3
  go_wp2_with fail
  refine (setstack_any _ g _ _ _ H4.out.fi true u HU.out).mono ?_
  rintro _ w5 ⟨rfl, f5, m5⟩
  have H5 := Lib.hid (H4.out.step f5 m5)
  have T5 := Lib.hid (T4.out.mods m5 HN.out)
  clear f5 m5 H4 T4
  have o1 := to_ok HS.out false HK.out
  have o2 := to_ok o1 true HU.out
  have J0 : ks ((s.to (pe s.p false) k).to (pe (s.to (pe s.p false) k).p true) u) false = k := by
    have := ks_else o1 true u
    rw [Bool.not_true] at this
    rw [this, ks_to HS.out]
  have J1 : ks ((s.to (pe s.p false) k).to (pe (s.to (pe s.p false) k).p true) u) true = u := ks_to o1 true u
  have J2 : ((s.to (pe s.p false) k).to (pe (s.to (pe s.p false) k).p true) u).p = s.p := by rw [to_p (pe_ne _ _), to_p (pe_ne _ _)]
  have K0 := Lib.hid J0
  have K1 := Lib.hid J1
  have K2 := Lib.hid J2
  have OK := Lib.hid o2
  clear J0 J1 J2 o1 o2
  generalize (s.to (pe s.p false) k).to (pe (s.to (pe s.p false) k).p true) u = e at *
  go_wp2_with (refine wl_state rfl _ rfl b rfl s x T5.out ?_)
  refine (save_any _ g _ s x _ _ H5.out.fi HS.out).mono ?_
  rintro _ w6 ⟨rfl, b6⟩
  have H6 := Lib.hid (H5.out.below b6)
  have T6 := Lib.hid (T5.out.below b6)
  clear b6 H5 T5
  go_wp2_with (refine wl_keep rfl _ _ rfl w6 (z26_new w6) rfl e x OK.out rfl ?_)
  have H7 := Lib.hid (L2.mk' H6.out T6.out HN.out)
  clear H6 T6 HN
  generalize hW : w6.alloc (.cells (e.cells x.l).toArray 28) = w7 at *
  clear hW
  generalize w6.heap.size = q at *
  refine (put_any _ g _ _ _ H7.out.hd.fi a HA.out).mono ?_
  rintro _ w8 ⟨rfl, f8, m8⟩
  have H8 := Lib.hid (H7.out.step f8 m8)
  clear f8 m8 H7
  have OA := Lib.hid (pt_ok OK.out HA.out)
  have L0 := Lib.hid ((ks_pt OK.out a false).trans K0.out)
  have L1 := Lib.hid ((ks_pt OK.out a true).trans K1.out)
  go_wp2_with fail
  refine (stack_as _ g _ _ _ H8.out.hd.fi false k L0.out).mono ?_
  rintro _ w' ⟨rfl, rfl⟩
  go_wp2_with fail
  refine (stack_as _ g _ _ _ H8.out.hd.fi true u L1.out).mono ?_
  rintro _ w' ⟨rfl, rfl⟩
  go_wp2_with fail
  refine (put_any _ g _ _ _ H8.out.hd.fi c HC.out).mono ?_
  rintro _ w9 ⟨rfl, f9, m9⟩
  have H9 := Lib.hid (H8.out.step f9 m9)
  clear f9 m9 H8
  have OC := Lib.hid (pt_ok OA.out HC.out)
  have M0 := Lib.hid ((ks_pt OA.out c false).trans L0.out)
  have M1 := Lib.hid ((ks_pt OA.out c true).trans L1.out)
  go_wp2_with fail
  refine (stack_as _ g _ _ _ H9.out.hd.fi false k M0.out).mono ?_
  rintro _ w' ⟨rfl, rfl⟩
  go_wp2_with fail
  refine (stack_as _ g _ _ _ H9.out.hd.fi true u M1.out).mono ?_
  rintro _ w' ⟨rfl, rfl⟩
  have cp := H9.out.st.c_p
  go_wp2_with fail
  refine (put_any _ g _ _ _ H9.out.hd.fi s.p HS.out.p).mono ?_
  rintro _ w10 ⟨rfl, f10, m10⟩
  have H10 := Lib.hid (H9.out.step f10 m10)
  clear f10 m10 H9 cp
  have OZ := Lib.hid (pt_ok OC.out HS.out.p)
  have HE : Hid ((pt (pt (pt e a) c) s.p).r = e.r) := by
    show _ = _
    rw [← K2.out]; exact pt_back OK.out HA.out HC.out
  have HP : Hid ((pt (pt (pt e a) c) s.p).p = s.p) := pt_p _ _
  clear K0 K1 L0 L1 M0 M1 OA OC
  generalize pt (pt (pt e a) c) s.p = z at *
  go_wp2_with (refine wl_state rfl _ rfl b rfl s x H10.out.st ?_)
  refine (save_any _ g _ s x _ _ H10.out.hd.fi HS.out).mono ?_
  rintro _ w11 ⟨rfl, b11⟩
  have H11 := Lib.hid (H10.out.below b11)
  clear b11 H10
  obtain ⟨l12, n12⟩ := H11.out.now z OZ.out
  have H12 := Lib.hid l12
  have N12 := Lib.hid n12
  clear l12 n12
  go_upto_region 16 with (refine wl_keep rfl _ _ rfl w11 (z26_new w11) rfl z x OZ.out rfl ?_)
  clear H11
  generalize w11.alloc (.cells (z.cells x.l).toArray 28) = w12 at *
  generalize w11.heap.size = t at *
  have c1' := N12.out.c_p
  rw [HP.out] at c1'
  have c2' := H12.out.st.c_p
  have HR := Lib.hid N12.out.range
  rw [HE.out] at HR
  go_wp2_with (first
    | refine wpList_load_mid rfl 24 _ rfl t 0 (by rfl) (c1 e.r) _ HR.out arr_under rfl (arr_of OK.out.len) ?_
    | refine wpList_load_mid rfl 24 _ rfl q 0 (by rfl) (c1 e.r) _ H12.out.wa.range arr_under rfl (arr_of OK.out.len) ?_
    | refine wl_bin rfl .eql 24 _ _ _ rfl (.agg (c1 e.r).toArray) (.agg (c1 e.r).toArray) (.bool true) rfl rfl (eq_guarda _ _ _ _) (eql_arr _ OK.out.len _) ?_)
  go_ret
  exact ⟨rfl, hb ▸ H12.out.hd.bel⟩
theorem stacks_walk (s : Sx) (k u a c : Int) (w : World) (hs : s.Ok) (hk : (Lit.int .u32 k).wf = true) (hu : (Lit.int .u32 u).wf = true) (ha : (Lit.int .u32 a).wf = true) (hc : (Lit.int .u32 c).wf = true) :
    Calls Try.prog 5 #[sv s.e s.x, .int .u32 k, .int .u32 u, .int .u32 a, .int .u32 c] w fun r w' => r = .returned (.bool true) ∧ Below w.heap.size w w' :=
  stacks_walk0 s.e s.x k u a c w hs (U_of' hk) (U_of' hu) (U_of' ha) (U_of' hc)
end Go.Proofs.Ytgljkadelkglbaa.Cs
