/- Contracts: get, set, add, fetch; what the status says. -/
import Derived.Test.YteohkobdmkbcpaaGreatDoorXAcc
namespace Go.Proofs.YteohkobdmkbcpaaGreatDoor.Cs
open Go.RowKit
set_option linter.unusedVariables false
set_option linter.unusedSimpArgs false

section
variable {w0 : World} {a : Ad} {S0 : Nat → Prop} {c : Mc}
theorem acc_eta (t : Mm.Tabs) (xs : List Int) (u wr : Bool) (va : Int) (n : Nat) : Mm.walk t xs u wr true [] [] va n = ((Mm.walk t xs u wr true [] [] va n).1, (Mm.walk t xs u wr true [] [] va n).2) := rfl
theorem mget (w : World) (h : Ch0 w0 a S0 c w) (va z : Int) (hv : U va) : Calls Tryz.prog 137 #[.pointer (some ⟨a.mg, 0, none⟩), .int .u32 va, .int .i64 z, .bool c.us] w fun e w' =>
    e = .returned (.tuple #[.int .u32 (c.get va z).1, .agg #[.int .i64 (Mm.fk (c.ac c.us false va (min z 4).toNat).1), .int .u32 (Mm.fa (c.ac c.us false va (min z 4).toNat).1), .int .u32 (Mm.fi (c.ac c.us false va (min z 4).toNat).1)]]) ∧ Ch w0 a S0 c w' ∧ Mv a w w' := by
  obtain ⟨S, m, q, s, ab⟩ := h.ex
  refine (Mm.get_any a.mg a.rg a.tg a.r S c.t [] _ c.xs _ va z c.us w q hv (acc_eta _ _ _ _ _ _)).mono ?_
  rintro e w' ⟨rfl, S', q', s'⟩
  obtain ⟨m', t⟩ := m.mmu q' s' (fun k hk => .inl hk) (fun k hk => hk)
  have hK : 7 ≤ w.heap.size := Nat.le_of_lt (Nat.lt_of_le_of_lt (ab _ (.inl rfl)) m.glt)
  refine ⟨rfl, ⟨⟨S', m', s.trans t, fun k hk => ?_⟩, gl_keep h.gl fun i hi => t.mods.block i (Nat.lt_of_lt_of_le hi hK) (fun e => absurd (ab i e) (by omega))⟩, m.mv t.mods (fun _ h => h)⟩
  rcases t.grow k hk with e | e
  · exact ab k e
  · exact Nat.le_trans hK e
theorem bad_kd {u wr : Bool} {va k va' i : Int} {n : Nat} (hv : U va) (h : (c.ac u wr va n).1 = .bad k va' i) : k = 1 ∨ k = 2 ∨ k = 3 :=
  (Mm.walk_bad_kd _ _ _ _ _ _ _ (c.ac u wr va n).2 hv (by rw [← h]; rfl)).1.1

set_option maxHeartbeats 1000000 in
set_option maxRecDepth 100000 in
theorem get_ok (w : World) (h : Ch w0 a S0 c w) (va z x : Int) (hv : U va) (hq : c.get va z = (x, none)) : Calls Tryz.prog 79 #[.pointer (some ⟨a.g, 0, none⟩), .int .u32 va, .int .i64 z] w fun e w' =>
    e = .returned (.tuple #[.int .u32 x, .pointer none]) ∧ Ch w0 a S0 c w' ∧ Mv a w w' := by
  have H := Lib.hid h
  have HV := Lib.hid hv
  have hx : (c.get va z).1 = x := by rw [hq]
  have hr : msd (c.ac c.us false va (min z 4).toNat).1 = none := congrArg Prod.snd hq
  obtain ⟨l, hl⟩ := msd_ok (A := (c.ac c.us false va (min z 4).toNat).1) hr
  have HG : Hid (∀ W, Ch0 w0 a S0 c W → Calls Tryz.prog 137 #[.pointer (some ⟨a.mg, 0, none⟩), .int .u32 va, .int .i64 z, .bool c.us] W fun e w' => e = .returned (.tuple #[.int .u32 x, .agg #[.int .i64 0, .int .u32 0, .int .u32 0]]) ∧ Ch w0 a S0 c w' ∧ Mv a W w') := Lib.hid fun W hW => by
    have := mget W hW va z hv
    rw [hl, hx] at this
    exact this
  clear h hv hq hx hr hl l
  go_enter Tryz.func79, Tryz.ntmps79
  go_wp2_with (first
    | (go_at_call 50; refine (fresh_any _ H.out).mono ?_; rintro e w1 ⟨rfl, h1, m1⟩; have H1 := Lib.hid h1; have M1 := Lib.hid m1; clear h1 m1)
    | (go_at_call 85; refine (user_any _ H1.out.ch).mono ?_; rintro e w2 ⟨rfl, rfl⟩)
    | (go_at_call 137; refine (HG.out _ H1.out).mono ?_; rintro e w3 ⟨rfl, h3, m3⟩; have H3 := Lib.hid h3; have M3 := Lib.hid m3; clear h3 m3)
    | (go_at_call 138; refine (missed_ok _ _ _).mono ?_; rintro e w4 ⟨rfl, h4⟩; have H4 := Lib.hid h4; clear h4)
    | fail)
  refine bodyPost_ret (v := .tuple #[.int .u32 x, .pointer none]) (by simp [results, Tryz.results79, go_sem]) rfl ⟨rfl, ?_⟩
  have K := nx_below H3.out (Tl.bel2 (by go_grown) H4.out)
  exact ⟨K.1, (M1.out.trans M3.out).trans K.2⟩

set_option maxHeartbeats 1000000 in
set_option maxRecDepth 100000 in
theorem get_no (w : World) (h : Ch w0 a S0 c w) (va z x : Int) (r : Rz) (hv : U va) (hq : c.get va z = (x, some r)) : Calls Tryz.prog 79 #[.pointer (some ⟨a.g, 0, none⟩), .int .u32 va, .int .i64 z] w fun e w' =>
    ∃ b, e = .returned (.tuple #[.int .u32 x, .pointer (some ⟨b, 0, none⟩)]) ∧ w.heap.size ≤ b ∧ Rb w' b r ∧ Ch w0 a S0 c w' ∧ Mv a w w' := by
  have H := Lib.hid h
  have HV := Lib.hid hv
  have hx : (c.get va z).1 = x := by rw [hq]
  have hr : msd (c.ac c.us false va (min z 4).toNat).1 = some r := congrArg Prod.snd hq
  obtain ⟨k, va', i, hl⟩ := msd_bad hr
  have HK := Lib.hid (bad_kd hv hl)
  rw [hl] at hr
  have HR := Lib.hid hr
  have HG : Hid (∀ W, Ch0 w0 a S0 c W → Calls Tryz.prog 137 #[.pointer (some ⟨a.mg, 0, none⟩), .int .u32 va, .int .i64 z, .bool c.us] W fun e w' => e = .returned (.tuple #[.int .u32 x, .agg #[.int .i64 k, .int .u32 va', .int .u32 i]]) ∧ Ch w0 a S0 c w' ∧ Mv a W w') := Lib.hid fun W hW => by
    have := mget W hW va z hv
    rw [hl, hx] at this
    exact this
  clear h hv hq hx hr hl
  go_enter Tryz.func79, Tryz.ntmps79
  go_wp2_with (first
    | (go_at_call 50; refine (fresh_any _ H.out).mono ?_; rintro e w1 ⟨rfl, h1, m1⟩; have H1 := Lib.hid h1; have M1 := Lib.hid m1; clear h1 m1)
    | (go_at_call 85; refine (user_any _ H1.out.ch).mono ?_; rintro e w2 ⟨rfl, rfl⟩)
    | (go_at_call 137; refine (HG.out _ H1.out).mono ?_; rintro e w3 ⟨rfl, h3, m3⟩; have H3 := Lib.hid h3; have M3 := Lib.hid m3; clear h3 m3)
    | (go_at_call 138; refine (missed_no _ _ _ _ HK.out HR.out _).mono ?_; rintro e w4 ⟨b, rfl, hb, r4, h4⟩; have H4 := Lib.hid h4; have R4 := Lib.hid r4; clear h4 r4)
    | fail)
  have K := nx_below H3.out (Tl.bel2 (by go_grown) H4.out)
  have L := (M1.out.trans M3.out)
  refine bodyPost_ret (v := .tuple #[.int .u32 x, .pointer (some ⟨b, 0, none⟩)]) (by simp [results, Tryz.results79, go_sem]) rfl ⟨b, rfl, ?_, R4.out, K.1, L.trans K.2⟩
  have := L.size
  simp at hb
  omega

set_option maxHeartbeats 400000 in
set_option maxRecDepth 100000 in
theorem set_any (w : World) (h : Ch w0 a S0 c w) (k x : Int) (hx : U x) : Calls Tryz.prog 54 #[.pointer (some ⟨a.g, 0, none⟩), .int .i64 k, .int .u32 x] w fun e w' => e = .returned (.tuple #[]) ∧ Ch w0 a S0 (c.sr k x) w' ∧ Mv a w w' := by
  have H := Lib.hid h
  have c2 := h.c2
  have HX := Lib.hid hx
  clear h hx
  go_enter Tryz.func54, Tryz.ntmps54
  go_wp2_with (first
    | (go_at_call 77; refine (fset _ H.out k x HX.out).mono ?_; rintro e w1 ⟨⟨v, rfl⟩, h1, m1⟩; have H1 := Lib.hid h1; have M1 := Lib.hid m1; clear h1 m1)
    | fail)
  first | go_end0 | (refine bodyPost_ret (results_none rfl _ _ _) rfl ?_)
  exact ⟨rfl, H1.out, M1.out⟩

set_option maxHeartbeats 400000 in
set_option maxRecDepth 100000 in
theorem add_any (w : World) (h : Ch w0 a S0 c w) (k x : Int) (hx : U x) : Calls Tryz.prog 80 #[.pointer (some ⟨a.g, 0, none⟩), .int .i64 k, .int .u32 x] w fun e w' => e = .returned (.tuple #[]) ∧ Ch w0 a S0 (c.add k x) w' ∧ Mv a w w' := by
  have H := Lib.hid h
  have c2 := h.c2
  have HS : Hid (∀ W, Ch w0 a S0 c W → Calls Tryz.prog 54 #[.pointer (some ⟨a.g, 0, none⟩), .int .i64 k, .int .u32 ((c.gr k + x) % 4294967296)] W fun e w' => e = .returned (.tuple #[]) ∧ Ch w0 a S0 (c.add k x) w' ∧ Mv a W w') := Lib.hid fun W hW => set_any W hW k _ (ad_U _ _)
  have hg := gr_U h.eok k
  generalize hgk : c.gr k = q at *
  have HQ := Lib.hid hgk
  obtain ⟨g0, g1⟩ := hg
  obtain ⟨x0, x1⟩ := hx
  clear h hgk
  go_enter Tryz.func80, Tryz.ntmps80
  go_wp2_with (first
    | (go_at_call 55; refine (fget _ H.out k).mono ?_; rintro e w1 ⟨rfl, rfl⟩; rw [HQ.out])
    | (go_at_call 54; refine (HS.out _ H.out).mono ?_; rintro e w1 ⟨rfl, h1, m1⟩; have H1 := Lib.hid h1; have M1 := Lib.hid m1; clear h1 m1)
    | fail)
  first | go_end0 | (refine bodyPost_ret (results_none rfl _ _ _) rfl ?_)
  exact ⟨rfl, H1.out, M1.out⟩

end

end Go.Proofs.YteohkobdmkbcpaaGreatDoor.Cs
