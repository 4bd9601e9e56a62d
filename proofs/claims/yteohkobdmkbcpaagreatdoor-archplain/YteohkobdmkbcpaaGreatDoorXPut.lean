/- Contracts: put, result, stand. -/
import Derived.Test.YteohkobdmkbcpaaGreatDoorXInst
namespace Go.Proofs.YteohkobdmkbcpaaGreatDoor.Cs
open Go.RowKit
set_option linter.unusedVariables false
set_option linter.unusedSimpArgs false

section
variable {w0 : World} {a : Ad} {S0 : Nat → Prop} {c : Mc}
theorem missed_any (A : Mm.Acc) (hA : ∀ k va i, A = .bad k va i → k = 1 ∨ k = 2 ∨ k = 3) (w : World) : Calls Tryz.prog 138 #[.agg #[.int .i64 (Mm.fk A), .int .u32 (Mm.fa A), .int .u32 (Mm.fi A)]] w fun e w' => ∃ v, e = .returned v ∧ Rp w w' (msd A) v ∧ Below w.heap.size w w' := by
  cases A with
  | ok l =>
    refine (missed_ok 0 0 w).mono ?_
    rintro e w' ⟨rfl, hb⟩
    exact ⟨_, rfl, rfl, hb⟩
  | bad k va i =>
    refine (missed_no k va i _ (hA k va i rfl) rfl w).mono ?_
    rintro e w' ⟨b, rfl, hb, hr, hB⟩
    exact ⟨_, rfl, ⟨b, rfl, hb, hr⟩, hB⟩
theorem ac_bad {u wr : Bool} {va : Int} {n : Nat} (hv : U va) : ∀ k va' i, (c.ac u wr va n).1 = .bad k va' i → k = 1 ∨ k = 2 ∨ k = 3 := fun k va' i h => bad_kd hv h
/-- A write behind a cleared buffer. -/
theorem Ch0.wrote {w w' : World} {S S' : Nat → Prop} {rows : Mm.Rows} {xs' : List Int} (m : Mach w a S c) (ab : ∀ k, Fo a S k → 7 ≤ k) (s : Tl.Step (Fo a S0) (Fo a S) w0 w) (gl : Tl.Ia.Gl w)
    (q : Mm.Ms w' a.mg a.rg a.r a.tg S' c.t rows xs') (s' : Tl.Step (Mm.Rg S a.r) (Mm.Rg S' a.r) w w') : Ch w0 a S0 (c.mem xs') w' ∧ Mv a w w' := by
  obtain ⟨m', t⟩ := m.mmu q s' (fun k hk => by
    rcases hk with hk | hk
    · exact .inl hk
    · exact .inr (.inl hk)) (fun k hk => .inl hk)
  have hK : 7 ≤ w.heap.size := Nat.le_of_lt (Nat.lt_of_le_of_lt (ab _ (.inl rfl)) m.glt)
  refine ⟨⟨⟨S', m', s.trans t, fun k hk => ?_⟩, gl_keep gl fun i hi => t.mods.block i (Nat.lt_of_lt_of_le hi hK) (fun e => absurd (ab i e) (by omega))⟩, m.mv t.mods (fun _ h => h)⟩
  rcases t.grow k hk with e | e
  · exact ab k e
  · exact Nat.le_trans hK e
theorem low_length (x : Int) (n : Nat) : (Rm.low x n).length = n := by simp [Rm.low]
theorem mput (w : World) (h : Ch0 w0 a S0 c w) (va x z : Int) (hv : U va) : Calls Tryz.prog 251 #[.pointer (some ⟨a.mg, 0, none⟩), .int .u32 va, .int .u32 x, .int .i64 z, .bool c.us] w fun e w' =>
    e = .returned (.agg #[.int .i64 (Mm.fk (c.ac c.us true va (max 0 (min z 4)).toNat).1), .int .u32 (Mm.fa (c.ac c.us true va (max 0 (min z 4)).toNat).1), .int .u32 (Mm.fi (c.ac c.us true va (max 0 (min z 4)).toNat).1)]) ∧ Ch w0 a S0 (c.put va x z).2 w' ∧ Mv a w w' := by
  obtain ⟨S, m, q, s, ab⟩ := h.ex
  refine (Mm.put_any a.mg a.rg a.tg a.r S c.t [] _ c.xs _ va x z (max 0 (min z 4)).toNat c.us w q hv (by omega) (acc_eta _ _ _ _ _ _)).mono ?_
  rintro e w' ⟨rfl, S', q', s'⟩
  have := Ch0.wrote m ab s h.gl q' s'
  refine ⟨rfl, ?_⟩
  have e : (c.put va x z).2 = c.mem (Mm.stM c.t c.xs (Mm.walk c.t c.xs c.us true true [] [] va (max 0 (min z 4)).toNat).2 (Rm.low x (max 0 (min z 4)).toNat) (Mm.walk c.t c.xs c.us true true [] [] va (max 0 (min z 4)).toNat).1) := by
    unfold Mc.put Mc.sto Mc.ac
    simp only [low_length]
  rw [e]
  exact this
theorem put_r (va x z : Int) : (c.put va x z).1 = msd (c.ac c.us true va (max 0 (min z 4)).toNat).1 := by
  unfold Mc.put Mc.sto
  simp only [low_length]

set_option maxHeartbeats 1000000 in
set_option maxRecDepth 100000 in
theorem put_any (w : World) (h : Ch w0 a S0 c w) (va x z : Int) (hv : U va) : Calls Tryz.prog 216 #[.pointer (some ⟨a.g, 0, none⟩), .int .u32 va, .int .u32 x, .int .i64 z] w fun e w' =>
    ∃ v, e = .returned v ∧ Rp w w' (c.put va x z).1 v ∧ Ch w0 a S0 (c.put va x z).2 w' ∧ Mv a w w' := by
  have H := Lib.hid h
  have HM := fun W => Lib.hid (missed_any (c.ac c.us true va (max 0 (min z 4)).toNat).1 (ac_bad hv) W)
  have HP : Hid (∀ W, Ch0 w0 a S0 c W → Calls Tryz.prog 251 #[.pointer (some ⟨a.mg, 0, none⟩), .int .u32 va, .int .u32 x, .int .i64 z, .bool c.us] W fun e w' =>
    e = .returned (.agg #[.int .i64 (Mm.fk (c.ac c.us true va (max 0 (min z 4)).toNat).1), .int .u32 (Mm.fa (c.ac c.us true va (max 0 (min z 4)).toNat).1), .int .u32 (Mm.fi (c.ac c.us true va (max 0 (min z 4)).toNat).1)]) ∧ Ch w0 a S0 (c.put va x z).2 w' ∧ Mv a W w') := Lib.hid fun W hW => mput W hW va x z hv
  have HR := Lib.hid (put_r (c := c) va x z)
  generalize (c.ac c.us true va (max 0 (min z 4)).toNat).1 = A at *
  generalize (c.put va x z).1 = r at *
  generalize (c.put va x z).2 = c' at *
  clear h hv
  go_enter Tryz.func216, Tryz.ntmps216
  go_wp2_with (first
    | (go_at_call 50; refine (fresh_any _ H.out).mono ?_; rintro e w1 ⟨rfl, h1, m1⟩; have H1 := Lib.hid h1; have M1 := Lib.hid m1; clear h1 m1)
    | (go_at_call 85; refine (user_any _ H1.out.ch).mono ?_; rintro e w2 ⟨rfl, rfl⟩)
    | (go_at_call 251; refine (HP.out _ H1.out).mono ?_; rintro e w3 ⟨rfl, h3, m3⟩; have H3 := Lib.hid h3; have M3 := Lib.hid m3; clear h3 m3)
    | (go_at_call 138; refine (HM _).out.mono ?_; rintro e w4 ⟨v, rfl, r4, b4⟩; have R4' := Lib.hid r4; have B4 := Lib.hid b4; clear r4 b4)
    | fail)
  have K := nx_below H3.out B4.out
  have L := M1.out.trans M3.out
  refine bodyPost_ret (v := v) (by simp [results, Tryz.results216, go_sem]) rfl ⟨v, rfl, ?_, K.1, L.trans K.2⟩
  rw [HR.out]
  exact R4'.out.from L.size

/-- SCBB and Halt. -/
theorem Ch.box {w : World} (h : Ch w0 a S0 c w) (i : Nat) (u : Value) (sc ha : Int) (hU : U sc) (hs : ([.pointer (some ⟨a.rg, 0, none⟩), .pointer (some ⟨a.mg, 0, none⟩), .pointer (some ⟨a.fg, 0, none⟩), .int .u32 c.sc, .int .i64 c.ha] : List Value).set i u = [.pointer (some ⟨a.rg, 0, none⟩), .pointer (some ⟨a.mg, 0, none⟩), .pointer (some ⟨a.fg, 0, none⟩), .int .u32 sc, .int .i64 ha]) :
    Ch w0 a S0 { c with sc := sc, ha := ha } (w.setCell ⟨a.g, i, none⟩ u) ∧ Mv a w (w.setCell ⟨a.g, i, none⟩ u) :=
  h.next fun S m => by
    have hm := one_set w a.g i u
    have e : ∀ j t, Mm.Typ w j t → t ≠ 70 → (w.setCell ⟨a.g, i, none⟩ u).heap[j]? = w.heap[j]? := fun j t ht hne => hm.block j (typ_lt ht) (fun e => hne (by have e : j = a.g := e; subst e; exact ht.ne m.gtyp))
    obtain ⟨r, k⟩ := m.ms
    obtain ⟨ss, n, f⟩ := m.fi
    have hb := (show Hr.Bk w a.g 70 [_, _, _, _, _] from m.box).set i u
    rw [hs] at hb
    refine ⟨S, ⟨hb, ⟨r, ⟨⟨(e _ _ m.mtyp (by decide)).trans k.mx.box, k.mx.tb.keep (fun j hj => ?_), k.mx.ok⟩, k.mem.keep (e _ _ m.rgtyp (by decide)) (e _ _ m.rtyp (by decide))⟩⟩, ⟨ss, n, (e _ _ m.ftyp (by decide)).trans f.bk, f.ok, f.sl, f.sn⟩, hU⟩, ⟨hm.mono (fun j _ hj => .inl hj), fun _ h => .inl h⟩⟩
    rcases m.styp hj with q | q
    · exact e _ _ q (by decide)
    · exact e _ _ q (by decide)
theorem Ch.halt {w : World} (h : Ch w0 a S0 c w) (x : Int) : Ch w0 a S0 { c with ha := x } (w.setCell ⟨a.g, 4, none⟩ (.int .i64 x)) ∧ Mv a w (w.setCell ⟨a.g, 4, none⟩ (.int .i64 x)) := h.box 4 _ c.sc x h.scU rfl
theorem Ch.scbb {w : World} (h : Ch w0 a S0 c w) (x : Int) (hx : U x) : Ch w0 a S0 { c with sc := x } (w.setCell ⟨a.g, 3, none⟩ (.int .u32 x)) ∧ Mv a w (w.setCell ⟨a.g, 3, none⟩ (.int .u32 x)) := h.box 3 _ x c.ha hx rfl

/-- HALT. -/
def Mc.std (c : Mc) : Option Rz × Mc := if c.us then (some ⟨16, [], false⟩, c) else (none, { c with ha := 1 })
end
set_option maxHeartbeats 1000000 in
set_option maxRecDepth 100000 in
theorem stand_way : Way 93 (fun c _ => c.std) (fun _ => True) := by
  intro w0 a S0 c w d D h hd _ _
  obtain ⟨A, cp, hda⟩ := hd.da
  have d0 := hda.c0
  have H := Lib.hid h
  have HU := Lib.hid (fun W hW => user_any (w0 := w0) (a := a) (S0 := S0) (c := c) W hW)
  have c4 := h.c4
  have cf := h.fr
  have key : ∀ W b, W.heap[b]? = some (.cells #[.int .i64 16, .slice none 0 0, .bool false] 80 (0, 0)) → Rb W b ⟨16, [], false⟩ := fun W b h => ⟨none, 0, h, .inl rfl⟩
  have HKey := Lib.hid key
  show Calls _ _ _ _ fun e w' => ∃ v, e = .returned v ∧ Rp w w' c.std.1 v ∧ Ch w0 a S0 c.std.2 w' ∧ Mv a w w'
  generalize hR : c.std = R
  unfold Mc.std at hR
  have HR := Lib.hid hR
  generalize c.us = u at *
  clear h hd hda key hR
  cases u
  case false =>
    go_enter Tryz.func93, Tryz.ntmps93
    go_wp2_with (first
      | (go_at_call 85; refine (HU.out _ H.out).mono ?_; rintro e w2 ⟨rfl, rfl⟩)
      | fail)
    obtain ⟨h1, h2⟩ := H.out.halt 1
    rw [← HR.out]
    exact bodyPost_ret (v := .pointer none) (by simp [results, Tryz.results93, go_sem]) rfl ⟨_, rfl, rfl, h1, h2⟩
  case true =>
    go_enter Tryz.func93, Tryz.ntmps93
    go_wp2_with (first
      | (go_at_call 85; refine (HU.out _ H.out).mono ?_; rintro e w2 ⟨rfl, rfl⟩)
      | (go_at_call 59; refine (fault_any _ _ _ _ _).mono ?_; rintro e w8 ⟨b, rfl, hb, hc, hB⟩; have b8 := Tl.bel2 (a := w) (by go_grown) hB)
      | fail)
    rw [← HR.out]
    exact bodyPost_ret (v := .pointer (some ⟨b, 0, none⟩)) (by simp [results, Tryz.results93, go_sem]) rfl ⟨_, rfl, ⟨b, rfl, hb, HKey.out _ _ hc⟩, H.out.below b8, Mv.of_below b8⟩
theorem nothing_way : Way 94 (fun c _ => (none, c)) (fun _ => True) := by
  intro w0 a S0 c w d D h hd _ _
  go_enter Tryz.func94, Tryz.ntmps94
  go_wp2
  exact bodyPost_ret (v := .pointer none) (by simp [results, Tryz.results94, go_sem]) rfl ⟨_, rfl, rfl, h, Mv.refl _ _⟩

end Go.Proofs.YteohkobdmkbcpaaGreatDoor.Cs
