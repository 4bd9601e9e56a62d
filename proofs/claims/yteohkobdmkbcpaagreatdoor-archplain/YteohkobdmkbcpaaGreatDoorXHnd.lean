/- Contract: a handler is gone to. -/
import Derived.Test.YteohkobdmkbcpaaGreatDoorXFrm
import Derived.Test.YteohkobdmkbcpaaGreatDoorXStp
namespace Go.Proofs.YteohkobdmkbcpaaGreatDoor.Cs
open Go.RowKit
set_option linter.unusedVariables false
set_option linter.unusedSimpArgs false

section
variable {w0 : World} {a : Ad} {S0 : Nat → Prop} {c : Mc}
theorem ramget (w : World) (h : Ch w0 a S0 c w) (va : Int) (hv : U va) : Calls Tryz.prog 15 #[.pointer (some ⟨a.rg, 0, none⟩), .int .u32 va, .int .i64 4] w fun e w' =>
    e = .returned (.tuple #[.int .u32 (if va.toNat + 4 ≤ c.xs.length then Rm.val c.xs va.toNat 4 else 0), .int .i64 (if va.toNat + 4 ≤ c.xs.length then 0 else 6)]) ∧ w = w' := by
  obtain ⟨S, m, _⟩ := h.ex
  obtain ⟨rows, q⟩ := m.ms
  obtain ⟨v0, v1⟩ := hv
  by_cases hf : va.toNat + 4 ≤ c.xs.length
  · rw [if_pos hf, if_pos hf]
    have := Rm.get_ok a.rg a.r c.xs va.toNat 4 w q.mem (by omega) hf
    rw [Int.toNat_of_nonneg v0] at this
    exact this
  · rw [if_neg hf, if_neg hf]
    exact Rm.get_not a.rg a.r c.xs va 4 w q.mem v0 v1 (by omega)
theorem R8.typ {w : World} {A : Option Addr} {n cp : Nat} {ys : List Int} (h : Bt.Es.R8 w (.slice A n cp) ys) (h0 : 0 < ys.length) : ∃ r, A = some ⟨r, 0, none⟩ ∧ Mm.Typ w r 5 ∧ n ≤ cp ∧ cp ≤ 9223372036854775807 ∧ ∀ j u, (Bt.Es.cel ys)[j]? = some u → w.cell? ⟨r, j, none⟩ = some u := by
  have h' := h
  rcases Tl.own_shape h' with ⟨h1, h2⟩ | ⟨r, cap, e, hc, hm, _, hcs, _⟩
  · injection h1 with h1 h2' h3
    omega
  · injection e with e1 e2 e3
    subst e1 e3
    refine ⟨r, rfl, ?_, by omega, hm, hcs⟩
    obtain ⟨_, h2 | ⟨g, cap', cur, e, hb, hh, _⟩⟩ := h
    · cases h2.1
    · injection e with e1 e2 e3
      injection e1 with e1
      injection e1 with e1
      subst e1
      exact ⟨_, _, hh⟩
theorem mstore (w : World) (h : Ch0 w0 a S0 c w) (va : Int) (hv : U va) (u : Bool) (A : Option Addr) (n cp : Nat) (ys : List Int) (hR : Bt.Es.R8 w (.slice A n cp) ys) (hn : ys.length = n) (h1 : n ≤ 1000) (h0 : 0 < n) (hby : Rm.Byt ys) (hB : ∀ k, Tl.Bl (.slice A n cp) k → k ≠ a.r) :
    Calls Tryz.prog 51 #[.pointer (some ⟨a.mg, 0, none⟩), .int .u32 va, .bool u, .slice A n cp] w fun e w' =>
    e = .returned (.agg #[.int .i64 (Mm.fk (c.ac u true va n).1), .int .u32 (Mm.fa (c.ac u true va n).1), .int .u32 (Mm.fi (c.ac u true va n).1)]) ∧ Ch w0 a S0 (c.sto u va ys).2 w' ∧ Mv a w w' := by
  obtain ⟨S, m, q, s, ab⟩ := h.ex
  obtain ⟨r, rfl, ht, hc, hm, hcs⟩ := R8.typ hR (by omega)
  have hS : Mm.Sl w (Mm.Rg S a.r) (some ⟨r, 0, none⟩) cp ys := by
    refine ⟨fun _ => ⟨_, rfl, typ_lt ht, fun j v hj => ?_⟩, hby, by omega, hm, fun _ ad e => ?_⟩
    · rw [Bt.Es.Addr.add_lit']; exact hcs j v hj
    · injection e with e
      subst e
      refine ⟨fun hk => ?_, typ_lt ht⟩
      rcases hk with hk | hk
      · rcases m.styp hk with e | e
        · exact absurd (ht.ne e) (by decide)
        · exact absurd (ht.ne e) (by decide)
      · exact hB r (by simp [Tl.Bl, Value.ownBlock]) hk
  refine (Mm.store_any a.mg a.rg a.tg a.r S c.t [] _ c.xs ys _ va u _ n cp w q hv hn (by omega) hS (acc_eta _ _ _ _ _ _)).mono ?_
  rintro e w' ⟨rfl, S', q', s'⟩
  have := Ch0.wrote m ab s h.gl q' s'
  refine ⟨rfl, ?_⟩
  have e : (c.sto u va ys).2 = c.mem (Mm.stM c.t c.xs (Mm.walk c.t c.xs u true true [] [] va n).2 ys (Mm.walk c.t c.xs u true true [] [] va n).1) := by
    unfold Mc.sto Mc.ac
    rw [hn]
  rw [e]
  exact this
theorem Rb.c0 {w : World} {b : Nat} {z : Rz} (h : Rb w b z) : w.cell? ⟨b, 0, none⟩ = some (.int .i64 z.v) := by
  obtain ⟨A, cp, h1, _⟩ := h.ex
  rw [cell_of_row w b 0 _ _ _ h1]; rfl
theorem Ch.stkU {w : World} (h : Ch w0 a S0 c w) (u : Bool) : U (c.stk u) := by
  unfold Mc.stk Hr.Re.at
  have := h.eok
  split
  · exact this.num _
  · split
    · exact this.p
    · split
      · exact this.k
      · exact this.u
theorem val_U (xs : List Int) (va : Nat) (hb : Rm.Byt xs) : U (Rm.val xs va 4) := by
  have h := num_bound (l := (xs.drop va).take 4) (fun y hy => hb y (List.mem_of_mem_drop (List.mem_of_mem_take hy)))
  have hl : ((xs.drop va).take 4).length ≤ 4 := by rw [List.length_take]; omega
  have h2 : (256 : Int) ^ ((xs.drop va).take 4).length ≤ 4294967296 := by
    have h1 : 256 ^ ((xs.drop va).take 4).length ≤ 256 ^ 4 := Nat.pow_le_pow_right (n := 256) (by omega) hl
    have h3 := Int.ofNat_le.2 h1
    rw [Int.natCast_pow] at h3
    exact h3
  exact ⟨h.1, Int.lt_of_lt_of_le h.2 h2⟩
theorem drewN_bel (W : World) (n : Nat) : Below W.heap.size W (W.drewN n) := ⟨rfl, rfl, rfl, Nat.le_refl _, fun _ _ => rfl⟩
theorem fault_k (k va i : Int) : ∀ w, (Instr.field 100 (.agg #[.int .i64 k, .int .u32 va, .int .u32 i]) 0).run Tryz.prog w = .ok (.int .i64 k) w := fun _ => by kernel_rfl
theorem frm_len (z : Rz) : (c.frm z).length = 8 + 4 * z.l.length := by
  unfold Mc.frm
  rw [laid_len]
  simp
  omega
theorem frm_byt (z : Rz) : Rm.Byt (c.frm z) := by
  intro y hy
  unfold Mc.frm laid at hy
  rw [List.mem_flatMap] at hy
  obtain ⟨x, _, hx⟩ := hy
  exact Rm.low_byt x 4 y hx

set_option maxHeartbeats 8000000 in
set_option maxRecDepth 100000 in
theorem handle_any (w : World) (h : Ch w0 a S0 c w) (b : Nat) (z : Rz) (hz : Rb w b z) (hl : z.l.length ≤ 2) (hu : ∀ k, U (z.l.getD k 0)) (hv : 0 ≤ z.v ∧ z.v < 1000) (lv : Int) :
    Calls Tryz.prog 31 #[.pointer (some ⟨a.g, 0, none⟩), .pointer (some ⟨b, 0, none⟩), .int .i64 lv] w fun e w' => e = .returned (.int .i64 z.v) ∧ Ch w0 a S0 (c.hnd z lv) w' ∧ Mv a w w' := by
  have HL := Lib.hid hl
  have HUz := Lib.hid hu
  obtain ⟨v0, v1⟩ := hv
  have H := Lib.hid h
  have HZ := Lib.hid hz
  have c0 := h.c0
  have c3 := h.c3
  have r0 := hz.c0
  obtain ⟨s0, s1⟩ := h.scU
  have hgl := h.glt
  have hfn := frm_len (c := c) z
  obtain ⟨n, hn⟩ : ∃ n, 8 + 4 * z.l.length = n := ⟨_, rfl⟩
  rw [hn] at hfn
  have n0 : (8 : Int) ≤ (n : Int) := by omega
  have n1 : (n : Int) ≤ 16 := by omega
  obtain ⟨E, hE⟩ : ∃ E, c.stk false = E := ⟨_, rfl⟩
  have hEU := h.stkU false
  rw [hE] at hEU
  obtain ⟨e0, e1⟩ := hEU
  have HSe := Lib.hid hE
  have HN := Lib.hid hn
  have HG : Hid (∀ W, Ch w0 a S0 c W → Calls Tryz.prog 15 #[.pointer (some ⟨a.rg, 0, none⟩), .int .u32 ((c.sc + z.v) % 4294967296), .int .i64 4] W fun e w' => e = .returned (.tuple #[.int .u32 (if (c.vec z).toNat + 4 ≤ c.xs.length then Rm.val c.xs (c.vec z).toNat 4 else 0), .int .i64 (if (c.vec z).toNat + 4 ≤ c.xs.length then 0 else 6)]) ∧ W = w') := Lib.hid fun W hW => ramget W hW (c.vec z) (ad_U _ _)
  have hH : c.hnd z lv = if c.xs.length < (c.vec z).toNat + 4 then { c with ha := 3 } else if Rm.val c.xs (c.vec z).toNat 4 % 4 ≠ 0 then { c with ha := 4 } else match c.sto false (sb E n) (c.frm z) with
    | (some _, c') => { c' with ha := 2 }
    | (none, c') => ((c'.psl (Ps.en c'.e.p lv)).sr 14 (sb E n)).sr 15 (Rm.val c.xs (c.vec z).toNat 4) := by
    unfold Mc.hnd
    rw [hfn, hE]
    rfl
  have hBU := val_U c.xs (c.vec z).toNat h.byt
  clear h hz hl hu hn hE
  by_cases h1 : c.xs.length < (c.vec z).toNat + 4
  · rw [if_pos h1] at hH
    rw [if_neg (by omega), if_neg (by omega)] at HG
    have HH := Lib.hid hH
    clear hH h1 hBU
    go_enter Tryz.func31, Tryz.ntmps31
    go_wp2
    go_quiet ((go_at_call 15; exact Calls.quiet_of_same ((HG.out _ (H.out.below (drewN_bel _ _))).mono fun _ _ ⟨q1, q2⟩ => ⟨q1, q2.symm⟩)))
    have HD : Hid (Ch w0 a S0 c (w.drewN nq)) := H.out.below (drewN_bel _ _)
    have HZd : Hid (Rb (w.drewN nq) b z) := HZ.out.below (drewN_bel _ _)
    have HM : Hid (Mv a w (w.drewN nq)) := Mv.of_below (drewN_bel _ _)
    generalize w.drewN nq = W at *
    clear c0 c3 r0 hgl HG
    go_wp2_with (first
      | (go_at_call 48; refine (frame_any _ HD.out b z HZd.out HL.out HUz.out).mono ?_; rintro e w2 ⟨A, cp, rfl, hR, hA, hB⟩; rw [HN.out] at hR hA ⊢; have HR := Lib.hid hR; have HA := Lib.hid hA; have HB := Lib.hid hB; have H2 := Lib.hid (HD.out.below hB); have HZ2 := Lib.hid (HZd.out.below hB); have HM2 := Lib.hid (HM.out.trans (Mv.of_below hB)); have c22 := H2.out.c2; have c24 := H2.out.c4; have f24 := H2.out.fr 4; have r2 := HZ2.out.c0; clear hR hA hB)
      | (go_at_call 49; refine (fstack _ H2.out false).mono ?_; rintro e w3 ⟨rfl, rfl⟩; rw [HSe.out])
      | fail)
    obtain ⟨k1, k2⟩ := H2.out.halt 3
    exact bodyPost_ret (v := .int .i64 z.v) (by simp [results, Tryz.results31, go_sem]) rfl ⟨rfl, by rw [HH.out]; exact k1, HM2.out.trans k2⟩
  · rw [if_neg h1] at hH
    rw [if_pos (by omega), if_pos (by omega)] at HG
    obtain ⟨b0, b1⟩ := hBU
    obtain ⟨B, hB⟩ : ∃ B, Rm.val c.xs (c.vec z).toNat 4 = B := ⟨_, rfl⟩
    rw [hB] at hH HG b0 b1
    clear h1 hB
    by_cases h2 : B % 4 ≠ 0
    · rw [if_pos h2] at hH
      have HH := Lib.hid hH
      have h2' : ¬ B % 4 = 0 := h2
      clear hH
      go_enter Tryz.func31, Tryz.ntmps31
      go_wp2
      go_quiet ((go_at_call 15; exact Calls.quiet_of_same ((HG.out _ (H.out.below (drewN_bel _ _))).mono fun _ _ ⟨q1, q2⟩ => ⟨q1, q2.symm⟩)))
      have HD : Hid (Ch w0 a S0 c (w.drewN nq)) := H.out.below (drewN_bel _ _)
      have HZd : Hid (Rb (w.drewN nq) b z) := HZ.out.below (drewN_bel _ _)
      have HM : Hid (Mv a w (w.drewN nq)) := Mv.of_below (drewN_bel _ _)
      generalize w.drewN nq = W at *
      clear c0 c3 r0 hgl HG
      go_wp2_with (first
        | (go_at_call 48; refine (frame_any _ HD.out b z HZd.out HL.out HUz.out).mono ?_; rintro e w2 ⟨A, cp, rfl, hR, hA, hB⟩; rw [HN.out] at hR hA ⊢; have HR := Lib.hid hR; have HA := Lib.hid hA; have HB := Lib.hid hB; have H2 := Lib.hid (HD.out.below hB); have HZ2 := Lib.hid (HZd.out.below hB); have HM2 := Lib.hid (HM.out.trans (Mv.of_below hB)); have c22 := H2.out.c2; have c24 := H2.out.c4; have f24 := H2.out.fr 4; have r2 := HZ2.out.c0; clear hR hA hB)
        | (go_at_call 49; refine (fstack _ H2.out false).mono ?_; rintro e w3 ⟨rfl, rfl⟩; rw [HSe.out])
        | fail)
      obtain ⟨k1, k2⟩ := H2.out.halt 4
      exact bodyPost_ret (v := .int .i64 z.v) (by simp [results, Tryz.results31, go_sem]) rfl ⟨rfl, by rw [HH.out]; exact k1, HM2.out.trans k2⟩
    · rw [if_neg h2] at hH
      have h2' : B % 4 = 0 := by omega
      have hsn : (c.frm z).length = n := by rw [frm_len]; exact HN.out
      have HRk : Hid (∀ (W w2 w4 : World) A cp, Ch w0 a S0 c W → Bt.Es.R8 w2 (.slice A n cp) (c.frm z) → Tl.Ab W.heap.size (Tl.Bl (.slice A n cp)) → W.heap.size ≤ w2.heap.size → Mv a w2 w4 → Bt.Es.R8 w4 (.slice A n cp) (c.frm z)) := Lib.hid fun W w2 w4 A cp hW hR hA hs hm => by
        obtain ⟨r, rfl, ht, _⟩ := R8.typ hR (by omega)
        refine Tl.own_keep hR fun i hi => ?_
        have e : r = i := by simpa [Value.ownBlock] using hi
        subst e
        refine hm.keep r _ (fun e => ?_) (not_mty (.inr (.inr (.inl rfl)))) ht
        have := hA r (by simp [Tl.Bl, Value.ownBlock])
        obtain ⟨S, m, _⟩ := hW.ex
        have := typ_lt m.rtyp
        omega
      have HAr : Hid (∀ (W : World) , Ch w0 a S0 c W → True → ∀ k, W.heap.size ≤ k → k ≠ a.r) := Lib.hid fun W hW _ k hk e => by
        obtain ⟨S, m, _⟩ := hW.ex
        have := typ_lt m.rtyp
        omega
      cases hac : (c.ac false true (sb E n) n).1 with
      | bad kd va i =>
        have hk := ac_bad (c := c) (u := false) (wr := true) (n := n) (sb_U E n) kd va i hac
        obtain ⟨q, hq⟩ : ∃ q, c.sto false (sb E n) (c.frm z) = (some q, (c.sto false (sb E n) (c.frm z)).2) := by
          have e : (c.sto false (sb E n) (c.frm z)).1 = msd (c.ac false true (sb E n) n).1 := by unfold Mc.sto; rw [hsn]
          rw [hac] at e
          simp only [msd] at e
          exact ⟨_, Prod.ext e rfl⟩
        rw [hq] at hH
        simp only at hH
        have HSt : Hid (∀ W, Ch0 w0 a S0 c W → ∀ A cp, Bt.Es.R8 W (.slice A n cp) (c.frm z) → (∀ k, Tl.Bl (.slice A n cp) k → k ≠ a.r) → Calls Tryz.prog 51 #[.pointer (some ⟨a.mg, 0, none⟩), .int .u32 ((E - (n : Int)) % 4294967296), .bool false, .slice A n cp] W fun e w' => e = .returned (.agg #[.int .i64 kd, .int .u32 va, .int .u32 i]) ∧ Ch w0 a S0 (c.sto false (sb E n) (c.frm z)).2 w' ∧ Mv a W w') := Lib.hid fun W hW A cp hR hB => by
          have := mstore W hW (sb E n) (sb_U _ _) false A n cp (c.frm z) hR hsn (by omega) (by omega) (frm_byt z) hB
          rw [hac] at this
          exact this
        generalize (c.sto false (sb E n) (c.frm z)).2 = c' at *
        have HH := Lib.hid hH
        have hk0 : ¬ kd = 0 := by omega
        have hfk := fault_k kd va i
        clear hH hac hq hsn hk
        go_enter Tryz.func31, Tryz.ntmps31
        go_wp2
        go_quiet ((go_at_call 15; exact Calls.quiet_of_same ((HG.out _ (H.out.below (drewN_bel _ _))).mono fun _ _ ⟨q1, q2⟩ => ⟨q1, q2.symm⟩)))
        have HD : Hid (Ch w0 a S0 c (w.drewN nq)) := H.out.below (drewN_bel _ _)
        have HZd : Hid (Rb (w.drewN nq) b z) := HZ.out.below (drewN_bel _ _)
        have HM : Hid (Mv a w (w.drewN nq)) := Mv.of_below (drewN_bel _ _)
        generalize w.drewN nq = W at *
        clear c0 c3 r0 hgl HG
        go_wp2_with (first
          | (go_at_call 48; refine (frame_any _ HD.out b z HZd.out HL.out HUz.out).mono ?_; rintro e w2 ⟨A, cp, rfl, hR, hA, hB⟩; rw [HN.out] at hR hA ⊢; have HR := Lib.hid hR; have HA := Lib.hid hA; have HB := Lib.hid hB; have H2 := Lib.hid (HD.out.below hB); have HZ2 := Lib.hid (HZd.out.below hB); have HM2 := Lib.hid (HM.out.trans (Mv.of_below hB)); have c22 := H2.out.c2; have c24 := H2.out.c4; have f24 := H2.out.fr 4; have r2 := HZ2.out.c0; clear hR hA hB)
          | (go_at_call 49; refine (fstack _ H2.out false).mono ?_; rintro e w3 ⟨rfl, rfl⟩; rw [HSe.out])
          | (go_at_call 50; refine (fresh_any _ H2.out).mono ?_; rintro e w4 ⟨rfl, h4, m4⟩; have H4 := Lib.hid h4; have HM4 := Lib.hid (HM2.out.trans m4); have HR4 : Hid (Bt.Es.R8 w4 (.slice A n cp) (c.frm z)) := Lib.hid (HRk.out _ _ _ _ _ HD.out HR.out HA.out HB.out.size m4); have HZ4 := Lib.hid (HZ2.out.mv H2.out m4); have HA4 := Lib.hid (fun k hk => HAr.out _ HD.out trivial k (HA.out k hk)); clear h4 m4)
          | (go_at_call 51; refine (HSt.out _ H4.out A cp HR4.out HA4.out).mono ?_; rintro e w5 ⟨rfl, h5, m5⟩; have H5 := Lib.hid h5; have HM5 := Lib.hid (HM4.out.trans m5); have HZ5 := Lib.hid (HZ4.out.mv H4.out.ch m5); have c54 := h5.c4; have f54 := h5.fr 4; have r5 := HZ5.out.c0; have c52 := h5.c2; clear h5 m5)
          | fail)
        obtain ⟨k1, k2⟩ := H5.out.halt 2
        exact bodyPost_ret (v := .int .i64 z.v) (by simp [results, Tryz.results31, go_sem]) rfl ⟨rfl, by rw [HH.out]; exact k1, HM5.out.trans k2⟩
      | ok l =>
        have hq : c.sto false (sb E n) (c.frm z) = (none, (c.sto false (sb E n) (c.frm z)).2) := by
          have e : (c.sto false (sb E n) (c.frm z)).1 = msd (c.ac false true (sb E n) n).1 := by unfold Mc.sto; rw [hsn]
          rw [hac] at e
          exact Prod.ext e rfl
        rw [hq] at hH
        simp only at hH
        have HSt : Hid (∀ W, Ch0 w0 a S0 c W → ∀ A cp, Bt.Es.R8 W (.slice A n cp) (c.frm z) → (∀ k, Tl.Bl (.slice A n cp) k → k ≠ a.r) → Calls Tryz.prog 51 #[.pointer (some ⟨a.mg, 0, none⟩), .int .u32 ((E - (n : Int)) % 4294967296), .bool false, .slice A n cp] W fun e w' => e = .returned (.agg #[.int .i64 0, .int .u32 0, .int .u32 0]) ∧ Ch w0 a S0 (c.sto false (sb E n) (c.frm z)).2 w' ∧ Mv a W w') := Lib.hid fun W hW A cp hR hB => by
          have := mstore W hW (sb E n) (sb_U _ _) false A n cp (c.frm z) hR hsn (by omega) (by omega) (frm_byt z) hB
          rw [hac] at this
          exact this
        generalize (c.sto false (sb E n) (c.frm z)).2 = c' at *
        have HH := Lib.hid hH
        have HEn := Lib.hid (fun W (hW : Ch w0 a S0 c' W) => Ps.enter_any c'.e.p lv hW.eok.p W)
        have HPt : Hid (∀ W, Ch w0 a S0 c' W → Calls Tryz.prog 52 #[.pointer (some ⟨a.fg, 0, none⟩), .int .u32 (Ps.en c'.e.p lv)] W fun e w' => e = .returned (.tuple #[]) ∧ Ch w0 a S0 (c'.psl (Ps.en c'.e.p lv)) w' ∧ Mv a W w') := Lib.hid fun W hW => fput W hW _ (Ps.en_U _ _)
        have HEU : Hid (U ((E - (n : Int)) % 4294967296)) := sb_U E n
        have HBU : Hid (U B) := ⟨b0, b1⟩
        have hfk := fault_k 0 0 0
        clear hH hac hq hsn
        go_enter Tryz.func31, Tryz.ntmps31
        go_wp2
        go_quiet ((go_at_call 15; exact Calls.quiet_of_same ((HG.out _ (H.out.below (drewN_bel _ _))).mono fun _ _ ⟨q1, q2⟩ => ⟨q1, q2.symm⟩)))
        have HD : Hid (Ch w0 a S0 c (w.drewN nq)) := H.out.below (drewN_bel _ _)
        have HZd : Hid (Rb (w.drewN nq) b z) := HZ.out.below (drewN_bel _ _)
        have HM : Hid (Mv a w (w.drewN nq)) := Mv.of_below (drewN_bel _ _)
        generalize w.drewN nq = W at *
        clear c0 c3 r0 hgl HG
        go_wp2_with (first
          | (go_at_call 48; refine (frame_any _ HD.out b z HZd.out HL.out HUz.out).mono ?_; rintro e w2 ⟨A, cp, rfl, hR, hA, hB⟩; rw [HN.out] at hR hA ⊢; have HR := Lib.hid hR; have HA := Lib.hid hA; have HB := Lib.hid hB; have H2 := Lib.hid (HD.out.below hB); have HZ2 := Lib.hid (HZd.out.below hB); have HM2 := Lib.hid (HM.out.trans (Mv.of_below hB)); have c22 := H2.out.c2; have c24 := H2.out.c4; have f24 := H2.out.fr 4; have r2 := HZ2.out.c0; clear hR hA hB)
          | (go_at_call 49; refine (fstack _ H2.out false).mono ?_; rintro e w3 ⟨rfl, rfl⟩; rw [HSe.out])
          | (go_at_call 50; refine (fresh_any _ H2.out).mono ?_; rintro e w4 ⟨rfl, h4, m4⟩; have H4 := Lib.hid h4; have HM4 := Lib.hid (HM2.out.trans m4); have HR4 : Hid (Bt.Es.R8 w4 (.slice A n cp) (c.frm z)) := Lib.hid (HRk.out _ _ _ _ _ HD.out HR.out HA.out HB.out.size m4); have HZ4 := Lib.hid (HZ2.out.mv H2.out m4); have HA4 := Lib.hid (fun k hk => HAr.out _ HD.out trivial k (HA.out k hk)); clear h4 m4)
          | (go_at_call 51; refine (HSt.out _ H4.out A cp HR4.out HA4.out).mono ?_; rintro e w5 ⟨rfl, h5, m5⟩; have H5 := Lib.hid h5; have HM5 := Lib.hid (HM4.out.trans m5); have HZ5 := Lib.hid (HZ4.out.mv H4.out.ch m5); have c54 := h5.c4; have f54 := h5.fr 4; have r5 := HZ5.out.c0; have c52 := h5.c2; clear h5 m5)
          | fail)
        have c52d : w5.drew.cell? ⟨a.g, 2, none⟩ = some (.pointer (some ⟨a.fg, 0, none⟩)) := c52
        have HD5 : Hid (Ch w0 a S0 c' w5.drew) := H5.out.below (Below.refl _ _).drew
        go_region_held3 (fun w' => w'.cell? ⟨a.g, 2, none⟩ = some (.pointer (some ⟨a.fg, 0, none⟩)))
          (first | (with_reducible exact c52d) | (exact h6.c2) | go_keep)
          (first
            | (go_at_call 30; refine (fpsl _ HD5.out).mono ?_; rintro e q1 ⟨rfl, rfl⟩)
            | (go_at_call 53; refine (HEn.out _ HD5.out).mono ?_; rintro e q2 ⟨rfl, rfl⟩)
            | (go_at_call 52; refine (HPt.out _ HD5.out).mono ?_; rintro e w6 ⟨rfl, h6, m6⟩))
        all_goals
          have H6 := Lib.hid h6
          have HM6 := Lib.hid ((HM5.out.trans (Mv.of_below (Below.refl _ _).drew)).trans m6)
          have HZ6 := Lib.hid ((HZ5.out.below (Below.refl _ _).drew).mv HD5.out m6)
          clear h6 m6
          go_wp2_with (first
            | (go_at_call 54; with_reducible refine (set_any _ H6.out 14 _ HEU.out).mono ?_; rintro e w7 ⟨rfl, h7, m7⟩; have H7 := Lib.hid h7; have HM7 := Lib.hid (HM6.out.trans m7); have HZ7 := Lib.hid (HZ6.out.mv H6.out m7); clear h7 m7)
            | (go_at_call 54; with_reducible refine (set_any _ H7.out 15 _ HBU.out).mono ?_; rintro e w8 ⟨rfl, h8, m8⟩; have H8 := Lib.hid h8; have HM8 := Lib.hid (HM7.out.trans m8); have r8 := (HZ7.out.mv H7.out m8).c0; clear h8 m8)
            | fail)
          exact bodyPost_ret (v := .int .i64 z.v) (by simp [results, Tryz.results31, go_sem]) rfl ⟨rfl, by rw [HH.out]; exact H8.out, HM8.out⟩
end
end Go.Proofs.YteohkobdmkbcpaaGreatDoor.Cs
