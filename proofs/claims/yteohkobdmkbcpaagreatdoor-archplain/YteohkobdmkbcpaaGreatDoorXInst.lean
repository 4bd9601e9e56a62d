/- Contract: instruction. -/
import Derived.Test.YteohkobdmkbcpaaGreatDoorXOk
import Derived.Deep.RegionLaw
namespace Go.Proofs.YteohkobdmkbcpaaGreatDoor.Cs
open Go.RowKit
set_option linter.unusedVariables false
set_option linter.unusedSimpArgs false

/-- An instruction goes on. -/
def WayG (f : FuncId) (F : Mc → Dg → Option Rz × Mc) (q : Tl.Ia.Oq → Prop) : Prop :=
  ∀ (w0 : World) (a : Ad) (S0 : Nat → Prop) (c : Mc) (w : World) (d : Nat) (D : Dg), Ch w0 a S0 c w → Do w a d D → q D.op → D.l = [] →
    Calls Tryz.prog f #[.pointer (some ⟨d, 0, none⟩)] w fun e w' => ∃ v, e = .returned v ∧ Rp w w' (F c D).1 v ∧ Ch w0 a S0 (F c D).2 w' ∧ Mv a w w'

theorem cells8 {w : World} {b t : Nat} {v0 v1 v2 v3 v4 v5 v6 v7 : Value} (h : w.heap[b]? = some (.cells #[v0, v1, v2, v3, v4, v5, v6, v7] t (0, 0))) : w.cell? ⟨b, 0, none⟩ = some v0 ∧ w.cell? ⟨b, 1, none⟩ = some v1 ∧ w.cell? ⟨b, 2, none⟩ = some v2 ∧ w.cell? ⟨b, 3, none⟩ = some v3 ∧ w.cell? ⟨b, 4, none⟩ = some v4 ∧ w.cell? ⟨b, 5, none⟩ = some v5 ∧ w.cell? ⟨b, 6, none⟩ = some v6 ∧ w.cell? ⟨b, 7, none⟩ = some v7 ∧ ∀ i, w.frozen? ⟨b, i, none⟩ = false :=
  ⟨by rw [cell_of_row w b 0 _ _ _ h]; rfl, by rw [cell_of_row w b 1 _ _ _ h]; rfl, by rw [cell_of_row w b 2 _ _ _ h]; rfl, by rw [cell_of_row w b 3 _ _ _ h]; rfl, by rw [cell_of_row w b 4 _ _ _ h]; rfl, by rw [cell_of_row w b 5 _ _ _ h]; rfl, by rw [cell_of_row w b 6 _ _ _ h]; rfl, by rw [cell_of_row w b 7 _ _ _ h]; rfl, fun i => by simp [World.frozen?, h]⟩
theorem mods5b (w : World) (b i0 i1 i2 i3 i4 : Nat) (v0 v1 v2 v3 v4 : Value) : Tl.Mods (Hr.One b) w (((((w.setCell ⟨b, i0, none⟩ v0).setCell ⟨b, i1, none⟩ v1).setCell ⟨b, i2, none⟩ v2).setCell ⟨b, i3, none⟩ v3).setCell ⟨b, i4, none⟩ v4) :=
  (((((Tl.Mods.refl (Hr.One b) w).set (p := ⟨b, i0, none⟩) v0 (.inl rfl)).set (p := ⟨b, i1, none⟩) v1 (.inl rfl)).set (p := ⟨b, i2, none⟩) v2 (.inl rfl)).set (p := ⟨b, i3, none⟩) v3 (.inl rfl)).set (p := ⟨b, i4, none⟩) v4 (.inl rfl)
theorem ro_at {w : World} {A : Option Addr} {n cp : Nat} {ops : List (Int × Int)} (h : Tl.Ia.Ro w (.slice A n cp) ops) (hn : ops.length = n) {k : Nat} (hk : k < n) : ∃ r, A = some ⟨r, 0, none⟩ ∧ r < w.heap.size ∧ w.cell? ⟨r, k * 2, none⟩ = some (.int .u8 (Tl.Ia.opn ops k).1) ∧ w.cell? ⟨r, k * 2 + 1, none⟩ = some (.int .i64 (Tl.Ia.opn ops k).2) := by
  rcases Tl.own_shape h with ⟨_, e⟩ | ⟨r, cap, e, _, _, hr, hc, _⟩
  · omega
  · injection e with e1 _ _
    subst e1
    exact ⟨r, rfl, hr, hc _ _ (Tl.Ia.cop_get0 ops k (by omega)), hc _ _ (Tl.Ia.cop_get1 ops k (by omega))⟩
theorem opn_drop (ops : List (Int × Int)) (k : Nat) (h : k < ops.length) : ops.drop k = Tl.Ia.opn ops k :: ops.drop (k + 1) := by
  rw [List.drop_eq_getElem_cons h]
  congr 1
  simp [Tl.Ia.opn, List.getD, h]
theorem opn_mem (ops : List (Int × Int)) (k : Nat) (h : k < ops.length) : Tl.Ia.opn ops k ∈ ops := by
  have e : Tl.Ia.opn ops k = ops[k] := by simp [Tl.Ia.opn, List.getD, h]
  rw [e]; exact List.getElem_mem h
/-- The operands so far. -/
structure Lo (w : World) (w0 : World) (a : Ad) (S0 : Nat → Prop) (c : Mc) (st : Int) (q : Tl.Ia.Oq) (d g : Nat) (A : Option Addr) (cp : Nat) (k : Nat) (W : World) : Prop where
  ex : ∃ l c' v, l.length = k ∧ c'.Ok ∧ Ch w0 a S0 c' W ∧ Mc.evs c' (q.ops.drop k) l = Mc.evs c q.ops [] ∧ R4 W v l ∧
    W.heap[d]? = some (.cells #[.pointer (some ⟨a.g, 0, none⟩), .int .u32 st, .int .i64 q.code, .string (Tl.Ia.sb q.name), .int .i64 q.cls, .int .i64 q.alu, .slice A q.ops.length cp, v] 112 (0, 0)) ∧
    Tl.Ab (d + 1) (Tl.Bl v) ∧ (∀ j, j < k → (l.getD j zod).Ok ∧ (l.getD j zod).z = (Tl.Ia.opn q.ops j).2)
  mv : Mv a w W
  ro : Tl.Ia.Ro W (.slice A q.ops.length cp) q.ops
  rab : Tl.Ab (d + 1) (Tl.Bl (.slice A q.ops.length cp))

section
variable {w0 : World} {a : Ad} {S0 : Nat → Prop} {c : Mc}
set_option maxHeartbeats 2000000 in
set_option maxRecDepth 100000 in
theorem inst_any (F G : Mc → Dg → Option Rz × Mc) (w : World) (h : Ch w0 a S0 c w)
    (hF : ∀ x c', c.fet = (x, none, c') → (Tl.Ia.prg x).2 = true → c'.fp = false → Way 63 F (· = (Tl.Ia.prg x).1))
    (hG : ∀ x c', c.fet = (x, none, c') → (Tl.Ia.prg x).2 = true → c'.fp = true → c'.lts (Tl.Ia.prg x).1.cls = true → WayG 61 G (· = (Tl.Ia.prg x).1)) :
    Calls Tryz.prog 33 #[.pointer (some ⟨a.g, 0, none⟩)] w fun e w' =>
    ∃ v, e = .returned v ∧ Rp w w' (c.inst F G).1 v ∧ Ch w0 a S0 (c.inst F G).2 w' ∧ Mv a w w' := by
  have H := Lib.hid h
  have HF := Lib.hid hF
  have HG := Lib.hid hG
  generalize hI : c.inst F G = I
  have HI := Lib.hid hI
  have hu := gr_U h.eok 15
  have d2 := h.c2
  generalize hst : c.gr 15 = st at hu
  have HSt := Lib.hid hst
  clear h hF hG hI
  go_enter Tryz.func33, Tryz.ntmps33
  go_upto_region 2 with (first
    | (go_at_call 55; refine (fget _ H.out 15).mono ?_; rintro e w1 ⟨rfl, rfl⟩; rw [HSt.out])
    | fail)
  have B1 : Below w.heap.size w (w.alloc (.cells #[.pointer (some ⟨a.g, 0, none⟩), .int .u32 st, .int .i64 0, .string ⟨#[]⟩, .int .i64 0, .int .i64 0, .slice none 0 0, .slice none 0 0] 112)) := by go_grown
  have hd1 : (w.alloc (.cells #[.pointer (some ⟨a.g, 0, none⟩), .int .u32 st, .int .i64 0, .string ⟨#[]⟩, .int .i64 0, .int .i64 0, .slice none 0 0, .slice none 0 0] 112)).heap[w.heap.size]? = some (.cells #[.pointer (some ⟨a.g, 0, none⟩), .int .u32 st, .int .i64 0, .string ⟨#[]⟩, .int .i64 0, .int .i64 0, .slice none 0 0, .slice none 0 0] 112 (0, 0)) := heap_alloc_new _ _
  have K1 := Lib.hid (nx_below H.out B1)
  generalize w.alloc (.cells #[.pointer (some ⟨a.g, 0, none⟩), .int .u32 st, .int .i64 0, .string ⟨#[]⟩, .int .i64 0, .int .i64 0, .slice none 0 0, .slice none 0 0] 112) = W1 at *
  have HD1 := Lib.hid hd1
  have hpd : Pc W1 w.heap.size := ⟨_, ⟨_, _, hd1⟩, not_mty (.inr (.inr (.inr (.inl rfl)))), by decide⟩
  have HPd := Lib.hid hpd
  clear hd1 hpd B1 d2
  rcases hf : c.fet with ⟨x, _ | r, c'⟩
  · have hxb := fet_byte hf
    have hmk := H.out.mok.fet hf
    have hgd := fun o ho => ops_gd hxb (o := o) ho
    have hsx := ops_six hxb
    have hF2 := HF.out x c' hf
    have hG2 := HG.out x c' hf
    have hI : I = if (Tl.Ia.prg x).2 = false ∨ c'.lts (Tl.Ia.prg x).1.cls = false then (some ⟨16, [], false⟩, c')
      else if c'.fp then G c' ⟨st, (Tl.Ia.prg x).1, []⟩
      else match c'.evs (Tl.Ia.prg x).1.ops [] with
        | (_, some r, c2) => (some r, c2)
        | (some l, none, c2) => F c2 ⟨st, (Tl.Ia.prg x).1, l⟩
        | (none, none, c2) => (none, c2) := by rw [← HI.out, Mc.inst, hf, HSt.out]; rfl
    have hOf := fun W (hW : Tl.Ia.Gl W) => Tl.Ia.of_any x W hW
    have HFt := Lib.hid hf
    have HF2 := Lib.hid hF2
    have HG2 := Lib.hid hG2
    have HI2 := Lib.hid hI
    have HOf := Lib.hid hOf
    have HGd := Lib.hid hgd
    have HSx := Lib.hid hsx
    have HMk := Lib.hid hmk
    obtain ⟨xb0, xb1⟩ := hxb
    clear hf hmk hgd hsx hF2 hG2 hI hOf HF HG HI
    generalize Tl.Ia.prg x = p at *
    obtain ⟨⟨qc, qn, ql, qa, qo⟩, is⟩ := p
    simp only at HF2 HG2 HI2 HGd HSx
    go_upto_region 6 with (first
      | (go_at_call 56; refine (fetch_ok _ K1.out.1 _ _ HFt.out).mono ?_; rintro e w2 ⟨rfl, h2, m2⟩; have H2 := Lib.hid h2; have M2 := Lib.hid m2; clear h2 m2)
      | (go_at_call 57; refine (HOf.out _ H2.out.gl).mono ?_; rintro e w3 ⟨u, rfl, ho3, hb3⟩; obtain ⟨A, cp, rfl⟩ := Tl.Ia.ro_slice ho3.1; have HO3 := Lib.hid ho3; have HB3 := Lib.hid hb3; clear ho3 hb3)
      | fail)
    have hd2 := (M2.out.heap K1.out.1 HPd.out).trans HD1.out
    have hd3 := (HB3.out.block _ (Tl.lt_of_heap hd2)).trans hd2
    have hw4 : Below w3.heap.size w3 (w3.alloc (.cells #[.int .i64 qc, .string (Tl.Ia.sb qn), .int .i64 ql, .int .i64 qa, .slice A qo.length cp] 109)) := by go_grown
    have hd4 := (hw4.block _ (Tl.lt_of_heap hd3)).trans hd3
    have hq4 : (w3.alloc (.cells #[.int .i64 qc, .string (Tl.Ia.sb qn), .int .i64 ql, .int .i64 qa, .slice A qo.length cp] 109)).heap[w3.heap.size]? = some (.cells #[.int .i64 qc, .string (Tl.Ia.sb qn), .int .i64 ql, .int .i64 qa, .slice A qo.length cp] 109 (0, 0)) := heap_alloc_new _ _
    have hc4 := (H2.out.below HB3.out).below hw4
    have hm4 := ((K1.out.2.trans M2.out).trans (Mv.of_below HB3.out)).trans (Mv.of_below hw4)
    have hr4 : Tl.Ia.Ro (w3.alloc (.cells #[.int .i64 qc, .string (Tl.Ia.sb qn), .int .i64 ql, .int .i64 qa, .slice A qo.length cp] 109)) (.slice A qo.length cp) qo := Tl.own_keep HO3.out.1 fun i hi => hw4.block i (Tl.own_lo HO3.out.1 i hi)
    have hab4 : Tl.Ab (w.heap.size + 1) (Tl.Bl (.slice A qo.length cp)) := fun i hi => by
      have := HO3.out.2 i hi
      have := Tl.lt_of_heap hd2
      omega
    have hgq : w.heap.size < w3.heap.size := Tl.lt_of_heap hd3
    generalize w3.alloc (.cells #[.int .i64 qc, .string (Tl.Ia.sb qn), .int .i64 ql, .int .i64 qa, .slice A qo.length cp] 109) = W4 at *
    generalize w3.heap.size = g at *
    have HC4 := Lib.hid hc4
    have HM4 := Lib.hid hm4
    have HD4 := Lib.hid hd4
    have HQ4 := Lib.hid hq4
    have HR4 := Lib.hid hr4
    have HAb := Lib.hid hab4
    obtain ⟨b0, b1, b2, b3, b4, bf⟩ := cells5 hq4
    clear hd2 hd3 hw4 hd4 hq4 hc4 hm4 hr4 hab4 K1 HD1 HPd H2 M2 HO3 HB3 HOf HFt
    have HL := Lib.hid (fun W hW => lets_any (w0 := w0) (a := a) (S0 := S0) (c := c') W hW ql)
    have HB := Lib.hid (fun W hW => begun_any (w0 := w0) (a := a) (S0 := S0) (c := c') W hW)
    by_cases hbad : is = false ∨ c'.lts ql = false
    · have HI3 : Hid (I = (some ⟨16, [], false⟩, c')) := by show _ = _; rw [HI2.out, if_pos hbad]
      generalize c'.lts ql = b at *
      have key : ∀ W b, W.heap[b]? = some (.cells #[.int .i64 16, .slice none 0 0, .bool false] 80 (0, 0)) → Rb W b ⟨16, [], false⟩ := fun W b h => ⟨none, 0, h, .inl rfl⟩
      have HKey := Lib.hid key
      cases is
      case false =>
        go_wp2_with (first
          | (go_at_call 59; refine (fault_any _ _ _ _ _).mono ?_; rintro e w8 ⟨b, rfl, hb, hc, hB⟩; have b8 := Tl.bel2 (a := W4) (by go_grown) hB)
          | fail)
        refine bodyPost_ret (v := .pointer (some ⟨b, 0, none⟩)) (by simp [results, Tryz.results33, go_sem]) rfl ?_
        rw [HI3.out]
        exact ⟨_, rfl, ⟨b, rfl, by have := HM4.out.size; omega, HKey.out _ _ hc⟩, HC4.out.below b8, HM4.out.trans (Mv.of_below b8)⟩
      case true =>
        have hb' : b = false := by simpa using hbad
        subst hb'
        go_wp2_with (first
          | (go_at_call 58; refine (HL.out _ HC4.out).mono ?_; rintro e w9 ⟨rfl, rfl⟩)
          | (go_at_call 59; refine (fault_any _ _ _ _ _).mono ?_; rintro e w8 ⟨b, rfl, hb, hc, hB⟩; have b8 := Tl.bel2 (a := W4) (by go_grown) hB)
          | fail)
        refine bodyPost_ret (v := .pointer (some ⟨b, 0, none⟩)) (by simp [results, Tryz.results33, go_sem]) rfl ?_
        rw [HI3.out]
        exact ⟨_, rfl, ⟨b, rfl, by have := HM4.out.size; omega, HKey.out _ _ hc⟩, HC4.out.below b8, HM4.out.trans (Mv.of_below b8)⟩
    · have h1 : is = true := by cases is <;> simp at hbad ⊢
      have h2 : c'.lts ql = true := by cases hh : c'.lts ql <;> simp [hh] at hbad ⊢
      have HI3 := Lib.hid HI2.out
      have hi := HI3.out
      rw [if_neg hbad] at hi
      have HI4 := Lib.hid hi
      have HF3 := Lib.hid (HF2.out h1)
      have HG3 := Lib.hid (fun e => HG2.out h1 e h2)
      rw [h2] at HL
      subst h1
      clear HI3 hi HI2 hbad HF2 HG2 h2
      go_upto_region 8 with (first
        | (go_at_call 58; refine (HL.out _ HC4.out).mono ?_; rintro e w9 ⟨rfl, rfl⟩)
        | fail)
      obtain ⟨e0, e1, e2, e3, e4, e5, e6, e7, ef⟩ := cells8 HD4.out
      have hdl := Tl.lt_of_heap HD4.out
      have hpd : Pc W4 w.heap.size := ⟨_, ⟨_, _, HD4.out⟩, not_mty (.inr (.inr (.inr (.inl rfl)))), by decide⟩
      have hm5 := mods5b W4 w.heap.size 2 3 4 5 6 (.int .i64 qc) (.string (Tl.Ia.sb qn)) (.int .i64 ql) (.int .i64 qa) (.slice A qo.length cp)
      have hb5 := ((((((show Hr.Bk W4 w.heap.size 112 [_, _, _, _, _, _, _, _] from HD4.out).set 2 (.int .i64 qc)).set 3 (.string (Tl.Ia.sb qn))).set 4 (.int .i64 ql)).set 5 (.int .i64 qa)).set 6 (.slice A qo.length cp))
      go_upto_region 9 with fail
      have hc5 := HC4.out.own hm5 H.out (Nat.le_refl _) hpd
      have hv5 := HM4.out.own hm5 (Nat.le_refl _)
      have hq5 := (hm5.block _ (Tl.lt_of_heap HQ4.out) (fun e => by have e : g = w.heap.size := e; omega)).trans HQ4.out
      have hr5 : Tl.Ia.Ro _ (.slice A qo.length cp) qo := Tl.own_keep HR4.out fun i hi => hm5.block i (Tl.own_lo HR4.out i hi) (fun e => by have e : i = w.heap.size := e; have := HAb.out i hi; omega)
      simp only [List.set_cons_succ, List.set_cons_zero] at hb5
      generalize ((((W4.setCell ⟨w.heap.size, 2, none⟩ (.int .i64 qc)).setCell ⟨w.heap.size, 3, none⟩ (.string (Tl.Ia.sb qn))).setCell ⟨w.heap.size, 4, none⟩ (.int .i64 ql)).setCell ⟨w.heap.size, 5, none⟩ (.int .i64 qa)).setCell ⟨w.heap.size, 6, none⟩ (.slice A qo.length cp) = W5 at *
      have HC5 := Lib.hid hc5
      have HV5 := Lib.hid hv5
      have HQ5 := Lib.hid hq5
      have HR5 := Lib.hid hr5
      have HB5 := Lib.hid hb5
      clear hm5 hb5 hc5 hv5 hq5 hr5 HC4 HM4 HD4 HQ4 HR4 e0 e1 e2 e3 e4 e5 e6 e7 ef hdl hpd b0 b1 b2 b3 b4 bf HL
      obtain ⟨b0, b1, b2, b3, b4, bf⟩ := cells5 HQ5.out
      have HDo : Hid (Do W5 a w.heap.size ⟨st, ⟨qc, qn, ql, qa, qo⟩, []⟩) := Lib.hid ⟨_, _, HB5.out, R4.nil _⟩
      cases hfp : c'.fp
      case true =>
        have HI5 : Hid (I = G c' ⟨st, ⟨qc, qn, ql, qa, qo⟩, []⟩) := by show _ = _; rw [HI4.out, if_pos hfp]
        have HGo := Lib.hid (HG3.out hfp w0 a S0 c' W5 w.heap.size _ HC5.out HDo.out rfl rfl)
        rw [hfp] at HB
        clear HG3 HF3 HI4
        go_wp2_with (first
          | (go_at_call 60; refine (HB.out _ HC5.out).mono ?_; rintro e w9 ⟨rfl, rfl⟩)
          | (go_at_call 61; refine HGo.out.mono ?_; rintro e w6 ⟨v, rfl, r6, h6, m6⟩; have R6 := Lib.hid r6; have H6 := Lib.hid h6; have M6 := Lib.hid m6; clear r6 h6 m6)
          | fail)
        refine bodyPost_ret (v := v) (by simp [results, Tryz.results33, go_sem]) rfl ?_
        rw [HI5.out]
        exact ⟨_, rfl, R6.out.from HV5.out.size, H6.out, HV5.out.trans M6.out⟩
      case false =>
        have HI5 : Hid (I = match c'.evs qo [] with
          | (_, some r, c2) => (some r, c2)
          | (some l, none, c2) => F c2 ⟨st, ⟨qc, qn, ql, qa, qo⟩, l⟩
          | (none, none, c2) => (none, c2)) := by show _ = _; rw [HI4.out, if_neg (by simp [hfp])]
        have HW := Lib.hid (HF3.out hfp)
        rw [hfp] at HB
        have HLo : Hid (Lo w w0 a S0 c' st ⟨qc, qn, ql, qa, qo⟩ w.heap.size g A cp 0 W5) := Lib.hid ⟨⟨[], c', .slice none 0 0, rfl, HMk.out, HC5.out, by simp, R4.nil _, HB5.out, fun k hk => by simp [Tl.Bl, Value.ownBlock] at hk, fun j hj => by omega⟩, HV5.out, HR5.out, HAb.out⟩
        clear HG3 HF3 HI4 HDo hfp
        go_upto_region 12 with (first
          | (go_at_call 60; refine (HB.out _ HC5.out).mono ?_; rintro e w9 ⟨rfl, rfl⟩)
          | fail)
        clear b0 b1 b2 b3 b4 bf HQ5 HB5 HC5 HV5 HR5 HB
        go_loopw [55] (fun i W => ∃ k : Nat, k ≤ qo.length ∧ i = .int .i64 k ∧ Lo w w0 a S0 c' st ⟨qc, qn, ql, qa, qo⟩ w.heap.size g A cp k W) (fun i _ => qo.length - (intOf i).toNat)
        case atStart => exact ⟨0, Nat.zero_le _, rfl, HLo.out⟩
        case round =>
          clear HLo
          obtain ⟨k, hk, rfl, hL⟩ := hrel
          obtain ⟨⟨l, c1, v, hl, hok, hch, hev, hr4, hbd, hab, hall⟩, hmv, hro, hrab⟩ := hL
          simp only at hro hrab hev hbd hall
          have HCh := Lib.hid hch
          have HMv := Lib.hid hmv
          have HRo := Lib.hid hro
          have HRab := Lib.hid hrab
          have HR4 := Lib.hid hr4
          have HBd := Lib.hid hbd
          have HAb4 := Lib.hid hab
          have HAll := Lib.hid hall
          have HOk := Lib.hid hok
          have HEv := Lib.hid hev
          have HLn := Lib.hid hl
          clear hl hok hch hev hr4 hbd hab hall hmv hro hrab
          generalize hqn : qo.length = n at *
          have HQn := Lib.hid hqn
          clear hqn
          by_cases hlt : k < n
          · obtain ⟨r, rfl, hr, a0, a1⟩ := ro_at HRo.out HQn.out hlt
            have hop := HGd.out _ (opn_mem qo k (by rw [HQn.out]; exact hlt))
            have hdr := opn_drop qo k (by rw [HQn.out]; exact hlt)
            have hall2 := HAll.out
            generalize ho : Tl.Ia.opn qo k = o at *
            have HOp := Lib.hid ho
            obtain ⟨oa, oz⟩ := o
            simp only at hop a0 a1
            obtain ⟨hgd, ho0, ho1⟩ := hop
            have HE : Hid (∀ W, Ch w0 a S0 c1 W → Calls Tryz.prog 62 #[.pointer (some ⟨a.g, 0, none⟩), .agg #[.int .u8 oa, .int .i64 oz]] W fun e w' => ∃ v, e = .returned (.tuple #[(c1.eva oa oz).1.val, v]) ∧ Rp W w' (c1.eva oa oz).2.1 v ∧ Ch w0 a S0 (c1.eva oa oz).2.2 w' ∧ Mv a W w') := Lib.hid fun W hW => eva_any W hW oa oz ⟨ho0, ho1⟩ hgd
            have hz := Bt.Es.gd_sz hgd
            rcases hea : c1.eva oa oz with ⟨⟨vz, vx, vr, va⟩, eq, c2⟩
            have hvok := fun e : eq = none => eva_ok HOk.out hz (by rw [hea, e])
            have hc2 := HOk.out.eva oa oz
            rw [hea] at HE hc2
            simp only at HE hc2
            have HVok := Lib.hid hvok
            have HC2 := Lib.hid hc2
            have HDr := Lib.hid hdr
            have HEa := Lib.hid hea
            clear hvok hc2 hdr hea hall2 ho
            cases eq with
            | some rz =>
              have hI : c'.evs qo [] = (none, some rz, c2) := by rw [← HEv.out, HDr.out, Mc.evs, HEa.out]
              have HI6 : Hid (I = (some rz, c2)) := by show _ = _; rw [HI5.out, hI]
              clear hI
              go_wp2_with fail
              refine (HE.out _ (HCh.out.below (by go_grown))).mono ?_
              rintro e w6 ⟨v6, rfl, ⟨b, rfl, hb, hrb⟩, h6, m6⟩
              have HB8 := Lib.hid (show Below wr.heap.size wr (wr.alloc (.cells #[.int .u8 oa, .int .i64 oz] 120)) by go_grown)
              have HRb := Lib.hid hrb
              have H6 := Lib.hid h6
              have M6 := Lib.hid m6
              clear hrb h6 m6 HE
              go_wp2
              have b9 : Below w6.heap.size w6 (w6.alloc (.cells #[.int .i64 vz, .int .u32 vx, .int .i64 vr, .int .u32 va] 122)) := by go_grown
              refine bodyPost_ret (v := .pointer (some ⟨b, 0, none⟩)) (by simp [results, Tryz.results33, go_sem]) rfl ?_
              rw [HI6.out]
              refine ⟨_, rfl, ⟨b, rfl, ?_, HRb.out.below b9⟩, H6.out.below b9, ((HMv.out.trans (Mv.of_below HB8.out)).trans M6.out).trans (Mv.of_below b9)⟩
              have := HMv.out.size
              simp at hb
              omega
            | none =>
              go_wp2_with fail
              refine (HE.out _ (HCh.out.below (by go_grown))).mono ?_
              rintro e w6 ⟨v6, rfl, hr6, h6, m6⟩
              have hv6 : v6 = .pointer none := hr6
              subst hv6
              have HB8 : Below wr.heap.size wr (wr.alloc (.cells #[.int .u8 oa, .int .i64 oz] 120)) := by go_grown
              have hc8 := HCh.out.below HB8
              have hpd : Pc wr w.heap.size := ⟨_, ⟨_, _, HBd.out⟩, not_mty (.inr (.inr (.inr (.inl rfl)))), by decide⟩
              have hpr : ∀ i, Tl.Bl (Value.slice (some ⟨r, 0, none⟩) n cp) i → Pc wr i := fun i hi => ⟨_, Mm.own_typ HRo.out hi, not_mty (.inr (.inr (.inr (.inr (.inr (.inl rfl)))))), by decide⟩
              have hd6 := (m6.heap hc8 (hpd.below HB8)).trans ((HB8.block _ hpd.lt).trans HBd.out)
              have hro6 : Tl.Ia.Ro w6 (.slice (some ⟨r, 0, none⟩) n cp) qo := Tl.own_keep HRo.out fun i hi => (m6.heap hc8 ((hpr i hi).below HB8)).trans (HB8.block _ (hpr i hi).lt)
              have hr46 : R4 w6 v l := r4_mv (Tl.own_keep HR4.out fun i hi => HB8.block i (Tl.own_lo HR4.out i hi)) m6 hc8
              have hm6 := (HMv.out.trans (Mv.of_below HB8)).trans m6
              have HC6 := Lib.hid h6
              have HM6 := Lib.hid hm6
              have HD6 := Lib.hid hd6
              have HRo6 := Lib.hid hro6
              have HR46 := Lib.hid hr46
              clear hr6 h6 m6 HE HB8 hc8 hpd hpr hd6 hro6 hr46 hm6 HR4 HRo HBd HMv HCh
              have hd6 := HD6.out
              obtain ⟨A4, cp4, rfl⟩ := HR46.out.shape
              obtain ⟨e0, e1, e2, e3, e4, e5, e6, e7, ef⟩ := cells8 hd6
              have hdl := Tl.lt_of_heap hd6
              clear hd6
              go_upto_region 17 with fail
              have b7 : Below w6.heap.size w6 (w6.alloc (.cells #[.int .i64 vz, .int .u32 vx, .int .i64 vr, .int .u32 va] 122)) := by go_grown
              have hn7 : (w6.alloc (.cells #[.int .i64 vz, .int .u32 vx, .int .i64 vr, .int .u32 va] 122)).heap[w6.heap.size]? = some (.cells #[.int .i64 vz, .int .u32 vx, .int .i64 vr, .int .u32 va] 122 (0, 0)) := heap_alloc_new _ _
              have hc7 := HC6.out.below b7
              have hm7 := HM6.out.trans (Mv.of_below b7)
              have hd7 := (b7.block _ hdl).trans HD6.out
              have hro7 : Tl.Ia.Ro _ (.slice (some ⟨r, 0, none⟩) n cp) qo := Tl.own_keep HRo6.out fun i hi => b7.block i (Tl.own_lo HRo6.out i hi)
              have hr47 : R4 _ (.slice A4 l.length cp4) l := Tl.own_keep HR46.out fun i hi => b7.block i (Tl.own_lo HR46.out i hi)
              generalize w6.alloc (.cells #[.int .i64 vz, .int .u32 vx, .int .i64 vr, .int .u32 va] 122) = w7 at *
              generalize w6.heap.size = x7 at *
              clear b7 e0 e1 e2 e3 e4 e5 e6 e7 ef hdl HC6 HM6 HD6 HRo6 HR46
              obtain ⟨e0, e1, e2, e3, e4, e5, e6, e7, ef⟩ := cells8 hd7
              obtain ⟨n0, n1, n2, n3, nf⟩ := cells4 hn7
              have hdl := Tl.lt_of_heap hd7
              have hnl := Tl.lt_of_heap hn7
              have hl6 := HSx.out
              have HC7 := Lib.hid hc7
              have HM7 := Lib.hid hm7
              have HD7 := Lib.hid hd7
              have HRo7 := Lib.hid hro7
              have HR47 := Lib.hid hr47
              clear hc7 hm7 hd7 hn7 hro7 hr47
              obtain ⟨r', cap', w8, hrun, H8⟩ := run_appd w7.drew (.slice A4 l.length cp4) l ⟨vz, vx, vr, va⟩ HR47.out (by have := HLn.out; omega)
              have hrun2 : (Builtin.append_ #[110, 110] 110 #[.slice A4 l.length cp4, .slice (some ⟨w7.heap.size, 0, none⟩) 1 1]).run Tryz.prog (w7.alloc (.cells #[.int .i64 vz, .int .u32 vx, .int .i64 vr, .int .u32 va] 122)).drew = .ok (.slice (some ⟨r', 0, none⟩) (l.length + 1) cap') w8 := hrun
              have HRun := Lib.hid hrun2
              have s8 := H8.out.2
              have hr8 := H8.out.1
              have hT : ∀ i, Tl.Bl (Value.slice A4 l.length cp4) i → w.heap.size < i ∧ Mm.Typ w7 i 122 := fun i hi => ⟨HAb4.out i hi, HR47.out.typ hi⟩
              have hc8 := (show Ch w0 a S0 c2 w7.drew from HC7.out.below ((Below.refl _ _).drew)).apart s8.mods fun i hi => by
                obtain ⟨h1, h2⟩ := hT i hi
                obtain ⟨S, q, s, _⟩ := H.out.ex
                have h3 := s.mods.size
                have h4 := q.glt
                have h5 := typ_lt q.rgtyp
                have h6 := typ_lt q.rtyp
                exact ⟨by omega, by omega, by omega, by omega, _, h2, not_mty (.inr (.inr (.inr (.inr (.inl rfl)))))⟩
              have hm8 := (HM7.out.trans (Mv.of_below (a := a) ((Below.refl w7.heap.size w7).drew))).apart s8.mods fun i hi => by have := (hT i hi).1; omega
              have hd8 := (s8.mods.block _ (Tl.lt_of_heap HD7.out) (fun e => by have := (hT _ e).1; omega)).trans HD7.out
              have hro8 : Tl.Ia.Ro w8 (.slice (some ⟨r, 0, none⟩) n cp) qo := Tl.own_keep HRo7.out fun i hi => s8.mods.block i (Tl.own_lo HRo7.out i hi) (fun e => absurd ((hT i e).2.ne (Mm.own_typ HRo7.out hi)) (by decide))
              have hab8 := s8.ab (B := w.heap.size + 1) (fun i hi => (hT i hi).1) (by have := Tl.lt_of_heap HD7.out; exact this)
              have HC8 := Lib.hid hc8
              have HM8 := Lib.hid hm8
              have HD8 := Lib.hid hd8
              have HRo8 := Lib.hid hro8
              have HAb8 := Lib.hid hab8
              have HR8 := Lib.hid hr8
              clear hrun hrun2 H8 s8 hr8 hT hc8 hm8 hd8 hro8 hab8
              obtain ⟨f0, f1, f2, f3, f4, f5, f6, f7, ff⟩ := cells8 HD8.out
              have hln := HLn.out
              subst hln
              go_region_law (refine Tl.Ia.step_append_run rfl (.tmp 72) (.tmp 74) _ _ rfl _ _ rfl rfl HRun.out ?_)
              all_goals
                go_wp2
                go_roundw
                case measure => simp [intOf]; omega
                case rel =>
                  have hpd : Pc w8 w.heap.size := ⟨_, ⟨_, _, HD8.out⟩, not_mty (.inr (.inr (.inr (.inl rfl)))), by decide⟩
                  have hone := one_set w8 w.heap.size 7 (.slice (some ⟨r', 0, none⟩) (l.length + 1) cap')
                  have hb := (show Hr.Bk w8 w.heap.size 112 [_, _, _, _, _, _, _, _] from HD8.out).set 7 (.slice (some ⟨r', 0, none⟩) (l.length + 1) cap')
                  simp only [List.set_cons_succ, List.set_cons_zero] at hb
                  have hrow : R4 (w8.setCell ⟨w.heap.size, 7, none⟩ (.slice (some ⟨r', 0, none⟩) (l.length + 1) cap')) (.slice (some ⟨r', 0, none⟩) (l.length + 1) cap') (l ++ [(⟨vz, vx, vr, va⟩ : Od)]) := Tl.own_keep HR8.out fun i hi => heap_set_ne (by have := HAb8.out i hi; simp; omega)
                  refine ⟨l.length + 1, by omega, by go_num, ⟨⟨l ++ [(⟨vz, vx, vr, va⟩ : Od)], c2, _, by simp, HC2.out, HC8.out.own hone H.out (Nat.le_refl _) hpd, ?_, hrow, (by rw [HQn.out]; exact hb), HAb8.out, fun j hj => ?_⟩, HM8.out.own hone (Nat.le_refl _), (by rw [HQn.out]; exact Tl.own_keep HRo8.out fun i hi => heap_set_ne (by have := HRab.out i hi; simp; omega)), (by rw [HQn.out]; exact HRab.out)⟩⟩
                  · rw [← HEv.out, HDr.out, Mc.evs, HEa.out]
                  · have hall := HAll.out
                    by_cases hj' : j < l.length
                    · have e : (l ++ [(⟨vz, vx, vr, va⟩ : Od)]).getD j zod = l.getD j zod := by simp [List.getD, List.getElem?_append_left hj']
                      rw [e]
                      exact hall j hj'
                    · have e : j = l.length := by omega
                      subst e
                      have e : (l ++ [(⟨vz, vx, vr, va⟩ : Od)]).getD l.length zod = ⟨vz, vx, vr, va⟩ := by simp [List.getD]
                      rw [e]
                      obtain ⟨h1, h2⟩ := HVok.out trivial
                      exact ⟨h1, by rw [h2, HOp.out]⟩
          · obtain rfl : k = n := by omega
            have hI : c'.evs qo [] = (some l, none, c1) := by
              rw [← HEv.out, List.drop_eq_nil_of_le (by rw [HQn.out]; exact Nat.le_refl _)]; rfl
            have HI6 : Hid (I = F c1 ⟨st, ⟨qc, qn, ql, qa, qo⟩, l⟩) := by show _ = _; rw [HI5.out, hI]
            have hdo := HW.out w0 a S0 c1 wr w.heap.size ⟨st, ⟨qc, qn, ql, qa, qo⟩, l⟩ HCh.out ⟨_, _, HBd.out, HR4.out⟩ rfl ⟨by show l.length = qo.length; rw [HLn.out, HQn.out], fun j hj => HAll.out j (by have := HLn.out; have hj : j < l.length := hj; omega)⟩
            have HDo := Lib.hid hdo
            clear hdo hI
            go_wp2_with (first
              | (go_at_call 63; refine HDo.out.mono ?_; rintro e w6 ⟨v, rfl, r6, h6, m6⟩; have R6 := Lib.hid r6; have H6 := Lib.hid h6; have M6 := Lib.hid m6; clear r6 h6 m6)
              | fail)
            refine bodyPost_ret (v := v) (by simp [results, Tryz.results33, go_sem]) rfl ?_
            rw [HI6.out]
            exact ⟨_, rfl, R6.out.from HMv.out.size, H6.out, HMv.out.trans M6.out⟩
  · have HI2 : Hid (I = (some r, c')) := by show _ = _; rw [← HI.out, Mc.inst, hf]
    have HFt := Lib.hid hf
    clear hf HI HF HG
    go_wp2_with (first
      | (go_at_call 56; refine (fetch_no _ K1.out.1 _ _ _ HFt.out).mono ?_; rintro e w2 ⟨b, rfl, hb, r2, h2, m2⟩; have H2 := Lib.hid h2; have M2 := Lib.hid m2; have R2 := Lib.hid r2; clear h2 m2 r2)
      | fail)
    refine bodyPost_ret (v := .pointer (some ⟨b, 0, none⟩)) (by simp [results, Tryz.results33, go_sem]) rfl ?_
    rw [HI2.out]
    exact ⟨_, rfl, ⟨b, rfl, by have := K1.out.2.size; omega, R2.out⟩, H2.out, K1.out.2.trans M2.out⟩
end

end Go.Proofs.YteohkobdmkbcpaaGreatDoor.Cs
