/- Contracts: fetch, specifier. -/
import Derived.Test.YteohkobdmkbcpaaGreatDoorXFet2
import Derived.Deep.LoopGhost
namespace Go.Proofs.YteohkobdmkbcpaaGreatDoor.Cs
open Go.RowKit
set_option linter.unusedVariables false
set_option linter.unusedSimpArgs false

section
variable {w0 : World} {a : Ad} {S0 : Nat → Prop} {c : Mc}
set_option maxHeartbeats 400000 in
set_option maxRecDepth 100000 in
theorem fetch_ok (w : World) (h : Ch w0 a S0 c w) (x : Int) (c' : Mc) (hq : c.fet = (x, none, c')) : Calls Tryz.prog 56 #[.pointer (some ⟨a.g, 0, none⟩)] w fun e w' =>
    e = .returned (.tuple #[.int .u8 x, .pointer none]) ∧ Ch w0 a S0 c' w' ∧ Mv a w w' := by
  have H := Lib.hid h
  have c2 := h.c2
  have HU := Lib.hid (gr_U h.eok 15)
  rcases hg : c.get (c.gr 15) 1 with ⟨y, _ | z⟩
  · simp only [Mc.fet, hg, Prod.mk.injEq, true_and] at hq
    obtain ⟨rfl, rfl⟩ := hq
    have HG := Lib.hid hg
    clear h hg
    go_enter Tryz.func56, Tryz.ntmps56
    go_wp2_with (first
      | (go_at_call 55; refine (fget _ H.out 15).mono ?_; rintro e w1 ⟨rfl, rfl⟩)
      | (go_at_call 79; refine (get_ok _ H.out _ 1 y HU.out HG.out).mono ?_; rintro e w2 ⟨rfl, h2, m2⟩; have H2 := Lib.hid h2; have M2 := Lib.hid m2; clear h2 m2)
      | (go_at_call 80; refine (add_any _ H2.out 15 1 ⟨by omega, by omega⟩).mono ?_; rintro e w3 ⟨rfl, h3, m3⟩; have H3 := Lib.hid h3; have M3 := Lib.hid m3; clear h3 m3)
      | fail)
    exact bodyPost_ret (v := .tuple #[.int .u8 (y % 256), .pointer none]) (by simp [results, Tryz.results56, go_sem]) rfl ⟨rfl, H3.out, M2.out.trans M3.out⟩
  · simp [Mc.fet, hg] at hq
set_option maxHeartbeats 400000 in
set_option maxRecDepth 100000 in
theorem fetch_no (w : World) (h : Ch w0 a S0 c w) (x : Int) (r : Rz) (c' : Mc) (hq : c.fet = (x, some r, c')) : Calls Tryz.prog 56 #[.pointer (some ⟨a.g, 0, none⟩)] w fun e w' =>
    ∃ b, e = .returned (.tuple #[.int .u8 x, .pointer (some ⟨b, 0, none⟩)]) ∧ w.heap.size ≤ b ∧ Rb w' b r ∧ Ch w0 a S0 c' w' ∧ Mv a w w' := by
  have H := Lib.hid h
  have c2 := h.c2
  have HU := Lib.hid (gr_U h.eok 15)
  rcases hg : c.get (c.gr 15) 1 with ⟨y, _ | z⟩
  · simp [Mc.fet, hg] at hq
  · simp only [Mc.fet, hg, Prod.mk.injEq, Option.some.injEq] at hq
    obtain ⟨rfl, rfl, rfl⟩ := hq
    have HG := Lib.hid hg
    clear h hg
    go_enter Tryz.func56, Tryz.ntmps56
    go_wp2_with (first
      | (go_at_call 55; refine (fget _ H.out 15).mono ?_; rintro e w1 ⟨rfl, rfl⟩)
      | (go_at_call 79; refine (get_no _ H.out _ 1 y _ HU.out HG.out).mono ?_; rintro e w2 ⟨b, rfl, hb, r2, h2, m2⟩; have H2 := Lib.hid h2; have M2 := Lib.hid m2; have R2 := Lib.hid r2; clear h2 m2 r2)
      | fail)
    exact bodyPost_ret (v := .tuple #[.int .u8 (y % 256), .pointer (some ⟨b, 0, none⟩)]) (by simp [results, Tryz.results56, go_sem]) rfl ⟨b, rfl, hb, R2.out, H2.out, M2.out⟩

/-- What is raised as a value: nil, or a block that is new. -/
def Rp (w w' : World) (o : Option Rz) (v : Value) : Prop :=
  match o with
  | none => v = .pointer none
  | some r => ∃ b, v = .pointer (some ⟨b, 0, none⟩) ∧ w.heap.size ≤ b ∧ Rb w' b r
end

section
variable {w0 w w' W W' : World} {a : Ad} {S0 T : Nat → Prop} {c c' : Mc}
theorem Rp.from {w1 : World} {o : Option Rz} {v : Value} (h : Rp w1 w' o v) (hs : w.heap.size ≤ w1.heap.size) : Rp w w' o v := by
  cases o with
  | none => exact h
  | some r => obtain ⟨b, e, hb, hr⟩ := h; exact ⟨b, e, Nat.le_trans hs hb, hr⟩
theorem Rp.below {o : Option Rz} {v : Value} {w2 : World} (h : Rp w w' o v) (k : Below w'.heap.size w' w2) : Rp w w2 o v := by
  cases o with
  | none => exact h
  | some r => obtain ⟨b, e, hb, hr⟩ := h; exact ⟨b, e, hb, hr.below k⟩
/-- Blocks that came since the world w turn; none of them is the machine's. -/
theorem Ch.apart (h : Ch w0 a S0 c W) (m : Tl.Mods T W W') (hT : ∀ k, T k → w0.heap.size ≤ k ∧ a.rg < k ∧ a.r < k ∧ a.g < k ∧ ∃ t, Mm.Typ W k t ∧ ¬ Mty t) : Ch w0 a S0 c W' := by
  obtain ⟨S, k, s, ab⟩ := h.ex
  have hK : 7 ≤ a.g := ab _ (.inl rfl)
  have hF : ∀ i, T i → ¬ Fo a S i := fun i hi hf => by
    obtain ⟨_, _, h3, _, t, h4, h5⟩ := hT i hi
    rcases k.fo_typ hf with e | ⟨t', e1, e2⟩
    · omega
    · exact h5 (h4.ne e2 ▸ e1)
  refine ⟨⟨S, k.keep m hF (fun e => by have := (hT _ e).2.1; omega), ⟨⟨m.os.trans s.mods.os, m.tape.trans s.mods.tape, m.output.trans s.mods.output, Nat.le_trans s.mods.size m.size, fun i hi hn => ?_⟩, s.grow⟩, ab⟩, gl_keep h.gl fun i hi => m.block i ?_ (fun e => ?_)⟩
  · exact (m.block i (Nat.lt_of_lt_of_le hi s.mods.size) (fun e => by have := (hT i e).1; omega)).trans (s.mods.block i hi hn)
  · have := k.glt; omega
  · have := (hT i e).2.2.2.1; omega
theorem Mv.apart (h : Mv a w W) (m : Tl.Mods T W W') (hT : ∀ k, T k → w.heap.size ≤ k) : Mv a w W' :=
  ⟨Nat.le_trans h.size m.size, fun k t hr hm ht => by
    have hl := typ_lt ht
    exact (m.block k (Nat.lt_of_lt_of_le hl h.size) (fun e => by have := hT k e; omega)).trans (h.keep k t hr hm ht)⟩
/-- A block of the call's own turns. -/
theorem Ch.own {k : Nat} {c0 : Mc} (h : Ch w0 a S0 c W) (m : Tl.Mods (Hr.One k) W W') (h0 : Ch w0 a S0 c0 w) (hk : w.heap.size ≤ k) (hp : Pc W k) : Ch w0 a S0 c W' := by
  refine h.apart m (fun i hi => ?_)
  have e : i = k := hi
  subst e
  obtain ⟨S, q, s, _⟩ := h0.ex
  have h1 := s.mods.size
  have h2 := q.glt
  have h3 := typ_lt q.rgtyp
  have h4 := typ_lt q.rtyp
  obtain ⟨t, e1, e2, _⟩ := hp
  exact ⟨by omega, by omega, by omega, by omega, t, e1, e2⟩
theorem Mv.own {k : Nat} (h : Mv a w W) (m : Tl.Mods (Hr.One k) W W') (hk : w.heap.size ≤ k) : Mv a w W' := h.apart m (fun i hi => by have e : i = k := hi; omega)
theorem r8_mv {v : Value} {ys : List Int} (h : Mm.R8 W v ys) (m : Mv a W W') (hr : ¬ Tl.Bl v a.r) : Mm.R8 W' v ys :=
  Tl.own_keep h fun i hi => m.keep i _ (fun e => hr (e ▸ hi)) (not_mty (.inr (.inr (.inl rfl)))) (h.typ hi)

theorem dec_long {ys : List Int} {o z : Int} (hz : Bt.Es.gd o z = true) (h : (Bt.Es.dec ys o z).2 = 3) : ys.length ≤ 5 := by
  have hs := Bt.Es.gd_sz hz
  have hw : ∀ x, (Bt.Es.hd x z).w ≤ 4 := fun x => Bt.Es.hd_w hs
  have hfin : ∀ x t i c, (Bt.Es.fin x t o z i c).2 = 3 → t.length < 4 := fun x t i c h => by
    unfold Bt.Es.fin at h
    split at h
    · split at h
      · have := hw x; omega
      · simp at h
    · simp at h
  unfold Bt.Es.dec at h
  rw [if_neg (by simp [hz])] at h
  split at h
  · split at h
    · have : z.toNat ≤ 4 := by rcases hs with rfl | rfl | rfl <;> simp
      omega
    · simp at h
  · match ys, h with
    | [], _ => simp
    | x :: t, h =>
      simp only at h
      split at h
      · split at h
        · simp at h
        · match t, h with
          | [], _ => simp
          | y :: u, h =>
            have := hfin _ _ _ _ h
            simp; omega
      · have := hfin _ _ _ _ h
        simp; omega
theorem mods5 (w : World) (b : Nat) (v0 v1 v2 v3 v4 : Value) : Tl.Mods (Hr.One b) w (((((w.setCell ⟨b, 0, none⟩ v0).setCell ⟨b, 1, none⟩ v1).setCell ⟨b, 2, none⟩ v2).setCell ⟨b, 3, none⟩ v3).setCell ⟨b, 4, none⟩ v4) :=
  (((((Tl.Mods.refl (Hr.One b) w).set (p := ⟨b, 0, none⟩) v0 (.inl rfl)).set (p := ⟨b, 1, none⟩) v1 (.inl rfl)).set (p := ⟨b, 2, none⟩) v2 (.inl rfl)).set (p := ⟨b, 3, none⟩) v3 (.inl rfl)).set (p := ⟨b, 4, none⟩) v4 (.inl rfl)
theorem set5 {w : World} {b : Nat} {o0 o1 o2 o3 o4 : Value} (h0 : w.cell? ⟨b, 0, none⟩ = some o0) (h1 : w.cell? ⟨b, 1, none⟩ = some o1) (h2 : w.cell? ⟨b, 2, none⟩ = some o2) (h3 : w.cell? ⟨b, 3, none⟩ = some o3) (h4 : w.cell? ⟨b, 4, none⟩ = some o4) (v0 v1 v2 v3 v4 : Value) :
    let W := ((((w.setCell ⟨b, 0, none⟩ v0).setCell ⟨b, 1, none⟩ v1).setCell ⟨b, 2, none⟩ v2).setCell ⟨b, 3, none⟩ v3).setCell ⟨b, 4, none⟩ v4
    W.cell? ⟨b, 0, none⟩ = some v0 ∧ W.cell? ⟨b, 1, none⟩ = some v1 ∧ W.cell? ⟨b, 2, none⟩ = some v2 ∧ W.cell? ⟨b, 3, none⟩ = some v3 ∧ W.cell? ⟨b, 4, none⟩ = some v4 ∧ b < W.heap.size := by
  have hl := block_lt_of_cell h0
  refine ⟨?_, ?_, ?_, ?_, ?_, ?_⟩
  all_goals simp [go_sem, h0, h1, h2, h3, h4]
  all_goals simpa [World.setCell] using hl
theorem cells5 {w : World} {b t : Nat} {v0 v1 v2 v3 v4 : Value} (h : w.heap[b]? = some (.cells #[v0, v1, v2, v3, v4] t (0, 0))) : w.cell? ⟨b, 0, none⟩ = some v0 ∧ w.cell? ⟨b, 1, none⟩ = some v1 ∧ w.cell? ⟨b, 2, none⟩ = some v2 ∧ w.cell? ⟨b, 3, none⟩ = some v3 ∧ w.cell? ⟨b, 4, none⟩ = some v4 ∧ ∀ i, w.frozen? ⟨b, i, none⟩ = false :=
  ⟨by rw [cell_of_row w b 0 _ _ _ h]; rfl, by rw [cell_of_row w b 1 _ _ _ h]; rfl, by rw [cell_of_row w b 2 _ _ _ h]; rfl, by rw [cell_of_row w b 3 _ _ _ h]; rfl, by rw [cell_of_row w b 4 _ _ _ h]; rfl, fun i => by simp [World.frozen?, h]⟩
theorem cells2 {w : World} {b t : Nat} {v0 v1 : Value} (h : w.heap[b]? = some (.cells #[v0, v1] t (0, 0))) : w.cell? ⟨b, 0, none⟩ = some v0 ∧ w.cell? ⟨b, 1, none⟩ = some v1 ∧ ∀ i, w.frozen? ⟨b, i, none⟩ = false :=
  ⟨by rw [cell_of_row w b 0 _ _ _ h]; rfl, by rw [cell_of_row w b 1 _ _ _ h]; rfl, fun i => by simp [World.frozen?, h]⟩
/-- The bytes of a specifier so far. -/
structure Bs (w : World) (w0 : World) (a : Ad) (S0 : Nat → Prop) (c : Mc) (o z : Int) (k : Nat) (v : Value) (W : World) : Prop where
  ex : ∃ ys c', ys.length = k ∧ Mm.R8 W v ys ∧ Rm.Byt ys ∧ Ch w0 a S0 c' W ∧ Mc.spc (8 - k) ys c' o z = Mc.spc 8 [] c o z
  ab : Tl.Ab (w.heap.size + 2) (Tl.Bl v)
  mv : Mv a w W
  bo : W.heap[w.heap.size]? = some (.cells #[.int .u8 o, .int .i64 z] 120 (0, 0))
  br : W.heap[w.heap.size + 1]? = some (.cells #[.int .i64 0, .int .i64 0, .int .i64 0, .int .u32 0, .int .i64 0] 151 (0, 0))
theorem fet_byte {x : Int} {r : Option Rz} (hq : c.fet = (x, r, c')) : 0 ≤ x ∧ x < 256 := by
  unfold Mc.fet at hq
  split at hq
  · injection hq with e _; omega
  · injection hq with e _; omega
end

section
variable {w0 : World} {a : Ad} {S0 : Nat → Prop} {c : Mc}
set_option maxHeartbeats 1000000 in
set_option maxRecDepth 100000 in
theorem spec_any (w : World) (h : Ch w0 a S0 c w) (o z : Int) (ho : 0 ≤ o ∧ o < 256) (hg : Bt.Es.gd o z = true) : Calls Tryz.prog 90 #[.pointer (some ⟨a.g, 0, none⟩), .agg #[.int .u8 o, .int .i64 z]] w fun e w' =>
    ∃ v, e = .returned (.tuple #[(Mc.spc 8 [] c o z).1.val, v]) ∧ Rp w w' (Mc.spc 8 [] c o z).2.1 v ∧ Ch w0 a S0 (Mc.spc 8 [] c o z).2.2 w' ∧ Mv a w w' := by
  have H := Lib.hid h
  have HO := Lib.hid ho
  have HGd := Lib.hid hg
  clear h ho hg
  go_enter Tryz.func90, Tryz.ntmps90
  go_wp2_with fail
  have HB0 : Hid (Bs w w0 a S0 c o z 0 (.slice none 0 0) ((w.alloc (.cells #[.int .u8 o, .int .i64 z] 120)).alloc (.cells #[.int .i64 0, .int .i64 0, .int .i64 0, .int .u32 0, .int .i64 0] 151))) := by
    have b : Below w.heap.size w ((w.alloc (.cells #[.int .u8 o, .int .i64 z] 120)).alloc (.cells #[.int .i64 0, .int .i64 0, .int .i64 0, .int .u32 0, .int .i64 0] 151)) := by go_grown
    refine ⟨⟨[], c, rfl, Mm.R8.nil _, fun x hx => by simp at hx, H.out.below b, rfl⟩, fun k hk => by simp [Tl.Bl, Value.ownBlock] at hk, Mv.of_below b, ?_, new_one w _ [.int .i64 0, .int .i64 0, .int .i64 0, .int .u32 0, .int .i64 0] _⟩
    have b1 : Below (w.alloc (.cells #[.int .u8 o, .int .i64 z] 120)).heap.size (w.alloc (.cells #[.int .u8 o, .int .i64 z] 120)) ((w.alloc (.cells #[.int .u8 o, .int .i64 z] 120)).alloc (.cells #[.int .i64 0, .int .i64 0, .int .i64 0, .int .u32 0, .int .i64 0] 151)) := by go_grown
    exact (b1.block _ (by simp)).trans (heap_alloc_new _ _)
  generalize (w.alloc (.cells #[.int .u8 o, .int .i64 z] 120)).alloc (.cells #[.int .i64 0, .int .i64 0, .int .i64 0, .int .u32 0, .int .i64 0] 151) = W0 at *
  generalize hn : w.heap.size = B
  go_loopg [6] 8 (fun g vb W => ∃ k : Nat, k ≤ 5 ∧ g = 8 - k ∧ Bs w w0 a S0 c o z k vb W)
  case atStart => exact ⟨0, by omega, rfl, HB0.out⟩
  case round =>
    clear HB0
    obtain ⟨k, hk, hgk, hb⟩ := hrel
    subst hn
    obtain ⟨⟨ys, c1, hl, h8, hby, hch, hsp⟩, hab, hmv, hbo, hbr⟩ := hb
    have hw := H.out.glt
    have HC1 := Lib.hid hch
    have HMv := Lib.hid hmv
    have hpo : Pc wr w.heap.size := ⟨_, ⟨_, _, hbo⟩, by simp [Mty], by decide⟩
    have hpr : Pc wr (w.heap.size + 1) := ⟨_, ⟨_, _, hbr⟩, by simp [Mty], by decide⟩
    have hsucc : 8 - k = (7 - k) + 1 := by omega
    rcases hf : c1.fet with ⟨x, _ | r, c2⟩
    · have hfb := fet_byte hf
      obtain ⟨A, cp, rfl⟩ := h8.shape
      have hspc : Mc.spc 8 [] c o z = if (Bt.Es.dec (ys ++ [x]) o z).2 = 3 then Mc.spc (7 - k) (ys ++ [x]) c2 o z
          else if (Bt.Es.dec (ys ++ [x]) o z).1.k = 14 then (Bt.Es.zs, some ⟨28, [], false⟩, c2) else ((Bt.Es.dec (ys ++ [x]) o z).1, none, c2) := by
        rw [← hsp, hsucc, Mc.spc, hf]
      have hby2 : Rm.Byt (ys ++ [x]) := fun y hy => by
        rcases List.mem_append.1 hy with hy | hy
        · exact hby y hy
        · simp at hy; subst hy; exact hfb
      have hlong := dec_long (ys := ys ++ [x]) HGd.out
      have hlen2 : (ys ++ [x]).length = k + 1 := by simp [hl]
      have KD : Hid (∀ W A cp, Bt.Es.By W A (k + 1) cp (ys ++ [x]) → Calls Tryz.prog 159 #[.slice A (k + 1) cp, .agg #[.int .u8 o, .int .i64 z]] W fun e w' => e = .returned (.tuple #[(Bt.Es.dec (ys ++ [x]) o z).1.val, .int .i64 (Bt.Es.dec (ys ++ [x]) o z).2]) ∧ Below W.heap.size W w') := Lib.hid fun W A cp h => Bt.Es.decode_any A (k + 1) cp (ys ++ [x]) o z W h (by omega) HO.out
      have HS := Lib.hid hspc
      have HF := Lib.hid hf
      have HPr := Lib.hid hpr
      have HPo := Lib.hid hpo
      have HBr := Lib.hid hbr
      have HBo := Lib.hid hbo
      have HB2 := Lib.hid hby2
      have HLg := Lib.hid hlong
      have HL2 := Lib.hid hlen2
      have HAb := Lib.hid hab
      have HR8 := Lib.hid h8
      have HL := Lib.hid hl
      clear hch hsp hf hmv hpo hpr hbo hbr h8 hab hspc hby2 hlong hlen2 hby
      generalize Bt.Es.dec (ys ++ [x]) o z = d at *
      obtain ⟨⟨d1, d2, d3, d4, d5⟩, d6⟩ := d
      simp only at HS HLg
      generalize hyl : ys.length = n at *
      have hnk : n = k := HL.out
      subst hnk
      go_wp2_with fail
      refine (fetch_ok _ HC1.out _ _ HF.out).mono ?_
      rintro e w2 ⟨rfl, h2, m2⟩
      have hna : ¬ Tl.Bl (Value.slice A n cp) a.r := fun e => by
        have := HAb.out _ e
        obtain ⟨S, q, _⟩ := H.out.ex
        have := typ_lt q.rtyp
        omega
      have hr2 := r8_mv HR8.out m2 hna
      have hW : Below w2.heap.size w2 (w2.alloc (.cells #[.int .u8 x] 5)) := by go_grown
      have hsrc : Rm.Src (w2.alloc (.cells #[.int .u8 x] 5)) (some ⟨w2.heap.size, 0, none⟩) [x] := Rm.Src.of_row (heap_alloc_new _ _)
      have hcw := h2.below hW
      have hmw := (HMv.out.trans m2).trans (Mv.of_below hW)
      have hbo2 := (hW.block _ (by have := HPo.out.lt; have := m2.size; omega)).trans ((m2.heap HC1.out HPo.out).trans HBo.out)
      have hbr2 := (hW.block _ (by have := HPr.out.lt; have := m2.size; omega)).trans ((m2.heap HC1.out HPr.out).trans HBr.out)
      obtain ⟨v6, w6, hrun, H6⟩ := Mm.run_app8 (w2.alloc (.cells #[.int .u8 x] 5)) (.slice A n cp) ys [x] ⟨w2.heap.size, 0, none⟩ 1 1 (Tl.own_keep hr2 fun i hi => hW.block i (Tl.own_lo hr2 i hi)) hsrc rfl (by omega)
      have h6 : Mm.R8 w6 v6 (ys ++ [x]) := H6.out.1
      have s6 := H6.out.2
      have hT : ∀ i, Tl.Bl (Value.slice A n cp) i → w.heap.size + 2 ≤ i ∧ Mm.Typ (w2.alloc (.cells #[.int .u8 x] 5)) i 5 := fun i hi => ⟨HAb.out i hi, Mm.R8.typ (Tl.own_keep hr2 fun i hi => hW.block i (Tl.own_lo hr2 i hi)) hi⟩
      have hc6 := hcw.apart s6.mods fun i hi => by
        obtain ⟨h1, h2⟩ := hT i hi
        obtain ⟨S, q, s, _⟩ := H.out.ex
        have h3 := s.mods.size
        have h4 := q.glt
        have h5 := typ_lt q.rgtyp
        have h6 := typ_lt q.rtyp
        exact ⟨by omega, by omega, by omega, by omega, _, h2, not_mty (.inr (.inr (.inl rfl)))⟩
      have hm6 := hmw.apart s6.mods fun i hi => by have := (hT i hi).1; omega
      have hbo6 := (s6.mods.block _ (Tl.lt_of_heap hbo2) (fun e => by have := (hT _ e).1; omega)).trans hbo2
      have hbr6 := (s6.mods.block _ (Tl.lt_of_heap hbr2) (fun e => by have := (hT _ e).1; omega)).trans hbr2
      have hab6 := s6.ab (B := w.heap.size + 2) (fun i hi => (hT i hi).1) (by have := HPr.out.lt; have := m2.size; simp; omega)
      obtain ⟨A6, c6, rfl⟩ := h6.shape
      rw [HL2.out] at hrun hab6 h6
      have hBy : Bt.Es.By w6 A6 (n + 1) c6 (ys ++ [x]) := Bt.Es.R8.by h6 HL2.out HB2.out
      have HRun := Lib.hid hrun
      have HBy := Lib.hid hBy
      have HC6 := Lib.hid hc6
      have HM6 := Lib.hid hm6
      have HO6 := Lib.hid hbo6
      have HR6 := Lib.hid hbr6
      have HA6 := Lib.hid hab6
      have H86 := Lib.hid h6
      obtain ⟨p0, p1, pf⟩ := cells2 hbo6
      clear h2 m2 hna hr2 hW hsrc hcw hmw hbo2 hbr2 hrun H6 h6 s6 hT hc6 hm6 hbo6 hbr6 hab6 hBy
      go_wp2_with (first | (at_builtin; refine Tl.wpList_append_run _ rfl _ _ _ _ rfl _ _ rfl rfl HRun.out ?_) | fail)
      refine (KD.out _ _ _ HBy.out).mono ?_
      rintro e w7 ⟨rfl, hb7⟩
      have HC7 := Lib.hid (HC6.out.below hb7)
      have HM7 := Lib.hid (HM6.out.trans (Mv.of_below hb7))
      have HO7 := Lib.hid ((hb7.block _ (Tl.lt_of_heap HO6.out)).trans HO6.out)
      have HR7 := Lib.hid ((hb7.block _ (Tl.lt_of_heap HR6.out)).trans HR6.out)
      have H87 : Hid (Mm.R8 w7 (.slice A6 (n + 1) c6) (ys ++ [x])) := Lib.hid (Tl.own_keep H86.out fun i hi => hb7.block i (Tl.own_lo H86.out i hi))
      clear hb7 p0 p1 pf HC6 HM6 HO6 HR6 H86 HR8 HBo HBr HPo HPr HBy HC1 HF HMv HRun KD
      by_cases h3 : d6 = 3
      · subst h3
        have hk5 := HLg.out rfl
        rw [HL2.out] at hk5
        have hq := HS.out
        rw [if_pos rfl] at hq
        have HQ := Lib.hid hq
        clear hq HS
        go_wp2
        go_roundg (8 - (n + 1))
        case measure => omega
        case rel =>
          refine ⟨n + 1, hk5, rfl, ?_⟩
          have b8 : Below w7.heap.size w7 (w7.alloc (.cells #[.int .i64 d1, .int .i64 d2, .int .i64 d3, .int .u32 d4, .int .i64 d5] 151)) := by go_grown
          refine ⟨⟨ys ++ [x], c2, HL2.out, Tl.own_keep H87.out fun i hi => b8.block i (Tl.own_lo H87.out i hi), HB2.out, HC7.out.below b8, ?_⟩, HA6.out, HM7.out.trans (Mv.of_below b8), (b8.block _ (Tl.lt_of_heap HO7.out)).trans HO7.out, (b8.block _ (Tl.lt_of_heap HR7.out)).trans HR7.out⟩
          rw [HQ.out, show 8 - (n + 1) = 7 - n by omega]
      · have hq := HS.out
        rw [if_neg h3] at hq
        obtain ⟨q0, q1, q2, q3, q4, qf⟩ := cells5 HR7.out
        have hrl := Tl.lt_of_heap HR7.out
        by_cases h14 : d1 = 14
        · rw [if_pos h14] at hq
          subst h14
          have HQ := Lib.hid hq
          clear hq HS
          go_wp2_with (first
            | (go_at_call 59; refine (fault_any _ _ _ _ _).mono ?_; rintro e w8 ⟨b, rfl, hb, hc, hB⟩; have b8 := Tl.bel2 (a := w7) (by go_grown) hB; clear q0 q1 q2 q3 q4 qf; obtain ⟨q0, q1, q2, q3, q4, qf⟩ := cells5 ((b8.block _ hrl).trans HR7.out))
            | fail)
          have HM : Hid (Tl.Mods (Hr.One (w.heap.size + 1)) w8 (((((w8.setCell ⟨w.heap.size + 1, 0, none⟩ (.int .i64 0)).setCell ⟨w.heap.size + 1, 1, none⟩ (.int .i64 0)).setCell ⟨w.heap.size + 1, 2, none⟩ (.int .i64 0)).setCell ⟨w.heap.size + 1, 3, none⟩ (.int .u32 0)).setCell ⟨w.heap.size + 1, 4, none⟩ (.int .i64 0))) := Lib.hid (mods5 _ _ _ _ _ _ _)
          refine bodyPost_ret (v := .tuple #[Bt.Es.zs.val, .pointer (some ⟨b, 0, none⟩)]) (by simp [results, Tryz.results90, go_sem, q0, q1, q2, q3, q4, Bt.Es.zs]) rfl ?_
          rw [HQ.out]
          have hR8 := (b8.block _ hrl).trans HR7.out
          have hrb : Rb w8 b ⟨28, [], false⟩ := ⟨none, 0, hc, .inl rfl⟩
          refine ⟨_, rfl, ⟨b, rfl, ?_, hrb.own HM.out (t := 151) ⟨_, _, hR8⟩ (by decide) (by decide)⟩, (HC7.out.below b8).own HM.out H.out (by omega) ⟨_, ⟨_, _, hR8⟩, by simp [Mty], by decide⟩, (HM7.out.trans (Mv.of_below b8)).own HM.out (by omega)⟩
          have := HM7.out.size
          simp at hb
          omega
        · rw [if_neg h14] at hq
          have HQ := Lib.hid hq
          clear hq HS
          go_wp2
          have hm := mods5 w7 (w.heap.size + 1) (.int .i64 d1) (.int .i64 d2) (.int .i64 d3) (.int .u32 d4) (.int .i64 d5)
          have hK := HC7.out.own hm H.out (by omega) ⟨_, ⟨_, _, HR7.out⟩, by simp [Mty], by decide⟩
          have hV := HM7.out.own hm (by omega)
          have r0 := set5 q0 q1 q2 q3 q4 (.int .i64 d1) (.int .i64 d2) (.int .i64 d3) (.int .u32 d4) (.int .i64 d5)
          obtain ⟨r0, r1, r2, r3, r4, rl⟩ := r0
          generalize ((((w7.setCell ⟨w.heap.size + 1, 0, none⟩ (.int .i64 d1)).setCell ⟨w.heap.size + 1, 1, none⟩ (.int .i64 d2)).setCell ⟨w.heap.size + 1, 2, none⟩ (.int .i64 d3)).setCell ⟨w.heap.size + 1, 3, none⟩ (.int .u32 d4)).setCell ⟨w.heap.size + 1, 4, none⟩ (.int .i64 d5) = w8 at *
          have b9 : Below w8.heap.size w8 (w8.alloc (.cells #[.int .i64 d1, .int .i64 d2, .int .i64 d3, .int .u32 d4, .int .i64 d5] 151)) := by go_grown
          have t0 := (b9.cell (p := ⟨w.heap.size + 1, 0, none⟩) rl).trans r0
          have t1 := (b9.cell (p := ⟨w.heap.size + 1, 1, none⟩) rl).trans r1
          have t2 := (b9.cell (p := ⟨w.heap.size + 1, 2, none⟩) rl).trans r2
          have t3 := (b9.cell (p := ⟨w.heap.size + 1, 3, none⟩) rl).trans r3
          have t4 := (b9.cell (p := ⟨w.heap.size + 1, 4, none⟩) rl).trans r4
          generalize w8.alloc (.cells #[.int .i64 d1, .int .i64 d2, .int .i64 d3, .int .u32 d4, .int .i64 d5] 151) = w9 at *
          refine bodyPost_ret (v := .tuple #[Bt.Es.Sp.val ⟨d1, d2, d3, d4, d5⟩, .pointer none]) (by simp [results, Tryz.results90, go_sem, t0, t1, t2, t3, t4]) rfl ?_
          rw [HQ.out]
          exact ⟨_, rfl, rfl, hK.below b9, hV.trans (Mv.of_below b9)⟩
    · have hq : Mc.spc 8 [] c o z = (Bt.Es.zs, some r, c2) := by
        rw [← hsp, hsucc, Mc.spc, hf]
      have HQ := Lib.hid hq
      have HF := Lib.hid hf
      have HPr := Lib.hid hpr
      have HBr := Lib.hid hbr
      clear hch hsp hf hq hmv hpo hpr hbo hbr h8 hab
      go_wp2_with (first
        | (go_at_call 56; refine (fetch_no _ HC1.out _ _ _ HF.out).mono ?_; rintro e w2 ⟨b, rfl, hb, r2, h2, m2⟩; have rb := cells5 ((m2.heap HC1.out HPr.out).trans HBr.out); obtain ⟨q0, q1, q2, q3, q4, qf⟩ := rb; have H2 := Lib.hid h2; have M2 := Lib.hid m2; have R2 := Lib.hid r2; clear h2 m2 r2)
        | fail)
      have HM : Hid (Tl.Mods (Hr.One (w.heap.size + 1)) w2 (((((w2.setCell ⟨w.heap.size + 1, 0, none⟩ (.int .i64 0)).setCell ⟨w.heap.size + 1, 1, none⟩ (.int .i64 0)).setCell ⟨w.heap.size + 1, 2, none⟩ (.int .i64 0)).setCell ⟨w.heap.size + 1, 3, none⟩ (.int .u32 0)).setCell ⟨w.heap.size + 1, 4, none⟩ (.int .i64 0))) := Lib.hid (mods5 _ _ _ _ _ _ _)
      refine bodyPost_ret (v := .tuple #[Bt.Es.zs.val, .pointer (some ⟨b, 0, none⟩)]) (by simp [results, Tryz.results90, go_sem, q0, q1, q2, q3, q4, Bt.Es.zs]) rfl ?_
      rw [HQ.out]
      have hp2 := HPr.out.mv M2.out HC1.out
      obtain ⟨t, ht1, ht2, ht3⟩ := hp2
      refine ⟨_, rfl, ⟨b, rfl, ?_, R2.out.own HM.out (t := 151) ?_ (by decide) (by decide)⟩, H2.out.own HM.out H.out (by omega) (HPr.out.mv M2.out HC1.out), (HMv.out.trans M2.out).own HM.out (by omega)⟩
      · have := HMv.out.size; omega
      · exact ⟨_, _, (M2.out.heap HC1.out HPr.out).trans HBr.out⟩
end

end Go.Proofs.YteohkobdmkbcpaaGreatDoor.Cs
