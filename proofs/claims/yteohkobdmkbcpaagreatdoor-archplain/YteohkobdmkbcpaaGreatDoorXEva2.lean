/- Contracts: address, evaluate. -/
import Derived.Test.YteohkobdmkbcpaaGreatDoorXEva
namespace Go.Proofs.YteohkobdmkbcpaaGreatDoor.Cs
open Go.RowKit
set_option linter.unusedVariables false
set_option linter.unusedSimpArgs false

section
variable {w0 : World} {a : Ad} {S0 : Nat → Prop} {c : Mc}
theorem Ch.byt {w : World} (h : Ch w0 a S0 c w) : Rm.Byt c.xs := by obtain ⟨S, m, _⟩ := h.ex; obtain ⟨rows, q⟩ := m.ms; exact q.mem.byt
theorem ld_len {va : Int} (n : Nat) (hv : U va) : (c.ld va n).1.length ≤ n :=
  (Mm.accY_len (t := c.t) (xs := c.xs) (u := c.us) (wr := false) (keep := true) (rows := []) (va := va) (n := n) (a := (c.ac c.us false va n).1) (rows' := (c.ac c.us false va n).2) hv rfl).1
theorem num_bound {l : List Int} (h : Rm.Byt l) : 0 ≤ Rm.num l ∧ Rm.num l < 256 ^ l.length := by
  have := Rm.val_bound l 0 h l.length (by omega)
  simpa [Rm.val] using this
theorem get_U (h : Rm.Byt c.xs) {va : Int} (z : Int) (hv : U va) : U (c.get va z).1 := by
  have hl := ld_len (c := c) (min z 4).toNat hv
  have hb : Rm.Byt (c.ld va (min z 4).toNat).1 := Mm.byt_accY h _
  have := num_bound hb
  have h4 : (c.ld va (min z 4).toNat).1.length ≤ 4 := by omega
  refine ⟨this.1, Int.lt_of_lt_of_le this.2 ?_⟩
  generalize (c.ld va (min z 4).toNat).1.length = m at h4
  match m, h4 with
  | 0, _ => exact by decide
  | 1, _ => exact by decide
  | 2, _ => exact by decide
  | 3, _ => exact by decide
  | 4, _ => exact by decide
theorem bas_U {w : World} (s : Bt.Es.Sp) (z : Int) (h : Ch w0 a S0 c w) (hx : U s.x) : U (c.bas s z).1 := by
  have hg := gr_U h.eok s.r
  unfold Mc.bas
  split
  · exact sb_U _ _
  split
  · exact hg
  split
  · refine get_U ?_ _ hg
    unfold Mc.add Mc.sr
    split <;> exact h.byt
  split
  · exact ad_U _ _
  split
  · exact get_U h.byt _ (ad_U _ _)
  split
  · exact hx
  · exact hg
set_option maxHeartbeats 1000000 in
set_option maxRecDepth 100000 in
theorem address_any (w : World) (h : Ch w0 a S0 c w) (k r i x n z : Int) (hx : U x) (hz : Bt.Sz z) : Calls Tryz.prog 92 #[.pointer (some ⟨a.g, 0, none⟩), .agg #[.int .i64 k, .int .i64 r, .int .i64 i, .int .u32 x, .int .i64 n], .int .i64 z] w fun e w' =>
    ∃ v, e = .returned (.tuple #[.int .u32 (c.adr ⟨k, r, i, x, n⟩ z).1, v]) ∧ Rp w w' (c.adr ⟨k, r, i, x, n⟩ z).2.1 v ∧ Ch w0 a S0 (c.adr ⟨k, r, i, x, n⟩ z).2.2 w' ∧ Mv a w w' := by
  have H := Lib.hid h
  have HX := Lib.hid hx
  have hzb : 0 ≤ z ∧ z ≤ 4 := by rcases hz with rfl | rfl | rfl <;> omega
  obtain ⟨z0, z1⟩ := hzb
  rcases hb : c.bas ⟨k, r, i, x, n⟩ z with ⟨y, q, c'⟩
  have hA : c.adr ⟨k, r, i, x, n⟩ z = (if i = -1 then y else ad y (c'.gr i * z % 4294967296), q, c') := by rw [Mc.adr, hb]
  have HB : Hid (∀ W, Ch w0 a S0 c W → Calls Tryz.prog 160 #[.pointer (some ⟨a.g, 0, none⟩), .agg #[.int .i64 k, .int .i64 r, .int .i64 i, .int .u32 x, .int .i64 n], .int .u32 z] W fun e w' => ∃ v, e = .returned (.tuple #[.int .u32 y, v]) ∧ Rp W w' q v ∧ Ch w0 a S0 c' w' ∧ Mv a W w') := Lib.hid fun W hW => by
    have := base_any W hW k r i x n z hx ⟨by omega, by omega⟩
    rw [hb] at this
    exact this
  have hy := bas_U ⟨k, r, i, x, n⟩ z h hx
  rw [hb] at hy
  obtain ⟨y0, y1⟩ := hy
  rw [hA]
  generalize hr1 : (if i = -1 then y else ad y (c'.gr i * z % 4294967296)) = r1
  have HR1 := Lib.hid hr1
  clear h hb hA hx hz hr1
  go_enter Tryz.func92, Tryz.ntmps92
  go_wp2_with fail
  have B0 := Lib.hid (show Below w.heap.size w (w.alloc (.cells #[.int .i64 k, .int .i64 r, .int .i64 i, .int .u32 x, .int .i64 n] 151)) by go_grown)
  have K := Lib.hid (nx_below H.out B0.out)
  have hb0 : (w.alloc (.cells #[.int .i64 k, .int .i64 r, .int .i64 i, .int .u32 x, .int .i64 n] 151)).heap[w.heap.size]? = some (.cells #[.int .i64 k, .int .i64 r, .int .i64 i, .int .u32 x, .int .i64 n] 151 (0, 0)) := heap_alloc_new _ _
  generalize w.alloc (.cells #[.int .i64 k, .int .i64 r, .int .i64 i, .int .u32 x, .int .i64 n] 151) = W at *
  have hp : Pc W w.heap.size := ⟨_, ⟨_, _, hb0⟩, by simp [Mty], by decide⟩
  refine (HB.out _ K.out.1).mono ?_
  rintro e w2 ⟨v, rfl, r2, h2, m2⟩
  obtain ⟨b0, b1, b2, b3, b4, bf⟩ := cells5 ((m2.heap K.out.1 hp).trans hb0)
  have HH := Lib.hid h2
  have HM := Lib.hid (K.out.2.trans m2)
  have HR := Lib.hid (r2.from K.out.2.size)
  have d2 := h2.c2
  have hU := gr_U h2.eok i
  generalize hg : w.heap.size = g at *
  clear hb0 hp r2 h2 m2 K HB B0
  by_cases hi : i = -1
  · subst hi
    have HE : Hid (r1 = y) := by show _ = _; rw [← HR1.out, if_pos rfl]
    go_wp2
    exact bodyPost_ret (v := .tuple #[.int .u32 y, v]) (by simp [results, Tryz.results92, go_sem]) rfl ⟨_, by rw [HE.out], HR.out, HH.out, HM.out⟩
  · have HE : Hid (r1 = ad y (c'.gr i * z % 4294967296)) := by show _ = _; rw [← HR1.out, if_neg hi]
    go_wp2_with fail
    go_quiet (first
      | (go_at_call 55; exact quiet_eq (fget _ (HH.out.below (Tl.Ia.drewN_bel _ _)) _))
      | fail)
    have hb := Tl.Ia.drewN_bel w2 nq
    have K2 := Lib.hid (nx_trans HM.out (nx_below HH.out hb))
    have KR := Lib.hid (HR.out.below hb)
    generalize w2.drewN nq = V at *
    generalize c'.gr i = u at *
    obtain ⟨u0, u1⟩ := hU
    go_wp2
    rw [HE.out]
    exact bodyPost_ret (v := .tuple #[.int .u32 (ad y (u * z % 4294967296)), v]) (by simp [results, Tryz.results92, go_sem, ad]) rfl ⟨_, rfl, KR.out, K2.out.1, K2.out.2⟩

theorem cells4 {w : World} {b t : Nat} {v0 v1 v2 v3 : Value} (h : w.heap[b]? = some (.cells #[v0, v1, v2, v3] t (0, 0))) : w.cell? ⟨b, 0, none⟩ = some v0 ∧ w.cell? ⟨b, 1, none⟩ = some v1 ∧ w.cell? ⟨b, 2, none⟩ = some v2 ∧ w.cell? ⟨b, 3, none⟩ = some v3 ∧ ∀ i, w.frozen? ⟨b, i, none⟩ = false :=
  ⟨by rw [cell_of_row w b 0 _ _ _ h]; rfl, by rw [cell_of_row w b 1 _ _ _ h]; rfl, by rw [cell_of_row w b 2 _ _ _ h]; rfl, by rw [cell_of_row w b 3 _ _ _ h]; rfl, fun i => by simp [World.frozen?, h]⟩
theorem mods4 (w : World) (b : Nat) (v0 v1 v2 v3 : Value) : Tl.Mods (Hr.One b) w ((((w.setCell ⟨b, 0, none⟩ v0).setCell ⟨b, 1, none⟩ v1).setCell ⟨b, 2, none⟩ v2).setCell ⟨b, 3, none⟩ v3) :=
  ((((Tl.Mods.refl (Hr.One b) w).set (p := ⟨b, 0, none⟩) v0 (.inl rfl)).set (p := ⟨b, 1, none⟩) v1 (.inl rfl)).set (p := ⟨b, 2, none⟩) v2 (.inl rfl)).set (p := ⟨b, 3, none⟩) v3 (.inl rfl)
theorem set4 {w : World} {b : Nat} {o0 o1 o2 o3 : Value} (h0 : w.cell? ⟨b, 0, none⟩ = some o0) (h1 : w.cell? ⟨b, 1, none⟩ = some o1) (h2 : w.cell? ⟨b, 2, none⟩ = some o2) (h3 : w.cell? ⟨b, 3, none⟩ = some o3) (v0 v1 v2 v3 : Value) :
    let W := (((w.setCell ⟨b, 0, none⟩ v0).setCell ⟨b, 1, none⟩ v1).setCell ⟨b, 2, none⟩ v2).setCell ⟨b, 3, none⟩ v3
    W.cell? ⟨b, 0, none⟩ = some v0 ∧ W.cell? ⟨b, 1, none⟩ = some v1 ∧ W.cell? ⟨b, 2, none⟩ = some v2 ∧ W.cell? ⟨b, 3, none⟩ = some v3 ∧ b < W.heap.size := by
  have hl := block_lt_of_cell h0
  refine ⟨?_, ?_, ?_, ?_, ?_⟩
  all_goals simp [go_sem, h0, h1, h2, h3]
  all_goals simpa [World.setCell] using hl
/-- What is evaluated behind a specifier. -/
def Mc.evk (c' : Mc) (o z : Int) (s : Bt.Es.Sp) : Option Rz → Od × Option Rz × Mc
  | some r => (zod, some r, c')
  | none => if s.k = 0 ∨ s.k = 12 then (⟨z, s.x % Bt.W z, -1, 0⟩, none, c')
      else if s.k = 5 then (⟨z, c'.gr s.r % Bt.W z, s.r, 0⟩, none, c')
      else match c'.adr s z with
        | (at_, some r, c2) => (⟨z, 0, -1, at_⟩, some r, c2)
        | (at_, none, c2) => if o = 114 ∨ o = 109 then (⟨z, (c2.get at_ z).1, -1, at_⟩, (c2.get at_ z).2, c2) else (⟨z, 0, -1, at_⟩, none, c2)
theorem eva_evk {o z : Int} {s : Bt.Es.Sp} {q : Option Rz} {c' : Mc} (hs : Mc.spc 8 [] c o z = (s, q, c')) : c.eva o z = c'.evk o z s q := by
  unfold Mc.eva
  rw [hs]
  cases q <;> rfl
theorem far_drew {w : World} {g b i o : Nat} {u v : Value} (hb : g ≠ b) (h : w.cell? ⟨g, i, none⟩ = some v) : (w.setCell ⟨b, o, none⟩ u).drew.cell? ⟨g, i, none⟩ = some v := Hr.far_cell hb h
theorem dec_U (ys : List Int) (o z : Int) : U (Bt.Es.dec ys o z).1.x := by
  have hfin : ∀ x t i c, U (Bt.Es.fin x t o z i c).1.x := fun x t i c => by
    unfold Bt.Es.fin
    split
    · split
      · exact ⟨by simp [Bt.Es.zs], by simp [Bt.Es.zs]⟩
      · simp only
        split
        · unfold Bt.Es.hd
          (repeat' split) <;> exact ⟨by simp <;> omega, by simp <;> omega⟩
        · exact Bt.Es.ex_U _ _
    · exact ⟨by simp [Bt.Es.bd], by simp [Bt.Es.bd]⟩
  unfold Bt.Es.dec
  split
  · exact ⟨by simp [Bt.Es.zs], by simp [Bt.Es.zs]⟩
  split
  · split
    · exact ⟨by simp [Bt.Es.zs], by simp [Bt.Es.zs]⟩
    · exact Bt.Es.ex_U _ _
  split
  · exact ⟨by simp [Bt.Es.zs], by simp [Bt.Es.zs]⟩
  · split
    · split
      · exact ⟨by simp [Bt.Es.bd], by simp [Bt.Es.bd]⟩
      · split
        · exact ⟨by simp [Bt.Es.zs], by simp [Bt.Es.zs]⟩
        · exact hfin _ _ _ _
    · exact hfin _ _ _ _
theorem spc_U : ∀ (k : Nat) (ys : List Int) (c : Mc) (o z : Int), U (Mc.spc k ys c o z).1.x
  | 0, _, _, _, _ => ⟨by simp [Mc.spc, Bt.Es.zs], by simp [Mc.spc, Bt.Es.zs]⟩
  | k + 1, ys, c, o, z => by
    unfold Mc.spc
    split
    · exact ⟨by simp [Bt.Es.zs], by simp [Bt.Es.zs]⟩
    · split
      · exact spc_U k _ _ o z
      · split
        · exact ⟨by simp [Bt.Es.zs], by simp [Bt.Es.zs]⟩
        · exact dec_U _ _ _
/-- The variables of evaluate: the operand, the result, the specifier in block g, what comes of it in the next. -/
structure Ve (w : World) (w0 : World) (a : Ad) (S0 : Nat → Prop) (c : Mc) (o z : Int) (s : Bt.Es.Sp) (g : Nat) (v : Od) (W : World) : Prop where
  ch : Ch w0 a S0 c W
  mv : Mv a w W
  c0 : ∃ c0, Ch w0 a S0 c0 w
  bo : W.heap[w.heap.size]? = some (.cells #[.int .u8 o, .int .i64 z] 120 (0, 0))
  br : W.heap[w.heap.size + 1]? = some (.cells #[.int .i64 0, .int .u32 0, .int .i64 0, .int .u32 0] 122 (0, 0))
  bs : W.heap[g]? = some (.cells #[.int .i64 s.k, .int .i64 s.r, .int .i64 s.i, .int .u32 s.x, .int .i64 s.n] 151 (0, 0))
  bv : W.heap[g + 1]? = some (.cells #[.int .i64 v.z, .int .u32 v.x, .int .i64 v.r, .int .u32 v.a] 122 (0, 0))
  gt : w.heap.size + 1 < g
section
variable {w W W' : World} {o z : Int} {s : Bt.Es.Sp} {g : Nat} {v : Od} {c' : Mc}
theorem heap_set_ne {w : World} {p : Addr} {u : Value} {k : Nat} (h : k ≠ p.block) : (w.setCell p u).heap[k]? = w.heap[k]? := Below.heap_setCell _ _ _ _ h
theorem Ve.below (h : Ve w w0 a S0 c o z s g v W) (b : Below W.heap.size W W') : Ve w w0 a S0 c o z s g v W' :=
  ⟨h.ch.below b, h.mv.trans (Mv.of_below b), h.c0, (b.block _ (Tl.lt_of_heap h.bo)).trans h.bo, (b.block _ (Tl.lt_of_heap h.br)).trans h.br, (b.block _ (Tl.lt_of_heap h.bs)).trans h.bs, (b.block _ (Tl.lt_of_heap h.bv)).trans h.bv, h.gt⟩
theorem Ve.next (h : Ve w w0 a S0 c o z s g v W) (k : Ch w0 a S0 c' W') (m : Mv a W W') : Ve w w0 a S0 c' o z s g v W' :=
  ⟨k, h.mv.trans m, h.c0, (m.heap h.ch ⟨_, ⟨_, _, h.bo⟩, by simp [Mty], by decide⟩).trans h.bo, (m.heap h.ch ⟨_, ⟨_, _, h.br⟩, by simp [Mty], by decide⟩).trans h.br, (m.heap h.ch ⟨_, ⟨_, _, h.bs⟩, by simp [Mty], by decide⟩).trans h.bs, (m.heap h.ch ⟨_, ⟨_, _, h.bv⟩, by simp [Mty], by decide⟩).trans h.bv, h.gt⟩
theorem Ve.pv (h : Ve w w0 a S0 c o z s g v W) : Pc W (g + 1) := ⟨_, ⟨_, _, h.bv⟩, by simp [Mty], by decide⟩
theorem Ve.pr (h : Ve w w0 a S0 c o z s g v W) : Pc W (w.heap.size + 1) := ⟨_, ⟨_, _, h.br⟩, by simp [Mty], by decide⟩
theorem one_set (W : World) (b i : Nat) (u : Value) : Tl.Mods (Hr.One b) W (W.setCell ⟨b, i, none⟩ u) := (Tl.Mods.refl (Hr.One b) W).set (p := ⟨b, i, none⟩) u (.inl rfl)
theorem Ve.set (h : Ve w w0 a S0 c o z s g v W) (i : Nat) (u : Value) (v' : Od) (hv : ([.int .i64 v.z, .int .u32 v.x, .int .i64 v.r, .int .u32 v.a] : List Value).set i u = [.int .i64 v'.z, .int .u32 v'.x, .int .i64 v'.r, .int .u32 v'.a]) :
    Ve w w0 a S0 c o z s g v' (W.setCell ⟨g + 1, i, none⟩ u) := by
  obtain ⟨c0, h0⟩ := h.c0
  have hg := h.gt
  have hb : Hr.Bk W (g + 1) 122 [.int .i64 v.z, .int .u32 v.x, .int .i64 v.r, .int .u32 v.a] := h.bv
  have hb' := hb.set i u
  rw [hv] at hb'
  exact ⟨h.ch.own (one_set _ _ _ _) h0 (by omega) h.pv, h.mv.own (one_set _ _ _ _) (by omega), ⟨c0, h0⟩, (heap_set_ne (by simp; omega)).trans h.bo, (heap_set_ne (by simp; omega)).trans h.br, (heap_set_ne (by simp)).trans h.bs, hb', h.gt⟩
theorem Ve.vx (h : Ve w w0 a S0 c o z s g v W) (x : Int) : Ve w w0 a S0 c o z s g ⟨v.z, x, v.r, v.a⟩ (W.setCell ⟨g + 1, 1, none⟩ (.int .u32 x)) := h.set 1 _ _ rfl
theorem Ve.vr (h : Ve w w0 a S0 c o z s g v W) (x : Int) : Ve w w0 a S0 c o z s g ⟨v.z, v.x, x, v.a⟩ (W.setCell ⟨g + 1, 2, none⟩ (.int .i64 x)) := h.set 2 _ _ rfl
theorem Ve.va (h : Ve w w0 a S0 c o z s g v W) (x : Int) : Ve w w0 a S0 c o z s g ⟨v.z, v.x, v.r, x⟩ (W.setCell ⟨g + 1, 3, none⟩ (.int .u32 x)) := h.set 3 _ _ rfl
/-- What is answered goes to its block. -/
theorem own_ret {b : Nat} {c0 : Mc} (h : Ch w0 a S0 c W) (m : Mv a w W) (h0 : Ch w0 a S0 c0 w) (hp : Pc W b) (hk : w.heap.size ≤ b) {v0 v1 v2 v3 : Value} {u : Option Rz} {uv : Value} (hu : Rp w W u uv) (hty : Mm.Typ W b 122) :
    let V := (((W.setCell ⟨b, 0, none⟩ v0).setCell ⟨b, 1, none⟩ v1).setCell ⟨b, 2, none⟩ v2).setCell ⟨b, 3, none⟩ v3
    Rp w V u uv ∧ Ch w0 a S0 c V ∧ Mv a w V := by
  have hm := mods4 W b v0 v1 v2 v3
  refine ⟨?_, h.own hm h0 hk hp, m.own hm hk⟩
  cases u with
  | none => exact hu
  | some r => obtain ⟨x, e, hx, hr⟩ := hu; exact ⟨x, e, hx, hr.own hm hty (by decide) (by decide)⟩
end

theorem adr_U {w : World} (s : Bt.Es.Sp) (z : Int) (h : Ch w0 a S0 c w) (hx : U s.x) : U (c.adr s z).1 := by
  unfold Mc.adr
  have := bas_U s z h hx
  rcases hb : c.bas s z with ⟨x, r, c'⟩
  rw [hb] at this
  simp only at this ⊢
  split
  · exact this
  · exact ad_U _ _
/-- An operand as a value. -/
abbrev Od.val (o : Od) : Value := .agg #[.int .i64 o.z, .int .u32 o.x, .int .i64 o.r, .int .u32 o.a]
set_option maxHeartbeats 2000000 in
set_option maxRecDepth 100000 in
theorem eva_any (w : World) (h : Ch w0 a S0 c w) (o z : Int) (ho : 0 ≤ o ∧ o < 256) (hg : Bt.Es.gd o z = true) : Calls Tryz.prog 62 #[.pointer (some ⟨a.g, 0, none⟩), .agg #[.int .u8 o, .int .i64 z]] w fun e w' =>
    ∃ v, e = .returned (.tuple #[(c.eva o z).1.val, v]) ∧ Rp w w' (c.eva o z).2.1 v ∧ Ch w0 a S0 (c.eva o z).2.2 w' ∧ Mv a w w' := by
  have H := Lib.hid h
  rcases hs : Mc.spc 8 [] c o z with ⟨⟨sk, sr, si, sx, sn⟩, q, c'⟩
  have HS : Hid (∀ W, Ch w0 a S0 c W → Calls Tryz.prog 90 #[.pointer (some ⟨a.g, 0, none⟩), .agg #[.int .u8 o, .int .i64 z]] W fun e w' => ∃ v, e = .returned (.tuple #[Bt.Es.Sp.val ⟨sk, sr, si, sx, sn⟩, v]) ∧ Rp W w' q v ∧ Ch w0 a S0 c' w' ∧ Mv a W w') := Lib.hid fun W hW => by
    have := spec_any W hW o z ho hg
    rw [hs] at this
    exact this
  have hE := eva_evk hs
  have hsx := spc_U 8 [] c o z
  rw [hs] at hsx
  simp only at hsx
  have hz := Bt.Es.gd_sz hg
  generalize c.eva o z = E at *
  have HE := Lib.hid hE
  clear h hs hE
  go_enter Tryz.func62, Tryz.ntmps62
  go_wp2_with fail
  have B0 := Lib.hid (show Below w.heap.size w ((w.alloc (.cells #[.int .u8 o, .int .i64 z] 120)).alloc (.cells #[.int .i64 0, .int .u32 0, .int .i64 0, .int .u32 0] 122)) by go_grown)
  have K := Lib.hid (nx_below H.out B0.out)
  have hb1 : ((w.alloc (.cells #[.int .u8 o, .int .i64 z] 120)).alloc (.cells #[.int .i64 0, .int .u32 0, .int .i64 0, .int .u32 0] 122)).heap[w.heap.size + 1]? = some (.cells #[.int .i64 0, .int .u32 0, .int .i64 0, .int .u32 0] 122 (0, 0)) := new_one w _ [.int .i64 0, .int .u32 0, .int .i64 0, .int .u32 0] _
  have hb0 : ((w.alloc (.cells #[.int .u8 o, .int .i64 z] 120)).alloc (.cells #[.int .i64 0, .int .u32 0, .int .i64 0, .int .u32 0] 122)).heap[w.heap.size]? = some (.cells #[.int .u8 o, .int .i64 z] 120 (0, 0)) := by
    have b1 : Below (w.alloc (.cells #[.int .u8 o, .int .i64 z] 120)).heap.size (w.alloc (.cells #[.int .u8 o, .int .i64 z] 120)) ((w.alloc (.cells #[.int .u8 o, .int .i64 z] 120)).alloc (.cells #[.int .i64 0, .int .u32 0, .int .i64 0, .int .u32 0] 122)) := by go_grown
    exact (b1.block _ (by simp)).trans (heap_alloc_new _ _)
  generalize (w.alloc (.cells #[.int .u8 o, .int .i64 z] 120)).alloc (.cells #[.int .i64 0, .int .u32 0, .int .i64 0, .int .u32 0] 122) = W at *
  have hp0 : Pc W w.heap.size := ⟨_, ⟨_, _, hb0⟩, by simp [Mty], by decide⟩
  have hp1 : Pc W (w.heap.size + 1) := ⟨_, ⟨_, _, hb1⟩, by simp [Mty], by decide⟩
  obtain ⟨o0, o1, of⟩ := cells2 hb0
  have HP0 := Lib.hid hp0
  have HP1 := Lib.hid hp1
  have HB0 := Lib.hid hb0
  have HB1 := Lib.hid hb1
  clear hp0 hp1 hb0 hb1
  go_wp2_with fail
  refine (HS.out _ K.out.1).mono ?_
  rintro e w2 ⟨v, rfl, r2, h2, m2⟩
  have hq0 := (m2.heap K.out.1 HP0.out).trans HB0.out
  have hq1 := (m2.heap K.out.1 HP1.out).trans HB1.out
  have HQ0 := Lib.hid hq0
  have HQ1 := Lib.hid hq1
  have HH := Lib.hid h2
  have HM := Lib.hid (K.out.2.trans m2)
  have HR := Lib.hid (r2.from K.out.2.size)
  clear o0 o1 of HP0 HP1 HB0 HB1 h2 m2 r2 K B0 hq0 hq1
  cases q with
  | some r =>
    obtain ⟨b, rfl, hb, hr⟩ := HR.out
    have hl := Tl.lt_of_heap HQ1.out
    obtain ⟨q0, q1, q2, q3, qf⟩ := cells4 HQ1.out
    have HE2 : Hid (E = (zod, some r, c')) := HE.out
    go_wp2
    obtain ⟨t0, t1, t2, t3, tl⟩ := set4 q0 q1 q2 q3 (.int .i64 0) (.int .u32 0) (.int .i64 0) (.int .u32 0)
    obtain ⟨k1, k2, k3⟩ := own_ret (v0 := .int .i64 0) (v1 := .int .u32 0) (v2 := .int .i64 0) (v3 := .int .u32 0) HH.out HM.out H.out ⟨_, ⟨_, _, HQ1.out⟩, by simp [Mty], by decide⟩ (by omega) (u := some r) (uv := .pointer (some ⟨b, 0, none⟩)) ⟨b, rfl, hb, hr⟩ ⟨_, _, HQ1.out⟩
    generalize (((w2.setCell ⟨w.heap.size + 1, 0, none⟩ (.int .i64 0)).setCell ⟨w.heap.size + 1, 1, none⟩ (.int .u32 0)).setCell ⟨w.heap.size + 1, 2, none⟩ (.int .i64 0)).setCell ⟨w.heap.size + 1, 3, none⟩ (.int .u32 0) = V at *
    have b9 : Below V.heap.size V (V.alloc (.cells #[.int .i64 sk, .int .i64 sr, .int .i64 si, .int .u32 sx, .int .i64 sn] 151)) := by go_grown
    have u0 := (b9.cell (p := ⟨w.heap.size + 1, 0, none⟩) tl).trans t0
    have u1 := (b9.cell (p := ⟨w.heap.size + 1, 1, none⟩) tl).trans t1
    have u2 := (b9.cell (p := ⟨w.heap.size + 1, 2, none⟩) tl).trans t2
    have u3 := (b9.cell (p := ⟨w.heap.size + 1, 3, none⟩) tl).trans t3
    generalize V.alloc (.cells #[.int .i64 sk, .int .i64 sr, .int .i64 si, .int .u32 sx, .int .i64 sn] 151) = V2 at *
    refine bodyPost_ret (v := .tuple #[zod.val, .pointer (some ⟨b, 0, none⟩)]) (by simp [results, Tryz.results62, go_sem, u0, u1, u2, u3, zod, Od.val]) rfl ?_
    rw [HE2.out]
    exact ⟨_, rfl, k1.below b9, k2.below b9, k3.trans (Mv.of_below b9)⟩
  | none =>
    have hv : v = .pointer none := HR.out
    subst hv
    clear HR
    have HV : Hid (Ve w w0 a S0 c' o z ⟨sk, sr, si, sx, sn⟩ w2.heap.size ⟨z, 0, -1, 0⟩ ((w2.alloc (.cells #[.int .i64 sk, .int .i64 sr, .int .i64 si, .int .u32 sx, .int .i64 sn] 151)).alloc (.cells #[.int .i64 z, .int .u32 0, .int .i64 (-1), .int .u32 0] 122))) := by
      have b1 : Below (w2.alloc (.cells #[.int .i64 sk, .int .i64 sr, .int .i64 si, .int .u32 sx, .int .i64 sn] 151)).heap.size (w2.alloc (.cells #[.int .i64 sk, .int .i64 sr, .int .i64 si, .int .u32 sx, .int .i64 sn] 151)) ((w2.alloc (.cells #[.int .i64 sk, .int .i64 sr, .int .i64 si, .int .u32 sx, .int .i64 sn] 151)).alloc (.cells #[.int .i64 z, .int .u32 0, .int .i64 (-1), .int .u32 0] 122)) := by go_grown
      have b2 : Below w2.heap.size w2 ((w2.alloc (.cells #[.int .i64 sk, .int .i64 sr, .int .i64 si, .int .u32 sx, .int .i64 sn] 151)).alloc (.cells #[.int .i64 z, .int .u32 0, .int .i64 (-1), .int .u32 0] 122)) := by go_grown
      exact ⟨HH.out.below b2, HM.out.trans (Mv.of_below b2), ⟨_, H.out⟩, (b2.block _ (Tl.lt_of_heap HQ0.out)).trans HQ0.out, (b2.block _ (Tl.lt_of_heap HQ1.out)).trans HQ1.out, (b1.block _ (by simp)).trans (heap_alloc_new _ _), new_one w2 _ [.int .i64 z, .int .u32 0, .int .i64 (-1), .int .u32 0] _, Tl.lt_of_heap HQ1.out⟩
    obtain ⟨o0, o1, of⟩ := cells2 HQ0.out
    have hol := Tl.lt_of_heap HQ0.out
    go_upto_region 5 with fail
    generalize (w2.alloc (.cells #[.int .i64 sk, .int .i64 sr, .int .i64 si, .int .u32 sx, .int .i64 sn] 151)).alloc (.cells #[.int .i64 z, .int .u32 0, .int .i64 (-1), .int .u32 0] 122) = V at *
    generalize w2.heap.size = g at *
    clear o0 o1 of hol HQ0 HQ1 HH HM
    obtain ⟨o0, o1, of⟩ := cells2 HV.out.bo
    obtain ⟨s0, s1, s2, s3, s4, sf⟩ := cells5 HV.out.bs
    obtain ⟨v0, v1, v2, v3, vf⟩ := cells4 HV.out.bv
    simp only at s0 s1 s2 s3 s4 v0 v1 v2 v3
    have hgt := HV.out.gt
    have hne1 : w.heap.size ≠ g + 1 := by omega
    have hne2 : g ≠ g + 1 := by omega
    by_cases h0 : sk = 0 ∨ sk = 12
    · have HE2 : Hid (E = (⟨z, sx % Bt.W z, -1, 0⟩, none, c')) := by show _ = _; rw [HE.out, Mc.evk, if_pos h0]
      rcases h0 with rfl | rfl
      all_goals
        have hmk := fun W => Bt.mask_any z hz W
        have HAn : bits .and .u32 sx (Bt.W z - 1) = sx % Bt.W z := Bt.and_mask hz hsx
        go_upto_region 11 with fail
        generalize hB : w.heap.size = B at o0 o1 hne1 hgt ⊢
        have t1 : (V.setCell ⟨g + 1, 1, none⟩ (.int .u32 (sx % Bt.W z))).drew.cell? ⟨B, 1, none⟩ = some (.int .i64 z) := far_drew hne1 o1
        have t2 : (V.setCell ⟨g + 1, 1, none⟩ (.int .u32 (sx % Bt.W z))).drew.cell? ⟨g, 3, none⟩ = some (.int .u32 sx) := far_drew hne2 s3
        go_region_held3 (fun w' => w'.cell? ⟨g, 3, none⟩ = some (.int .u32 sx) ∧ w'.cell? ⟨B, 1, none⟩ = some (.int .i64 z))
          (first | exact ⟨t2, t1⟩ | go_keep)
          (first | (go_at_call 91; refine (hmk _).mono ?_; rintro e w3 ⟨rfl, rfl⟩))
        clear t1 t2 o0 o1 of s0 s1 s2 s3 s4 sf v0 v1 v2 v3 vf
        subst hB
        have HV2 := Lib.hid ((HV.out.vx (sx % Bt.W z)).below ((Below.refl _ _).drew))
        simp only at HV2
        generalize (V.setCell ⟨g + 1, 1, none⟩ (.int .u32 (sx % Bt.W z))).drew = V2 at *
        obtain ⟨v0, v1, v2, v3, vf⟩ := cells4 HV2.out.bv
        obtain ⟨q0, q1, q2, q3, qf⟩ := cells4 HV2.out.br
        simp only at v0 v1 v2 v3
        go_wp2
        obtain ⟨t0, t1, t2, t3, tl⟩ := set4 q0 q1 q2 q3 (.int .i64 z) (.int .u32 (sx % Bt.W z)) (.int .i64 (-1)) (.int .u32 0)
        obtain ⟨k1, k2, k3⟩ := own_ret (v0 := .int .i64 z) (v1 := .int .u32 (sx % Bt.W z)) (v2 := .int .i64 (-1)) (v3 := .int .u32 0) HV2.out.ch HV2.out.mv H.out HV2.out.pr (by omega) (u := none) (uv := (.pointer none)) rfl ⟨_, _, HV2.out.br⟩
        generalize (((V2.setCell ⟨w.heap.size + 1, 0, none⟩ (.int .i64 z)).setCell ⟨w.heap.size + 1, 1, none⟩ (.int .u32 (sx % Bt.W z))).setCell ⟨w.heap.size + 1, 2, none⟩ (.int .i64 (-1))).setCell ⟨w.heap.size + 1, 3, none⟩ (.int .u32 0) = V3 at *
        refine bodyPost_ret (v := .tuple #[Od.val ⟨z, (sx % Bt.W z), (-1), 0⟩, (.pointer none)]) (by simp [results, Tryz.results62, go_sem, t0, t1, t2, t3]) rfl ?_
        rw [HE2.out]
        exact ⟨_, rfl, k1, k2, k3⟩
    · have HE1 : Hid (E = if sk = 5 then (⟨z, c'.gr sr % Bt.W z, sr, 0⟩, none, c') else match c'.adr ⟨sk, sr, si, sx, sn⟩ z with
          | (at_, some r, c2) => (⟨z, 0, -1, at_⟩, some r, c2)
          | (at_, none, c2) => if o = 114 ∨ o = 109 then (⟨z, (c2.get at_ z).1, -1, at_⟩, (c2.get at_ z).2, c2) else (⟨z, 0, -1, at_⟩, none, c2)) := by show _ = _; rw [HE.out, Mc.evk, if_neg h0]
      have h00 : sk ≠ 0 := fun e => h0 (.inl e)
      have h12 : sk ≠ 12 := fun e => h0 (.inr e)
      by_cases h5 : sk = 5
      · have HE2 : Hid (E = (⟨z, c'.gr sr % Bt.W z, sr, 0⟩, none, c')) := by show _ = _; rw [HE1.out, if_pos h5]
        subst h5
        clear h0 h00 h12
        have hmk := fun W => Bt.mask_any z hz W
        have hU := gr_U HV.out.ch.eok sr
        have HAn : bits .and .u32 (c'.gr sr) (Bt.W z - 1) = c'.gr sr % Bt.W z := Bt.and_mask hz hU
        go_upto_region 14 with fail
        have HV1 := Lib.hid (HV.out.vr sr)
        simp only at HV1
        generalize V.setCell ⟨g + 1, 2, none⟩ (.int .i64 sr) = V1 at *
        clear o0 o1 of s0 s1 s2 s3 s4 sf v0 v1 v2 v3 vf
        obtain ⟨o0, o1, of⟩ := cells2 HV1.out.bo
        obtain ⟨s0, s1, s2, s3, s4, sf⟩ := cells5 HV1.out.bs
        obtain ⟨v0, v1, v2, v3, vf⟩ := cells4 HV1.out.bv
        have d2 := HV1.out.ch.c2
        have hgl := HV1.out.ch.glt
        have hne3 : a.g ≠ g + 1 := by
          obtain ⟨c0, q⟩ := HV1.out.c0
          have := q.glt
          omega
        simp only at s0 s1 s2 s3 s4 v0 v1 v2 v3
        generalize hB : w.heap.size = B at o0 o1 hne1 hgt ⊢
        have t1 : (V1.setCell ⟨g + 1, 1, none⟩ (.int .u32 (c'.gr sr % Bt.W z))).drew.cell? ⟨B, 1, none⟩ = some (.int .i64 z) := far_drew hne1 o1
        have t2 : (V1.setCell ⟨g + 1, 1, none⟩ (.int .u32 (c'.gr sr % Bt.W z))).drew.cell? ⟨g, 1, none⟩ = some (.int .i64 sr) := far_drew hne2 s1
        have t3 : (V1.setCell ⟨g + 1, 1, none⟩ (.int .u32 (c'.gr sr % Bt.W z))).drew.cell? ⟨a.g, 2, none⟩ = some (.pointer (some ⟨a.fg, 0, none⟩)) := far_drew hne3 d2
        go_region_held3 (fun w' => w'.cell? ⟨a.g, 2, none⟩ = some (.pointer (some ⟨a.fg, 0, none⟩)) ∧ w'.cell? ⟨g, 1, none⟩ = some (.int .i64 sr) ∧ w'.cell? ⟨B, 1, none⟩ = some (.int .i64 z))
          (first | exact ⟨t3, t2, t1⟩ | go_keep)
          (first
            | (go_at_call 91; refine (hmk _).mono ?_; rintro e w3 ⟨rfl, rfl⟩)
            | (go_at_call 55; refine (fget _ (HV1.out.ch.below (by go_grown)) _).mono ?_; rintro e w3 ⟨rfl, rfl⟩))
        clear t1 t2 t3 o0 o1 of s0 s1 s2 s3 s4 sf v0 v1 v2 v3 vf d2
        subst hB
        have HV2 := Lib.hid ((HV1.out.vx (c'.gr sr % Bt.W z)).below ((Below.refl _ _).drew))
        simp only at HV2
        generalize (V1.setCell ⟨g + 1, 1, none⟩ (.int .u32 (c'.gr sr % Bt.W z))).drew = V2 at *
        obtain ⟨v0, v1, v2, v3, vf⟩ := cells4 HV2.out.bv
        obtain ⟨q0, q1, q2, q3, qf⟩ := cells4 HV2.out.br
        simp only at v0 v1 v2 v3
        go_wp2
        obtain ⟨t0, t1, t2, t3, tl⟩ := set4 q0 q1 q2 q3 (.int .i64 z) (.int .u32 (c'.gr sr % Bt.W z)) (.int .i64 sr) (.int .u32 0)
        obtain ⟨k1, k2, k3⟩ := own_ret (v0 := .int .i64 z) (v1 := .int .u32 (c'.gr sr % Bt.W z)) (v2 := .int .i64 sr) (v3 := .int .u32 0) HV2.out.ch HV2.out.mv H.out HV2.out.pr (by omega) (u := none) (uv := (.pointer none)) rfl ⟨_, _, HV2.out.br⟩
        generalize (((V2.setCell ⟨w.heap.size + 1, 0, none⟩ (.int .i64 z)).setCell ⟨w.heap.size + 1, 1, none⟩ (.int .u32 (c'.gr sr % Bt.W z))).setCell ⟨w.heap.size + 1, 2, none⟩ (.int .i64 sr)).setCell ⟨w.heap.size + 1, 3, none⟩ (.int .u32 0) = V3 at *
        refine bodyPost_ret (v := .tuple #[Od.val ⟨z, (c'.gr sr % Bt.W z), sr, 0⟩, (.pointer none)]) (by simp [results, Tryz.results62, go_sem, t0, t1, t2, t3]) rfl ?_
        rw [HE2.out]
        exact ⟨_, rfl, k1, k2, k3⟩
      · have HE3 : Hid (E = match c'.adr ⟨sk, sr, si, sx, sn⟩ z with
          | (at_, some r, c2) => (⟨z, 0, -1, at_⟩, some r, c2)
          | (at_, none, c2) => if o = 114 ∨ o = 109 then (⟨z, (c2.get at_ z).1, -1, at_⟩, (c2.get at_ z).2, c2) else (⟨z, 0, -1, at_⟩, none, c2)) := by show _ = _; rw [HE1.out, if_neg h5]
        rcases hA : c'.adr ⟨sk, sr, si, sx, sn⟩ z with ⟨at_, q, c2⟩
        have HA : Hid (∀ W, Ch w0 a S0 c' W → Calls Tryz.prog 92 #[.pointer (some ⟨a.g, 0, none⟩), .agg #[.int .i64 sk, .int .i64 sr, .int .i64 si, .int .u32 sx, .int .i64 sn], .int .i64 z] W fun e w' => ∃ v, e = .returned (.tuple #[.int .u32 at_, v]) ∧ Rp W w' q v ∧ Ch w0 a S0 c2 w' ∧ Mv a W w') := Lib.hid fun W hW => by
          have := address_any W hW sk sr si sx sn z hsx hz
          rw [hA] at this
          exact this
        have HU : Hid (U at_) := Lib.hid (by have := adr_U ⟨sk, sr, si, sx, sn⟩ z HV.out.ch hsx; rw [hA] at this; exact this)
        rw [hA] at HE3
        clear hA HE1 HE h0
        go_wp2_with fail
        refine (HA.out _ HV.out.ch).mono ?_
        rintro e w5 ⟨v', rfl, r5, h5', m5⟩
        have HV5 := Lib.hid (HV.out.next h5' m5)
        have HR5 := Lib.hid (r5.from HV.out.mv.size)
        clear r5 h5' m5 o0 o1 of s0 s1 s2 s3 s4 sf v0 v1 v2 v3 vf HA
        obtain ⟨o0, o1, of⟩ := cells2 HV5.out.bo
        obtain ⟨v0, v1, v2, v3, vf⟩ := cells4 HV5.out.bv
        simp only at v0 v1 v2 v3
        cases q with
        | some r =>
          obtain ⟨b, rfl, hb, hr⟩ := HR5.out
          have HE2 : Hid (E = (⟨z, 0, -1, at_⟩, some r, c2)) := HE3.out
          go_upto_region 15 with fail
          have HV2 := Lib.hid (HV5.out.va at_)
          have hr2 : Rb (w5.setCell ⟨g + 1, 3, none⟩ (.int .u32 at_)) b r := hr.own (one_set _ _ _ _) (t := 122) ⟨_, _, HV5.out.bv⟩ (by decide) (by decide)
          simp only at HV2
          generalize w5.setCell ⟨g + 1, 3, none⟩ (.int .u32 at_) = V2 at *
          clear o0 o1 of v0 v1 v2 v3 vf
          obtain ⟨v0, v1, v2, v3, vf⟩ := cells4 HV2.out.bv
          obtain ⟨q0, q1, q2, q3, qf⟩ := cells4 HV2.out.br
          simp only at v0 v1 v2 v3
          go_wp2
          obtain ⟨t0, t1, t2, t3, tl⟩ := set4 q0 q1 q2 q3 (.int .i64 z) (.int .u32 0) (.int .i64 (-1)) (.int .u32 at_)
          obtain ⟨k1, k2, k3⟩ := own_ret (v0 := .int .i64 z) (v1 := .int .u32 0) (v2 := .int .i64 (-1)) (v3 := .int .u32 at_) HV2.out.ch HV2.out.mv H.out HV2.out.pr (by omega) (u := some r) (uv := (.pointer (some ⟨b, 0, none⟩))) ⟨b, rfl, hb, hr2⟩ ⟨_, _, HV2.out.br⟩
          generalize (((V2.setCell ⟨w.heap.size + 1, 0, none⟩ (.int .i64 z)).setCell ⟨w.heap.size + 1, 1, none⟩ (.int .u32 0)).setCell ⟨w.heap.size + 1, 2, none⟩ (.int .i64 (-1))).setCell ⟨w.heap.size + 1, 3, none⟩ (.int .u32 at_) = V3 at *
          refine bodyPost_ret (v := .tuple #[Od.val ⟨z, 0, (-1), at_⟩, (.pointer (some ⟨b, 0, none⟩))]) (by simp [results, Tryz.results62, go_sem, t0, t1, t2, t3]) rfl ?_
          rw [HE2.out]
          exact ⟨_, rfl, k1, k2, k3⟩
        | none =>
          have hv : v' = .pointer none := HR5.out
          subst hv
          by_cases ho2 : o = 114 ∨ o = 109
          · have HE2 : Hid (E = (⟨z, (c2.get at_ z).1, -1, at_⟩, (c2.get at_ z).2, c2)) := by
              have := HE3.out
              simp only [if_pos ho2] at this
              exact this
            clear HE3
            have HG : Hid (∀ W, Ch w0 a S0 c2 W → Calls Tryz.prog 79 #[.pointer (some ⟨a.g, 0, none⟩), .int .u32 at_, .int .i64 z] W fun e w' => ∃ v, e = .returned (.tuple #[.int .u32 (c2.get at_ z).1, v]) ∧ Rp W w' (c2.get at_ z).2 v ∧ Ch w0 a S0 c2 w' ∧ Mv a W w') := Lib.hid fun W hW => get_any W hW at_ z HU.out
            generalize (c2.get at_ z).1 = y at *
            generalize (c2.get at_ z).2 = q at *
            have HV6 := Lib.hid (HV5.out.va at_)
            simp only at HV6
            rcases ho2 with rfl | rfl
            all_goals
              go_upto_region 8 with fail
              generalize w5.setCell ⟨g + 1, 3, none⟩ (.int .u32 at_) = V6 at *
              clear o0 o1 of v0 v1 v2 v3 vf
              obtain ⟨o0, o1, of⟩ := cells2 HV6.out.bo
              obtain ⟨v0, v1, v2, v3, vf⟩ := cells4 HV6.out.bv
              simp only at v0 v1 v2 v3
              go_wp2_with fail
              refine (HG.out _ HV6.out.ch).mono ?_
              rintro e w7 ⟨v7, rfl, r7, h7, m7⟩
              have HV7 := Lib.hid (HV6.out.next h7 m7)
              have HR7 := Lib.hid (r7.from HV6.out.mv.size)
              clear r7 h7 m7 o0 o1 of v0 v1 v2 v3 vf HG
              obtain ⟨v0, v1, v2, v3, vf⟩ := cells4 HV7.out.bv
              simp only at v0 v1 v2 v3
              go_upto_region 15 with fail
              have HV2 := Lib.hid (HV7.out.vx y)
              have hr2 : Rp w (w7.setCell ⟨g + 1, 1, none⟩ (.int .u32 y)) q v7 := by
                have := HR7.out
                cases q with
                | none => exact this
                | some r => obtain ⟨b, e, hb, hr⟩ := this; exact ⟨b, e, hb, hr.own (one_set _ _ _ _) (t := 122) ⟨_, _, HV7.out.bv⟩ (by decide) (by decide)⟩
              simp only at HV2
              generalize w7.setCell ⟨g + 1, 1, none⟩ (.int .u32 y) = V2 at *
              clear v0 v1 v2 v3 vf
              obtain ⟨v0, v1, v2, v3, vf⟩ := cells4 HV2.out.bv
              obtain ⟨q0, q1, q2, q3, qf⟩ := cells4 HV2.out.br
              simp only at v0 v1 v2 v3
              go_wp2
              obtain ⟨t0, t1, t2, t3, tl⟩ := set4 q0 q1 q2 q3 (.int .i64 z) (.int .u32 y) (.int .i64 (-1)) (.int .u32 at_)
              obtain ⟨k1, k2, k3⟩ := own_ret (v0 := .int .i64 z) (v1 := .int .u32 y) (v2 := .int .i64 (-1)) (v3 := .int .u32 at_) HV2.out.ch HV2.out.mv H.out HV2.out.pr (by omega) (u := q) (uv := v7) hr2 ⟨_, _, HV2.out.br⟩
              generalize (((V2.setCell ⟨w.heap.size + 1, 0, none⟩ (.int .i64 z)).setCell ⟨w.heap.size + 1, 1, none⟩ (.int .u32 y)).setCell ⟨w.heap.size + 1, 2, none⟩ (.int .i64 (-1))).setCell ⟨w.heap.size + 1, 3, none⟩ (.int .u32 at_) = V3 at *
              refine bodyPost_ret (v := .tuple #[Od.val ⟨z, y, (-1), at_⟩, v7]) (by simp [results, Tryz.results62, go_sem, t0, t1, t2, t3]) rfl ?_
              rw [HE2.out]
              exact ⟨_, rfl, k1, k2, k3⟩
          · have HE2 : Hid (E = (⟨z, 0, -1, at_⟩, none, c2)) := by
              have := HE3.out
              simp only [if_neg ho2] at this
              exact this
            have ho3 : o ≠ 114 := fun e => ho2 (.inl e)
            have ho4 : o ≠ 109 := fun e => ho2 (.inr e)
            have ho5 : (o == 114) = false := by simpa using ho3
            have ho6 : (o == 109) = false := by simpa using ho4
            go_upto_region 15 with fail
            have HV2 := Lib.hid (HV5.out.va at_)
            simp only at HV2
            generalize w5.setCell ⟨g + 1, 3, none⟩ (.int .u32 at_) = V2 at *
            clear o0 o1 of v0 v1 v2 v3 vf
            obtain ⟨v0, v1, v2, v3, vf⟩ := cells4 HV2.out.bv
            obtain ⟨q0, q1, q2, q3, qf⟩ := cells4 HV2.out.br
            simp only at v0 v1 v2 v3
            go_wp2
            obtain ⟨t0, t1, t2, t3, tl⟩ := set4 q0 q1 q2 q3 (.int .i64 z) (.int .u32 0) (.int .i64 (-1)) (.int .u32 at_)
            obtain ⟨k1, k2, k3⟩ := own_ret (v0 := .int .i64 z) (v1 := .int .u32 0) (v2 := .int .i64 (-1)) (v3 := .int .u32 at_) HV2.out.ch HV2.out.mv H.out HV2.out.pr (by omega) (u := none) (uv := (.pointer none)) rfl ⟨_, _, HV2.out.br⟩
            generalize (((V2.setCell ⟨w.heap.size + 1, 0, none⟩ (.int .i64 z)).setCell ⟨w.heap.size + 1, 1, none⟩ (.int .u32 0)).setCell ⟨w.heap.size + 1, 2, none⟩ (.int .i64 (-1))).setCell ⟨w.heap.size + 1, 3, none⟩ (.int .u32 at_) = V3 at *
            refine bodyPost_ret (v := .tuple #[Od.val ⟨z, 0, (-1), at_⟩, (.pointer none)]) (by simp [results, Tryz.results62, go_sem, t0, t1, t2, t3]) rfl ?_
            rw [HE2.out]
            exact ⟨_, rfl, k1, k2, k3⟩
end

end Go.Proofs.YteohkobdmkbcpaaGreatDoor.Cs
