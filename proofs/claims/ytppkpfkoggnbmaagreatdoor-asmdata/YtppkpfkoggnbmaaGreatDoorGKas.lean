import Derived.Test.YtppkpfkoggnbmaaGreatDoorKAdd
import Derived.Test.YtppkpfkoggnbmaaGreatDoorGKtx
import Derived.Test.YtppkpfkoggnbmaaGreatDoorGIs2
import Derived.Test.YtppkpfkoggnbmaaGreatDoorGKte
import Derived.Test.YtppkpfkoggnbmaaGreatDoorGKme
import Derived.Laws.CopyRow

/- Contracts of package asm: an instruction with its operands. -/
namespace Go.Proofs.YtppkpfkoggnbmaaGreatDoor.Cs.Ka
open Go.RowKit Es Go.Maps Go.MapKept
open Ia (sb cst sb_size sb_get sb_append cst_get)
set_option linter.unusedVariables false
set_option linter.unusedSimpArgs false

theorem step_far {S S' : Nat → Prop} {w w' : World} {b : Nat} (h : Step S S' w w') (hb : ¬ S b) (hl : b < w.heap.size) : ¬ S' b := fun x => by
  rcases h.grow b x with y | y
  · exact hb y
  · omega
/-- a program, its operands' texts, an instruction's operands -/
structure Pi (W0 : World) (g m : Nat) (vc0 vg0 : Value) (b : Nat) (ts : List Tx) (u : Value) (ops : List (Int × Int)) (s : St) (vc vg : Value) (D : DataW Unit) (W : World) : Prop where
  pg : Pg W g m s vc vg D
  st : Step (Ft g m vc0 vg0) (Ft g m vc vg) W0 W
  row : ts ≠ [] → Es.Bk W b 9 (cst ts) ∧ ¬ Ft g m vc vg b
  ops : Ia.Ro W u ops
  fu : ∀ k, Bl u k → ¬ Ft g m vc vg k
section
variable {W0 W W' : World} {g m b : Nat} {vc0 vg0 vc vg vc' vg' u : Value} {ts : List Tx} {ops : List (Int × Int)} {s s' : St} {D D' : DataW Unit}
theorem Pi.below (h : Pi W0 g m vc0 vg0 b ts u ops s vc vg D W) (hb : Below W.heap.size W W') : Pi W0 g m vc0 vg0 b ts u ops s vc vg D W' :=
  ⟨h.pg.below hb, h.st.trans (Step.of_below hb), fun x => ⟨(h.row x).1.below hb (Nat.le_refl _), (h.row x).2⟩, own_below h.ops hb, h.fu⟩
theorem Pi.step (h : Pi W0 g m vc0 vg0 b ts u ops s vc vg D W) (hp : Pg W' g m s' vc' vg' D') (hs : Step (Ft g m vc vg) (Ft g m vc' vg') W W') : Pi W0 g m vc0 vg0 b ts u ops s' vc' vg' D' W' :=
  ⟨hp, h.st.trans hs, fun x => ⟨(h.row x).1.mods hs.mods (h.row x).2, step_far hs (h.row x).2 (h.row x).1.lt⟩, own_mods h.ops hs.mods (fun k hk hu => h.fu k hu hk), fun k hk => step_far hs (h.fu k hk) (own_lo h.ops k hk)⟩
end
theorem gl_mods {S : Nat → Prop} {W W' : World} (h : Ia.Gl W) (k : Mods S W W') (hS : ∀ i, S i → 13 ≤ i) : Ia.Gl W' := by
  have hc : ∀ (b o : Nat) (v : Value), b < 13 → W.cell? ⟨b, o, none⟩ = some v → W'.cell? ⟨b, o, none⟩ = some v := fun b o v hb hv => by
    rw [← hv]
    exact cell_keep (k.block b (World.block_lt_of_cell? _ _ hv) (fun x => by have := hS b x; omega))
  obtain ⟨n, hm⟩ := h.ml
  exact ⟨fun i hi => hc _ _ _ (by decide) (h.ea i hi), fun i hi => hc _ _ _ (by decide) (h.la i hi), fun i j hi hj => hc _ _ _ (by decide) (h.od i j hi hj), fun i hi => hc _ _ _ (by decide) (h.fa i hi), n, hc _ _ _ (by decide) hm⟩

/-- an operand's variable behind a world's own blocks -/
structure Rr (w : World) (p : Nat) (a z : Int) (h : Nat) (o : Op) (W : World) : Prop where
  opr : Es.Bk W p 45 [.int .u8 a, .int .i64 z]
  var : Es.Bk W h 60 o.cells
  bel : Below w.heap.size w W
  lt : p < h
theorem Rr.new {w W : World} {p : Nat} {a z : Int} (ho : Es.Bk W p 45 [.int .u8 a, .int .i64 z]) (b : Below w.heap.size w W) (k r i x n : Int) (l : Tx) :
    Rr w p a z W.heap.size ⟨⟨k, r, i, x, n⟩, l⟩ (W.alloc (.cells #[.int .i64 k, .int .i64 r, .int .i64 i, .int .u32 x, .int .i64 n, .string (sb l)] 60)) :=
  ⟨ho.below (Es.al1 _ _) (Nat.le_refl _), Es.Bk.new W _ [.int .i64 k, .int .i64 r, .int .i64 i, .int .u32 x, .int .i64 n, .string (sb l)], bel2 b (Es.al1 _ _), ho.lt⟩
theorem Rr.put {w W : World} {p h : Nat} {a z : Int} (ho : Es.Bk W p 45 [.int .u8 a, .int .i64 z]) (b : Below w.heap.size w W) {b0 b1 b2 b3 b4 b5 : Value} (hb : Es.Bk W h 60 [b0, b1, b2, b3, b4, b5]) (hg : p < h) (hw : w.heap.size ≤ h) (k r i x n : Int) (l : Tx) :
    Rr w p a z h ⟨⟨k, r, i, x, n⟩, l⟩ ((((((W.setCell ⟨h, 0, none⟩ (.int .i64 k)).setCell ⟨h, 1, none⟩ (.int .i64 r)).setCell ⟨h, 2, none⟩ (.int .i64 i)).setCell ⟨h, 3, none⟩ (.int .u32 x)).setCell ⟨h, 4, none⟩ (.int .i64 n)).setCell ⟨h, 5, none⟩ (.string (sb l))) :=
  ⟨(((((ho.far (by omega) 0 _).far (by omega) 1 _).far (by omega) 2 _).far (by omega) 3 _).far (by omega) 4 _).far (by omega) 5 _, (((((hb.set 0 _).set 1 _).set 2 _).set 3 _).set 4 _).set 5 _, by
    iterate 6 refine Below.setCell ?_ (by simp; omega) _
    exact b, hg⟩
theorem far6 {W : World} {p : Addr} {q : Nat} {v a0 a1 a2 a3 a4 a5 : Value} (hne : p.block ≠ q) (h : W.cell? p = some v) :
    ((((((W.setCell ⟨q, 0, none⟩ a0).setCell ⟨q, 1, none⟩ a1).setCell ⟨q, 2, none⟩ a2).setCell ⟨q, 3, none⟩ a3).setCell ⟨q, 4, none⟩ a4).setCell ⟨q, 5, none⟩ a5).cell? p = some v := by
  simp only [World.cell?, World.setCell] at h ⊢
  simp only [Array.getElem?_modify]
  simp only [if_neg (show ¬ q = p.block from fun e => hne e.symm)]
  exact h
theorem plainF_x (l : Tx) : 0 ≤ (plainF l).1.s.x ∧ (plainF l).1.s.x < 4294967296 := by
  unfold plainF
  split
  · exact vald_x 13 _
  · split
    · unfold imm; exact vald_x 12 _
    · split
      · simp
      · unfold addr adc
        split
        · unfold adr
          (repeat' split) <;> simp <;> exact numb_rg _
        · simp [zs]
theorem readF_x (l : Tx) (a : Int) : 0 ≤ (readF l a).1.s.x ∧ (readF l a).1.s.x < 4294967296 := by
  unfold readF
  split
  · exact vald_x 12 _
  · split
    · split
      · exact plainF_x _
      · simp [zo, zs]
    · exact plainF_x _
theorem enc_byt {s : Sp} {a z : Int} {b : List Int} (h : enc s a z = some b) : Byt b := by
  unfold enc at h
  split at h
  · next hg =>
    obtain ⟨w, hw, _, rfl⟩ := enw_some h
    have hz := gd_sz hg.1
    have hw4 := ws_le (k := s.k) (z := z.toNat) (by rcases hz with rfl | rfl | rfl <;> simp) w hw
    have hk : (td s).k = 0 ∨ (5 ≤ (td s).k ∧ (td s).k ≤ 13) := by
      obtain ⟨j, hj, _⟩ := List.mem_iff_getElem.1 hw
      exact ws_kinds hj
    unfold wr
    refine Byt.app ?_ (Byt.app ?_ (low_byt _ _))
    · split
      · exact Byt.nil
      · exact Byt.cons (fs_byte (by omega) (by omega)) Byt.nil
    · split
      · exact Byt.nil
      · exact Byt.cons (bg_byte hw4 hk) Byt.nil
  · simp at h
theorem enc_len {t : Sp} {a z : Int} {b : List Int} (h : enc t a z = some b) : b.length ≤ 6 := by
  unfold enc at h
  split at h
  · next hc =>
    obtain ⟨w, hw, _, rfl⟩ := enw_some h
    have hz := gd_sz hc.1
    have h4 : w ≤ 4 := ws_le (z := z.toNat) (by rcases hz with h | h | h <;> omega) w hw
    rw [wr_len]
    split <;> split <;> omega
  · cases h
theorem enc_bd {t : Sp} {a z : Int} {b : List Int} (h : enc t a z = some b) : b.length ≤ 1000 ∧ Byt b := ⟨by have := enc_len h; omega, enc_byt h⟩
theorem addF_bd {s s2 : St} {o : Op} {a z line : Int} (h : addF s o a z line = some s2) : s2.code.length ≤ s.code.length + 10 ∧ s2.gp.length ≤ s.gp.length + 1 := by
  unfold addF at h
  cases he : enc o.s a z with
  | none => rw [he] at h; cases h
  | some b =>
    rw [he] at h
    simp only [Option.some.injEq] at h
    subst h
    have := enc_len he
    simp only [List.length_append]
    refine ⟨by omega, ?_⟩
    split <;> simp
theorem opsF_cons (line : Int) (s : St) (q : Int × Int) (qs : List (Int × Int)) (t : Tx) (ts : List Tx) : opsF line s (q :: qs) (t :: ts) = match oneF s t q.1 q.2 line with
    | none => none
    | some s' => opsF line s' qs ts := rfl
theorem fnq_in (n : Tx) : (∀ q ∈ (fnq n).1.ops, 0 ≤ q.1 ∧ q.1 < 256 ∧ 0 ≤ q.2 ∧ q.2 ≤ 4) ∧ (fnq n).1.ops.length ≤ 6 := by
  unfold fnq
  rcases Classical.em (∃ k : Nat, k < 256 ∧ Ia.nm (k : Int) = n ∧ n ≠ []) with ⟨k, hk, h, h0⟩ | h
  · subst h
    rw [Ia.name_at k hk h0]
    obtain ⟨h1, h2, _⟩ := prg_in (y := (k : Int)) (by omega)
    exact ⟨h1, h2⟩
  · rw [Ia.name_not n ?_]
    · exact ⟨fun q hq => by simp [Ia.zq] at hq, by simp [Ia.zq]⟩
    · rcases Classical.em (n = []) with h0 | h0
      · exact .inl h0
      · exact .inr fun k hk e => h ⟨k, hk, e, h0⟩

set_option maxHeartbeats 6400000 in
set_option maxRecDepth 100000 in
theorem instruction_any (W : World) (g m : Nat) (s : St) (vc vg : Value) (D : DataW Unit) (n : Tx) (A : Option Addr) (b c : Nat) (ts : List Tx) (line : Int) (hP : Pg W g m s vc vg D) (hA : ts ≠ [] → A = some ⟨b, 0, none⟩ ∧ Es.Bk W b 9 (cst ts) ∧ ¬ Ft g m vc vg b)
    (ht : ∀ t ∈ ts, Okt t) (hc : s.code.length ≤ 900000) (hgp : s.gp.length ≤ 900000) (hg : Gt W) (hgl : Ia.Gl W) :
    Calls Tryz.prog 46 #[.pointer (some ⟨g, 0, none⟩), .string (sb n), .slice A ts.length c, .int .i64 line] W (PgO W g m vc vg (insF s n ts line)) := by
  have HF := Lib.hid (fun V h => Ia.find_any n V h)
  have HE : Hid (insF s n ts line = if (fnq n).2 = true ∧ ts.length = (fnq n).1.ops.length then opsF line ⟨s.code ++ [(fnq n).1.code % 256], s.pl, s.gp⟩ (fnq n).1.ops ts else none) := rfl
  obtain ⟨hq1, hq2⟩ := fnq_in n
  have e : Ia.fnd (Ia.docs.find? fun x => x.name == n) = fnq n := rfl
  rw [e] at HF
  clear e
  generalize insF s n ts line = res at *
  generalize fnq n = q at *
  obtain ⟨⟨code, name, cls, al, ops⟩, is⟩ := q
  simp only at HE hq1 hq2
  have HG := Lib.hid hg
  have HGL := Lib.hid hgl
  have HL := Lib.hid hP.lo
  have HP := Lib.hid hP
  have HA := Lib.hid hA
  have HT := Lib.hid ht
  have HQ := Lib.hid hq1
  clear hg hgl hP hA ht hq1
  by_cases hok : is = true ∧ ts.length = ops.length
  · obtain ⟨rfl, hlen⟩ := hok
    rw [if_pos ⟨rfl, hlen⟩] at HE
    have b1 : ((ts.length : Int) != ops.length) = false := by simp; omega
    have HLen := Lib.hid hlen
    clear hlen
    go_enter Tryz.func46, Tryz.ntmps46
    go_upto_region 4 with (first | (go_at_call 78; refine (HF.out _ HGL.out).mono ?_; rintro e w1 ⟨u, rfl, hu, hb⟩; obtain ⟨A', c', rfl⟩ := Ia.ro_slice hu.1; have HB := Lib.hid hb; have HU := Lib.hid hu; clear hu hb) | fail)
    have hv := Es.Bk.new w1 41 [.int .i64 code, .string (sb name), .int .i64 cls, .int .i64 al, .slice A' ops.length c']
    have hbe := bel2 HB.out (Es.al1 w1 (.cells #[.int .i64 code, .string (sb name), .int .i64 cls, .int .i64 al, .slice A' ops.length c'] 41))
    have hp0 : Pi W g m vc vg b ts (.slice A' ops.length c') ops s vc vg D (w1.alloc (.cells #[.int .i64 code, .string (sb name), .int .i64 cls, .int .i64 al, .slice A' ops.length c'] 41)) :=
      ⟨HP.out.below hbe, Step.of_below hbe, fun x => ⟨(HA.out x).2.1.below hbe (Nat.le_refl _), (HA.out x).2.2⟩, own_below HU.out.1 (Es.al1 _ _), fun k hk hf => by have := HU.out.2 k hk; have := ft_lo HP.out k hf; omega⟩
    have hwl := HB.out.size
    have hvn : ¬ Ft g m vc vg w1.heap.size := fun x => by have := ft_lo HP.out _ x; omega
    clear HB HU hbe
    generalize w1.alloc (.cells #[.int .i64 code, .string (sb name), .int .i64 cls, .int .i64 al, .slice A' ops.length c'] 41) = W1 at *
    obtain ⟨v0, v1, v2, v3, v4, vf, vl⟩ := hv.five
    obtain ⟨y0, y1, y2, yf, yl⟩ := hp0.pg.cells
    obtain ⟨A0, c0, hsh⟩ := hp0.pg.code.shape
    obtain ⟨A2, c2, w2, hrun, hres⟩ := app1d hp0.pg (code % 256) (by omega) (by omega)
    rw [← u8w code] at hrun
    obtain ⟨hq1, hq2'⟩ := hp0.pg.put0 hres.out.1 hres.out.2 (hp0.pg.byt.app (Byt.cons (by omega) Byt.nil))
    have hp1 := hp0.step hq1 hq2'
    have hv1 := hv.mods hq2'.mods hvn
    have hb2 := hp0.pg.box.mods hres.out.2.mods hp0.pg.cg
    have z0 := hb2.cell 0 _ rfl
    have zf := hb2.free
    have zl := hb2.lt
    have HRun := Lib.hid hrun
    have HP1 := Lib.hid hp1
    have HV1 := Lib.hid hv1
    subst hsh
    clear hrun hres hb2 hq1 hq2' hp0 hp1 hv hv1
    go_cut [30] from 30 to 41 (fun q V => V = w2.setCell ⟨g, 0, none⟩ (.slice A2 (s.code.length + 1) c2))
    case first =>
      go_region_law (refine step_append_run rfl (.tmp 34) (.tmp 38) _ _ rfl _ _ rfl rfl HRun.out ?_)
      all_goals go_wp2_with fail
      all_goals go_meet
      all_goals exact rfl
    case rest =>
      subst hcut
      clear v0 v1 v2 v3 v4 vf vl y0 y1 y2 yf yl z0 zf zl HRun
      generalize w2.setCell ⟨g, 0, none⟩ (.slice A2 (s.code.length + 1) c2) = W2 at *
      obtain ⟨v0, v1, v2, v3, v4, vf, vl⟩ := HV1.out.five
      go_wp2_with fail
      go_loopw [45] (fun i wr => ∃ (k : Nat) (s' : St) (vc' vg' : Value) (D' : DataW Unit), k ≤ ops.length ∧ i = .int .i64 k ∧ Pi W g m (.slice A0 s.code.length c0) vg b ts (.slice A' ops.length c') ops s' vc' vg' D' wr ∧ opsF line s' (ops.drop k) (ts.drop k) = res ∧ s'.code.length ≤ s.code.length + 1 + 10 * k ∧ s'.gp.length ≤ s.gp.length + k) (fun i _ => ops.length - (intOf i).toNat)
      case atStart => exact ⟨0, _, _, _, _, Nat.zero_le _, rfl, HP1.out, HE.out.symm, by simp, by simp⟩
      case round =>
        clear HP1 HE v0 v1 v2 v3 v4 vf vl HV1
        obtain ⟨k, s', vc', vg', D', hk, rfl, hP, hR, hcl, hgl'⟩ := hrel
        have HPi := Lib.hid hP
        by_cases hlt : k < ops.length
        · have hlt2 : k < ts.length := by rw [HLen.out]; exact hlt
          rw [Ia.drop_cons ops k hlt, show ts.drop k = ts.getD k [] :: ts.drop (k + 1) by rw [List.drop_eq_getElem_cons hlt2]; simp [List.getD, hlt2], opsF_cons] at hR
          have htn : ts ≠ [] := fun h => by rw [h] at hlt2; simp at hlt2
          obtain ⟨r, c'', hre, hrl⟩ := Ia.ro_some hP.ops (by omega)
          simp only [Value.slice.injEq, true_and] at hre
          obtain ⟨hre, hrc⟩ := hre
          subst hre
          subst hrc
          obtain ⟨k0, k1⟩ := Ia.ro_at hP.ops k hlt
          have hsc := (hP.row htn).1.cell k _ (cst_get ts k hlt2)
          have hbl := (hP.row htn).1.lt
          have hAe := (HA.out htn).1
          subst hAe
          have hok := HT.out (ts.getD k []) (by simp [List.getD, hlt2])
          obtain ⟨hq0, hq1, hz0, hz1⟩ := HQ.out _ (Ia.opn_mem ops k hlt)
          generalize Ia.opn ops k = q at *
          obtain ⟨a, z⟩ := q
          simp only at k0 k1 hR hq0 hq1 hz0 hz1
          have HG2 := Lib.hid (gt_mods HG.out hP.st.mods (fun i hi => HL.out i hi))
          go_upto_region 8 with fail
          have hO := Es.Bk.new wr 45 [.int .u8 a, .int .i64 z]
          have hbw := Es.al1 wr (.cells #[.int .u8 a, .int .i64 z] 45)
          have HPi2 := Lib.hid (hP.below hbw)
          have HG3 := Lib.hid (HG2.out.below hbw)
          have hsc3 := ((hP.row htn).1.below hbw (Nat.le_refl _)).cell k _ (cst_get ts k hlt2)
          clear k0 k1 hsc hP HPi HG2 hbw
          generalize wr.alloc (.cells #[.int .u8 a, .int .i64 z] 45) = W3 at *
          have H2 := Lib.hid (fun V h => trim_any (ts.getD k []) V (by have := hok.l; omega) hok.a h)
          have H3 := Lib.hid (fun V h => read_any (trm (ts.getD k [])) a V (by have := hok.trm.l; omega) ⟨hq0, hq1⟩ h)
          have hRx := readF_x (trm (ts.getD k [])) a
          unfold oneF at hR
          have HCell := Lib.hid (cst_get ts k hlt2)
          have HTn := Lib.hid htn
          clear hok htn
          generalize trm (ts.getD k []) = t' at *
          generalize ts.getD k [] = t at *
          generalize readF t' a = q at *
          obtain ⟨⟨⟨d1, d2, d3, d4, d5⟩, l⟩, is2⟩ := q
          simp only at hR hRx
          simp only [Op.val] at H3
          have HR := Lib.hid hR
          clear hR
          go_cut [13, 14] from 50 to 60 (fun o e V => ∃ h, o = .pointer (some ⟨h, 0, none⟩) ∧ e = .bool is2 ∧ Rr W3 wr.heap.size a z h ⟨⟨d1, d2, d3, d4, d5⟩, l⟩ V)
          case first =>
            have o0 := hO.cell 0 _ rfl
            have o0d : W3.drew.cell? ⟨wr.heap.size, 0, none⟩ = some (.int .u8 a) := o0
            have hsd : W3.drew.cell? ⟨b, k, none⟩ = some (.string (sb t)) := hsc3
            have hlt1 := hO.lt
            have HOB := Lib.hid hO
            have HRow := Lib.hid (HPi2.out.row HTn.out).1
            have hb3 : b < W3.heap.size := HRow.out.lt
            have HV : Hid (Es.Bk (W3.alloc (.cells #[.int .i64 0, .int .i64 0, .int .i64 0, .int .u32 0, .int .i64 0, .string ⟨#[]⟩] 60)).drew W3.heap.size 60 [.int .i64 0, .int .i64 0, .int .i64 0, .int .u32 0, .int .i64 0, .string ⟨#[]⟩]) := Es.Bk.new W3 _ [.int .i64 0, .int .i64 0, .int .i64 0, .int .u32 0, .int .i64 0, .string ⟨#[]⟩]
            have hn0 : (⟨wr.heap.size, 0, none⟩ : Addr).block ≠ W3.heap.size := by simp; omega
            have hn1 : (⟨b, k, none⟩ : Addr).block ≠ W3.heap.size := by simp; omega
            clear hO
            go_region_held3 (fun w' => w'.cell? ⟨b, k, none⟩ = some (.string (sb t)) ∧ w'.cell? ⟨wr.heap.size, 0, none⟩ = some (.int .u8 a))
              (first | (with_reducible exact ⟨q1, q0⟩) | (with_reducible exact ⟨z1, z0⟩) | (with_reducible exact ⟨far6 hnb1 q1, far6 hnb0 q0⟩) | (with_reducible exact ⟨hsd, o0d⟩) | (with_reducible exact ⟨hsc3, o0⟩) | go_keep)
              (first
                | (go_at_call 42
                   refine (H2.out _ (HG3.out.below (by go_grown))).mono ?_
                   rintro e w4 ⟨rfl, hb4⟩
                   have hbb4 : Below W3.heap.size W3 w4 := bel2 (by go_grown) hb4
                   have z0 := (HOB.out.below hbb4 (Nat.le_refl _)).cell 0 _ rfl
                   have z1 := (HRow.out.below hbb4 (Nat.le_refl _)).cell k _ HCell.out
                   have HB4 := Lib.hid hbb4
                   have HV4 : Hid (Es.Bk (w4.alloc (.cells #[.int .i64 0, .int .i64 0, .int .i64 0, .int .u32 0, .int .i64 0, .string ⟨#[]⟩] 60)) w4.heap.size 60 [.int .i64 0, .int .i64 0, .int .i64 0, .int .u32 0, .int .i64 0, .string ⟨#[]⟩]) := Es.Bk.new w4 _ [.int .i64 0, .int .i64 0, .int .i64 0, .int .u32 0, .int .i64 0, .string ⟨#[]⟩]
                   (first
                     | (have HV3 : Hid (Es.Bk w4 W3.heap.size 60 [.int .i64 0, .int .i64 0, .int .i64 0, .int .u32 0, .int .i64 0, .string ⟨#[]⟩]) := (by with_reducible exact Lib.hid (Es.Bk.below HV.out hb4 (Nat.le_refl _))))
                     | skip)
                   clear hb4 hbb4)
                | (go_at_call 79
                   refine (H3.out _ (HG3.out.below (bel2 HB4.out (by go_grown)))).mono ?_
                   rintro e w5 ⟨rfl, hb5⟩
                   have hbb5 : Below W3.heap.size W3 w5 := bel2 HB4.out (bel2 (by go_grown) hb5)
                   have hO5 := HOB.out.below hbb5 (Nat.le_refl _)
                   have q0 := hO5.cell 0 _ rfl
                   have q1 := (HRow.out.below hbb5 (Nat.le_refl _)).cell k _ HCell.out
                   have hsz4 := HB4.out.size
                   (first
                     | (have hv5 : Es.Bk w5 W3.heap.size 60 [.int .i64 0, .int .i64 0, .int .i64 0, .int .u32 0, .int .i64 0, .string ⟨#[]⟩] := (by with_reducible exact Es.Bk.below HV3.out hb5 (Nat.le_refl _)); have hnb0 := hn0; have hnb1 := hn1; have hlv : wr.heap.size < W3.heap.size := hlt1; obtain ⟨e0, e1, e2, e3, e4, e5, ef, el⟩ := hv5.six)
                     | (have hv5 : Es.Bk w5 w4.heap.size 60 [.int .i64 0, .int .i64 0, .int .i64 0, .int .u32 0, .int .i64 0, .string ⟨#[]⟩] := (by with_reducible exact Es.Bk.below HV4.out hb5 (Nat.le_refl _)); have hnb0 : (⟨wr.heap.size, 0, none⟩ : Addr).block ≠ w4.heap.size := (by simp; omega); have hnb1 : (⟨b, k, none⟩ : Addr).block ≠ w4.heap.size := (by simp; omega); have hlv : wr.heap.size < w4.heap.size := (by omega); obtain ⟨e0, e1, e2, e3, e4, e5, ef, el⟩ := hv5.six)
                     | skip))
                | fail)
            all_goals go_wp2_with fail
            all_goals go_meet
            all_goals first
              | exact ⟨_, rfl, rfl, Rr.put hO5 hbb5 hv5 hlv (by first | exact Nat.le_refl _ | exact hsz4) _ _ _ _ _ _⟩
              | exact ⟨_, rfl, rfl, Rr.new hO5 hbb5 _ _ _ _ _ _⟩
          case rest =>
            obtain ⟨h, rfl, rfl, hQ⟩ := hcut
            have hPw := HPi2.out.below hQ.bel
            obtain ⟨e0, e1, e2, e3, e4, e5, ef, el⟩ := hQ.var.six
            have o0 := hQ.opr.cell 0 _ rfl
            have o1 := hQ.opr.cell 1 _ rfl
            have hlh := hQ.lt
            have hlo := hO.lt
            have HPw := Lib.hid hPw
            simp only at e0 e1 e2 e3 e4 e5
            clear hO hPw hsc3
            cases is2
            · have HRn : Hid (res = none) := by show _ = _; rw [← HR.out]; rfl
              clear HR
              go_wp2_with fail
              go_ret
              rw [HRn.out]
              exact PgO.no HPw.out.st.mods
            · have HAd := Lib.hid (add_any wc g m s' vc' vg' D' ⟨⟨d1, d2, d3, d4, d5⟩, l⟩ a z line HPw.out.pg (by omega) (by omega) hRx ⟨hq0, hq1⟩ (fun bb he => enc_bd he))
              simp only [Op.val] at HAd
              cases hadd : addF s' ⟨⟨d1, d2, d3, d4, d5⟩, l⟩ a z line with
              | none =>
                have HRn : Hid (res = none) := by show _ = _; rw [← HR.out, if_pos rfl, hadd]
                rw [hadd] at HAd
                clear HR hadd
                go_wp2_with (first | (go_at_call 80; refine HAd.out.mono ?_; rintro e w6 ⟨rfl, hm⟩; have HM := Lib.hid hm; clear hm) | fail)
                go_ret
                rw [HRn.out]
                exact PgO.no (Step.mods_trans HPw.out.st HM.out)
              | some s2 =>
                have HR2 : Hid (opsF line s2 (ops.drop (k + 1)) (ts.drop (k + 1)) = res) := by show _ = _; rw [← HR.out, if_pos rfl, hadd]
                have hbd := addF_bd hadd
                rw [hadd] at HAd
                clear HR hadd
                go_wp2_with (first | (go_at_call 80; refine HAd.out.mono ?_; rintro e w6 ⟨rfl, vc2, vg2, D2, hg2, hs2⟩; have HN := Lib.hid (HPw.out.step hg2 hs2); clear hg2 hs2) | fail)
                go_roundw
                case rel => exact ⟨k + 1, s2, vc2, vg2, D2, by omega, by go_num, HN.out, HR2.out, by omega, by omega⟩
                case measure => first | (simp [intOf]; done) | (simp [intOf]; omega)
        · have e1 : ops.drop k = [] := List.drop_eq_nil_of_le (by omega)
          have HRn : Hid (res = some s') := by
            show _ = _
            rw [← hR, e1]
            cases ts.drop k <;> rfl
          clear hR e1 hP
          go_wp2_with fail
          go_ret
          rw [HRn.out]
          exact PgO.yes HPi.out.pg HPi.out.st
  · rw [if_neg hok] at HE
    have hok' : is = false ∨ (is = true ∧ ((ts.length : Int) != ops.length) = true) := by
      cases is
      · exact .inl rfl
      · exact .inr ⟨rfl, by simp; intro h; exact hok ⟨rfl, by omega⟩⟩
    clear hok
    rcases hok' with rfl | ⟨rfl, hne⟩
    all_goals
      go_enter Tryz.func46, Tryz.ntmps46
      go_wp2_with (first | (go_at_call 78; refine (HF.out _ HGL.out).mono ?_; rintro e w1 ⟨u, rfl, hu, hb⟩; obtain ⟨A', c', rfl⟩ := Ia.ro_slice hu.1; have HB := Lib.hid hb; clear hu hb) | fail)
      go_ret
      rw [HE.out]
      exact PgO.no (Mods.of_below (bel2 HB.out (Es.al1 _ _)))

end Go.Proofs.YtppkpfkoggnbmaaGreatDoor.Cs.Ka

/- Contracts of package asm: a line. -/
namespace Go.Proofs.YtppkpfkoggnbmaaGreatDoor.Cs.Ka
open Go.RowKit Es Go.Maps Go.MapKept
open Ia (sb cst sb_size sb_get sb_append cst_get)
set_option linter.unusedVariables false
set_option linter.unusedSimpArgs false

theorem PgO.after {W0 W1 w' : World} {g m : Nat} {vc0 vg0 vc vg : Value} {r : Option St} {e : Ending} (h : PgO W1 g m vc vg r e w') (k : Step (Ft g m vc0 vg0) (Ft g m vc vg) W0 W1) : PgO W0 g m vc0 vg0 r e w' := by
  cases r with
  | none => exact ⟨h.1, Step.mods_trans k h.2⟩
  | some s =>
    obtain ⟨h1, vc', vg', D', h2, h3⟩ := h
    exact ⟨h1, vc', vg', D', h2, k.trans h3⟩
/-- a program, and what it has been since the call began -/
structure Pl (W0 : World) (g m : Nat) (vc0 vg0 : Value) (s : St) (vc vg : Value) (D : DataW Unit) (W : World) : Prop where
  pg : Pg W g m s vc vg D
  st : Step (Ft g m vc0 vg0) (Ft g m vc vg) W0 W
theorem Pl.below {W0 W W' : World} {g m : Nat} {vc0 vg0 vc vg : Value} {s : St} {D : DataW Unit} (h : Pl W0 g m vc0 vg0 s vc vg D W) (b : Below W.heap.size W W') : Pl W0 g m vc0 vg0 s vc vg D W' := ⟨h.pg.below b, h.st.trans (Step.of_below b)⟩
theorem Pl.gt {W0 W : World} {g m : Nat} {vc0 vg0 vc vg : Value} {s s0 : St} {D D0 : DataW Unit} (h : Pl W0 g m vc0 vg0 s vc vg D W) (h0 : Pg W0 g m s0 vc0 vg0 D0) (hg : Gt W0) : Gt W := gt_mods hg h.st.mods h0.lo
theorem Pl.gl {W0 W : World} {g m : Nat} {vc0 vg0 vc vg : Value} {s s0 : St} {D D0 : DataW Unit} (h : Pl W0 g m vc0 vg0 s vc vg D W) (h0 : Pg W0 g m s0 vc0 vg0 D0) (hg : Ia.Gl W0) : Ia.Gl W := gl_mods hg h.st.mods h0.lo

theorem labF_bd {s s2 : St} {l : Tx} (h : labF s l = some s2) : s2.code.length = s.code.length ∧ s2.gp.length = s.gp.length := by
  unfold labF at h
  split at h
  · cases h
  · split at h
    · cases h
    · injection h with h
      subst h
      exact ⟨rfl, rfl⟩
/-- a text that is empty, or isn't -/
theorem emp_t {t : Tx} (h : t = []) : (t == []) = true := by simpa using h
theorem emp_f {t : Tx} (h : t ≠ []) : (t == []) = false := by simpa using h

set_option maxHeartbeats 6400000 in
set_option maxRecDepth 100000 in
theorem take_any (W : World) (g m : Nat) (s : St) (vc vg : Value) (D : DataW Unit) (t : Tx) (line : Int) (hP : Pg W g m s vc vg D) (ht : Okt t) (hc : s.code.length ≤ 800000) (hgp : s.gp.length ≤ 800000) (hpl : s.pl.length ≤ 800000) (hg : Gt W) (hgl : Ia.Gl W) :
    Calls Tryz.prog 21 #[.pointer (some ⟨g, 0, none⟩), .string (sb t), .int .i64 line] W (PgO W g m vc vg (takF s t line)) := by
  have h1 := ht.cut1 59
  have H1 := Lib.hid (fun V h => cut_any 59 t V (by have := ht.l; omega) h)
  have HE : Hid (takF s t line = linF s (trm (cutc 59 t).1) line) := rfl
  generalize takF s t line = res at *
  generalize cutc 59 t = p1 at *
  obtain ⟨t1, t1b, f1⟩ := p1
  simp only at h1 HE
  have H2 := Lib.hid (fun V h => trim_any t1 V (by have := h1.l; omega) h1.a h)
  have h2 := h1.trm
  generalize trm t1 = t2 at *
  have H3 := Lib.hid (fun V h => cut_any 58 t2 V (by have := h2.l; omega) h)
  have h3 := h2.cut1 58
  have h3b := h2.cut2 58
  have HPl : Hid (Pl W g m vc vg s vc vg D W) := ⟨hP, Step.of_below (Below.refl _ _)⟩
  have HP := Lib.hid hP
  have HG := Lib.hid hg
  have HGL := Lib.hid hgl
  unfold linF at HE
  generalize hc2 : cutc 58 t2 = p2 at *
  clear hc2
  obtain ⟨lb, rst, is⟩ := p2
  simp only at h3 h3b HE
  have H4 := Lib.hid (fun V h => trim_any rst V (by have := h3b.l; omega) h3b.a h)
  have HOk2 := Lib.hid h2
  have HOk3 := Lib.hid h3
  have HOk4 := Lib.hid h3b.trm
  clear h1 h2 h3 h3b hP hg hgl ht
  have HQ := HPl
  have HGQ := HG
  cases is
  · rw [if_neg (by simp)] at HE
    have HE : Hid (res = bodF s t2 line) := HE
    by_cases h0 : t2 = []
    · have b0 := emp_t h0
      have HE : Hid (res = some s) := by show _ = _; rw [HE.out]; unfold bodF; rw [if_pos h0]
      clear h0
      go_enter Tryz.func21, Tryz.ntmps21
      go_wp2_with (first
        | ((go_at_call 41; with_reducible refine (H1.out _ HGQ.out).mono ?_); rintro e w1 ⟨rfl, hb⟩; have HQ := Lib.hid (HQ.out.below hb); have HGQ := Lib.hid (HQ.out.gt HP.out HG.out); clear hb)
        | ((go_at_call 42; with_reducible refine (H2.out _ HGQ.out).mono ?_); rintro e w2 ⟨rfl, hb⟩; have HQ := Lib.hid (HQ.out.below hb); have HGQ := Lib.hid (HQ.out.gt HP.out HG.out); clear hb)
        | ((go_at_call 41; with_reducible refine (H3.out _ HGQ.out).mono ?_); rintro e w3 ⟨rfl, hb⟩; have HQ := Lib.hid (HQ.out.below hb); have HGQ := Lib.hid (HQ.out.gt HP.out HG.out); clear hb)
        | fail)
      go_ret
      rw [HE.out]
      exact PgO.yes HQ.out.pg HQ.out.st
    · have b0 := emp_f h0
      have H5 := Lib.hid (fun V h => cut_any 32 t2 V (by have := HOk2.out.l; omega) h)
      have hw := HOk2.out.cut1 32
      have hr := HOk2.out.cut2 32
      have HE : Hid (res = if ([46] : Tx).isPrefixOf (cutc 32 t2).1 = true then dirF s (cutc 32 t2).1 (cutc 32 t2).2.1 else insF s (cutc 32 t2).1 (if (cutc 32 t2).2.2 = true then spl 44 (cutc 32 t2).2.1 else []) line) := by show _ = _; rw [HE.out]; unfold bodF; rw [if_neg h0]
      clear h0
      generalize cutc 32 t2 = p5 at *
      obtain ⟨word, oth, more⟩ := p5
      simp only at hw hr HE
      have H6 := Lib.hid (fun V => hasp_any [46] word V)
      generalize hpre : ([46] : Tx).isPrefixOf word = pre at *
      clear hpre
      cases pre
      · rw [if_neg (by simp)] at HE
        cases more
        · rw [if_neg (by simp)] at HE
          have HI := Lib.hid (fun V vc vg D (h : Pg V g m s vc vg D) (h1 : Gt V) (h2 : Ia.Gl V) => instruction_any V g m s vc vg D word none 0 0 [] line h (fun x => absurd rfl x) (fun t h => by simp at h) (by omega) (by omega) h1 h2)
          generalize insF s word [] line = r at *
          simp only [List.length_nil] at HI
          go_enter Tryz.func21, Tryz.ntmps21
          go_wp2_with (first
            | ((go_at_call 41; with_reducible refine (H1.out _ HGQ.out).mono ?_); rintro e w1 ⟨rfl, hb⟩; have HQ := Lib.hid (HQ.out.below hb); have HGQ := Lib.hid (HQ.out.gt HP.out HG.out); clear hb)
            | ((go_at_call 42; with_reducible refine (H2.out _ HGQ.out).mono ?_); rintro e w2 ⟨rfl, hb⟩; have HQ := Lib.hid (HQ.out.below hb); have HGQ := Lib.hid (HQ.out.gt HP.out HG.out); clear hb)
            | ((go_at_call 41; with_reducible refine (H3.out _ HGQ.out).mono ?_); rintro e w3 ⟨rfl, hb⟩; have HQ := Lib.hid (HQ.out.below hb); have HGQ := Lib.hid (HQ.out.gt HP.out HG.out); clear hb)
            | ((go_at_call 41; with_reducible refine (H5.out _ HGQ.out).mono ?_); rintro e w6 ⟨rfl, hb⟩; have HQ := Lib.hid (HQ.out.below hb); have HGQ := Lib.hid (HQ.out.gt HP.out HG.out); clear hb)
            | (go_at_call 44; refine (H6.out _).mono ?_; rintro e w' ⟨rfl, rfl⟩)
            | (go_at_call 46; refine (HI.out _ _ _ _ HQ.out.pg HGQ.out (HQ.out.gl HP.out HGL.out)).mono ?_; intro e w7 hr; obtain ⟨bo, rfl, hr⟩ := pgo_ret hr; have HR := Lib.hid (hr.after HQ.out.st); clear hr)
            | fail)
          go_ret
          rw [HE.out]
          exact HR.out
        · rw [if_pos rfl] at HE
          have hsp := hr.spl 44
          have H7 := Lib.hid (fun V h => split_any 44 oth V (by have := hr.l; omega) h)
          have HI := Lib.hid (fun (V0 : World) vc' vg' D' (hq : Pl W g m vc vg s vc' vg' D' V0) (h : Pg (V0.alloc (.cells (cst (spl 44 oth)).toArray 9)) g m s vc' vg' D') (h1 : Gt (V0.alloc (.cells (cst (spl 44 oth)).toArray 9))) (h2 : Ia.Gl (V0.alloc (.cells (cst (spl 44 oth)).toArray 9))) =>
            instruction_any (V0.alloc (.cells (cst (spl 44 oth)).toArray 9)) g m s vc' vg' D' word (some ⟨V0.heap.size, 0, none⟩) V0.heap.size (spl 44 oth).length (spl 44 oth) line h (fun _ => ⟨rfl, Es.Bk.new V0 _ _, fun x => by have := ft_lo hq.pg _ x; omega⟩) hsp.1 (by omega) (by omega) h1 h2)
          generalize insF s word (spl 44 oth) line = r at *
          go_enter Tryz.func21, Tryz.ntmps21
          go_wp2_with (first
            | ((go_at_call 41; with_reducible refine (H1.out _ HGQ.out).mono ?_); rintro e w1 ⟨rfl, hb⟩; have HQ := Lib.hid (HQ.out.below hb); have HGQ := Lib.hid (HQ.out.gt HP.out HG.out); clear hb)
            | ((go_at_call 42; with_reducible refine (H2.out _ HGQ.out).mono ?_); rintro e w2 ⟨rfl, hb⟩; have HQ := Lib.hid (HQ.out.below hb); have HGQ := Lib.hid (HQ.out.gt HP.out HG.out); clear hb)
            | ((go_at_call 41; with_reducible refine (H3.out _ HGQ.out).mono ?_); rintro e w3 ⟨rfl, hb⟩; have HQ := Lib.hid (HQ.out.below hb); have HGQ := Lib.hid (HQ.out.gt HP.out HG.out); clear hb)
            | ((go_at_call 41; with_reducible refine (H5.out _ HGQ.out).mono ?_); rintro e w6 ⟨rfl, hb⟩; have HQ := Lib.hid (HQ.out.below hb); have HGQ := Lib.hid (HQ.out.gt HP.out HG.out); clear hb)
            | (go_at_call 44; refine (H6.out _).mono ?_; rintro e w' ⟨rfl, rfl⟩)
            | (go_at_call 20; refine (H7.out _ HGQ.out).mono ?_; rintro e w7 ⟨rfl, hw⟩; rw [hw]; clear hw; have HQ0 := HQ; have HQ := Lib.hid (HQ.out.below (Es.al1 _ (.cells (cst (spl 44 oth)).toArray 9))); have HGQ := Lib.hid (HQ.out.gt HP.out HG.out))
            | (go_at_call 46; refine (HI.out _ _ _ _ HQ0.out HQ.out.pg HGQ.out (HQ.out.gl HP.out HGL.out)).mono ?_; intro e w8 hr; obtain ⟨bo, rfl, hr⟩ := pgo_ret hr; have HR := Lib.hid (hr.after HQ.out.st); clear hr)
            | fail)
          go_ret
          rw [HE.out]
          exact HR.out
      · rw [if_pos rfl] at HE
        have HD := Lib.hid (fun V vc vg D (h : Pg V g m s vc vg D) (h1 : Gt V) => directive_any V g m s vc vg D word oth h hr (by omega) h1)
        generalize dirF s word oth = r at *
        go_enter Tryz.func21, Tryz.ntmps21
        go_wp2_with (first
          | ((go_at_call 41; with_reducible refine (H1.out _ HGQ.out).mono ?_); rintro e w1 ⟨rfl, hb⟩; have HQ := Lib.hid (HQ.out.below hb); have HGQ := Lib.hid (HQ.out.gt HP.out HG.out); clear hb)
          | ((go_at_call 42; with_reducible refine (H2.out _ HGQ.out).mono ?_); rintro e w2 ⟨rfl, hb⟩; have HQ := Lib.hid (HQ.out.below hb); have HGQ := Lib.hid (HQ.out.gt HP.out HG.out); clear hb)
          | ((go_at_call 41; with_reducible refine (H3.out _ HGQ.out).mono ?_); rintro e w3 ⟨rfl, hb⟩; have HQ := Lib.hid (HQ.out.below hb); have HGQ := Lib.hid (HQ.out.gt HP.out HG.out); clear hb)
          | ((go_at_call 41; with_reducible refine (H5.out _ HGQ.out).mono ?_); rintro e w6 ⟨rfl, hb⟩; have HQ := Lib.hid (HQ.out.below hb); have HGQ := Lib.hid (HQ.out.gt HP.out HG.out); clear hb)
          | (go_at_call 44; refine (H6.out _).mono ?_; rintro e w' ⟨rfl, rfl⟩)
          | (go_at_call 45; refine (HD.out _ _ _ _ HQ.out.pg HGQ.out).mono ?_; intro e w7 hr; obtain ⟨bo, rfl, hr⟩ := pgo_ret hr; have HR := Lib.hid (hr.after HQ.out.st); clear hr)
          | fail)
        go_ret
        rw [HE.out]
        exact HR.out
  · rw [if_pos rfl] at HE
    have HLab := Lib.hid (fun V vc vg D (h : Pg V g m s vc vg D) => label_any V g m s vc vg D lb h (by have := HOk3.out.l; omega) (by omega) (by omega))
    cases hlab : labF s lb with
    | none =>
      rw [hlab] at HLab HE
      simp only at HE
      clear hlab
      go_enter Tryz.func21, Tryz.ntmps21
      go_wp2_with (first
        | ((go_at_call 41; with_reducible refine (H1.out _ HGQ.out).mono ?_); rintro e w1 ⟨rfl, hb⟩; have HQ := Lib.hid (HQ.out.below hb); have HGQ := Lib.hid (HQ.out.gt HP.out HG.out); clear hb)
        | ((go_at_call 42; with_reducible refine (H2.out _ HGQ.out).mono ?_); rintro e w2 ⟨rfl, hb⟩; have HQ := Lib.hid (HQ.out.below hb); have HGQ := Lib.hid (HQ.out.gt HP.out HG.out); clear hb)
        | ((go_at_call 41; with_reducible refine (H3.out _ HGQ.out).mono ?_); rintro e w3 ⟨rfl, hb⟩; have HQ := Lib.hid (HQ.out.below hb); have HGQ := Lib.hid (HQ.out.gt HP.out HG.out); clear hb)
        | (go_at_call 43; refine (HLab.out _ _ _ _ HQ.out.pg).mono ?_; rintro e w4 ⟨rfl, hm⟩; have HM := Lib.hid (Step.mods_trans HQ.out.st hm); clear hm)
        | fail)
      go_ret
      rw [HE.out]
      exact PgO.no HM.out
    | some s2 =>
      obtain ⟨hb1, hb2⟩ := labF_bd hlab
      rw [hlab] at HLab HE
      simp only at HE
      have hc : s2.code.length ≤ 800000 := by omega
      have hgp : s2.gp.length ≤ 800000 := by omega
      clear hlab hb1 hb2
      generalize trm rst = t5 at *
      have HE : Hid (res = bodF s2 t5 line) := HE
      by_cases h0 : t5 = []
      · have b0 := emp_t h0
        have HE : Hid (res = some s2) := by show _ = _; rw [HE.out]; unfold bodF; rw [if_pos h0]
        clear h0
        go_enter Tryz.func21, Tryz.ntmps21
        go_wp2_with (first
          | ((go_at_call 41; with_reducible refine (H1.out _ HGQ.out).mono ?_); rintro e w1 ⟨rfl, hb⟩; have HQ := Lib.hid (HQ.out.below hb); have HGQ := Lib.hid (HQ.out.gt HP.out HG.out); clear hb)
          | ((go_at_call 42; with_reducible refine (H2.out _ HGQ.out).mono ?_); rintro e w2 ⟨rfl, hb⟩; have HQ := Lib.hid (HQ.out.below hb); have HGQ := Lib.hid (HQ.out.gt HP.out HG.out); clear hb)
          | ((go_at_call 41; with_reducible refine (H3.out _ HGQ.out).mono ?_); rintro e w3 ⟨rfl, hb⟩; have HQ := Lib.hid (HQ.out.below hb); have HGQ := Lib.hid (HQ.out.gt HP.out HG.out); clear hb)
          | (go_at_call 43; refine (HLab.out _ _ _ _ HQ.out.pg).mono ?_; rintro e w4 ⟨rfl, vc4, vg4, D4, hp4, hs4⟩; have HQ := Lib.hid (Pl.mk hp4 (HQ.out.st.trans hs4)); have HGQ := Lib.hid (HQ.out.gt HP.out HG.out); clear hp4 hs4)
          | ((go_at_call 42; with_reducible refine (H4.out _ HGQ.out).mono ?_); rintro e w5 ⟨rfl, hb⟩; have HQ := Lib.hid (HQ.out.below hb); have HGQ := Lib.hid (HQ.out.gt HP.out HG.out); clear hb)
          | fail)
        go_ret
        rw [HE.out]
        exact PgO.yes HQ.out.pg HQ.out.st
      · have b0 := emp_f h0
        have H5 := Lib.hid (fun V h => cut_any 32 t5 V (by have := HOk4.out.l; omega) h)
        have hw := HOk4.out.cut1 32
        have hr := HOk4.out.cut2 32
        have HE : Hid (res = if ([46] : Tx).isPrefixOf (cutc 32 t5).1 = true then dirF s2 (cutc 32 t5).1 (cutc 32 t5).2.1 else insF s2 (cutc 32 t5).1 (if (cutc 32 t5).2.2 = true then spl 44 (cutc 32 t5).2.1 else []) line) := by show _ = _; rw [HE.out]; unfold bodF; rw [if_neg h0]
        clear h0
        generalize cutc 32 t5 = p5 at *
        obtain ⟨word, oth, more⟩ := p5
        simp only at hw hr HE
        have H6 := Lib.hid (fun V => hasp_any [46] word V)
        generalize hpre : ([46] : Tx).isPrefixOf word = pre at *
        clear hpre
        cases pre
        · rw [if_neg (by simp)] at HE
          cases more
          · rw [if_neg (by simp)] at HE
            have HI := Lib.hid (fun V vc vg D (h : Pg V g m s2 vc vg D) (h1 : Gt V) (h2 : Ia.Gl V) => instruction_any V g m s2 vc vg D word none 0 0 [] line h (fun x => absurd rfl x) (fun t h => by simp at h) (by omega) (by omega) h1 h2)
            generalize insF s2 word [] line = r at *
            simp only [List.length_nil] at HI
            go_enter Tryz.func21, Tryz.ntmps21
            go_wp2_with (first
              | ((go_at_call 41; with_reducible refine (H1.out _ HGQ.out).mono ?_); rintro e w1 ⟨rfl, hb⟩; have HQ := Lib.hid (HQ.out.below hb); have HGQ := Lib.hid (HQ.out.gt HP.out HG.out); clear hb)
              | ((go_at_call 42; with_reducible refine (H2.out _ HGQ.out).mono ?_); rintro e w2 ⟨rfl, hb⟩; have HQ := Lib.hid (HQ.out.below hb); have HGQ := Lib.hid (HQ.out.gt HP.out HG.out); clear hb)
              | ((go_at_call 41; with_reducible refine (H3.out _ HGQ.out).mono ?_); rintro e w3 ⟨rfl, hb⟩; have HQ := Lib.hid (HQ.out.below hb); have HGQ := Lib.hid (HQ.out.gt HP.out HG.out); clear hb)
              | (go_at_call 43; refine (HLab.out _ _ _ _ HQ.out.pg).mono ?_; rintro e w4 ⟨rfl, vc4, vg4, D4, hp4, hs4⟩; have HQ := Lib.hid (Pl.mk hp4 (HQ.out.st.trans hs4)); have HGQ := Lib.hid (HQ.out.gt HP.out HG.out); clear hp4 hs4)
              | ((go_at_call 42; with_reducible refine (H4.out _ HGQ.out).mono ?_); rintro e w5 ⟨rfl, hb⟩; have HQ := Lib.hid (HQ.out.below hb); have HGQ := Lib.hid (HQ.out.gt HP.out HG.out); clear hb)
              | ((go_at_call 41; with_reducible refine (H5.out _ HGQ.out).mono ?_); rintro e w6 ⟨rfl, hb⟩; have HQ := Lib.hid (HQ.out.below hb); have HGQ := Lib.hid (HQ.out.gt HP.out HG.out); clear hb)
              | (go_at_call 44; refine (H6.out _).mono ?_; rintro e w' ⟨rfl, rfl⟩)
              | (go_at_call 46; refine (HI.out _ _ _ _ HQ.out.pg HGQ.out (HQ.out.gl HP.out HGL.out)).mono ?_; intro e w7 hr; obtain ⟨bo, rfl, hr⟩ := pgo_ret hr; have HR := Lib.hid (hr.after HQ.out.st); clear hr)
              | fail)
            go_ret
            rw [HE.out]
            exact HR.out
          · rw [if_pos rfl] at HE
            have hsp := hr.spl 44
            have H7 := Lib.hid (fun V h => split_any 44 oth V (by have := hr.l; omega) h)
            have HI := Lib.hid (fun (V0 : World) vc' vg' D' (hq : Pl W g m vc vg s2 vc' vg' D' V0) (h : Pg (V0.alloc (.cells (cst (spl 44 oth)).toArray 9)) g m s2 vc' vg' D') (h1 : Gt (V0.alloc (.cells (cst (spl 44 oth)).toArray 9))) (h2 : Ia.Gl (V0.alloc (.cells (cst (spl 44 oth)).toArray 9))) =>
              instruction_any (V0.alloc (.cells (cst (spl 44 oth)).toArray 9)) g m s2 vc' vg' D' word (some ⟨V0.heap.size, 0, none⟩) V0.heap.size (spl 44 oth).length (spl 44 oth) line h (fun _ => ⟨rfl, Es.Bk.new V0 _ _, fun x => by have := ft_lo hq.pg _ x; omega⟩) hsp.1 (by omega) (by omega) h1 h2)
            generalize insF s2 word (spl 44 oth) line = r at *
            go_enter Tryz.func21, Tryz.ntmps21
            go_wp2_with (first
              | ((go_at_call 41; with_reducible refine (H1.out _ HGQ.out).mono ?_); rintro e w1 ⟨rfl, hb⟩; have HQ := Lib.hid (HQ.out.below hb); have HGQ := Lib.hid (HQ.out.gt HP.out HG.out); clear hb)
              | ((go_at_call 42; with_reducible refine (H2.out _ HGQ.out).mono ?_); rintro e w2 ⟨rfl, hb⟩; have HQ := Lib.hid (HQ.out.below hb); have HGQ := Lib.hid (HQ.out.gt HP.out HG.out); clear hb)
              | ((go_at_call 41; with_reducible refine (H3.out _ HGQ.out).mono ?_); rintro e w3 ⟨rfl, hb⟩; have HQ := Lib.hid (HQ.out.below hb); have HGQ := Lib.hid (HQ.out.gt HP.out HG.out); clear hb)
              | (go_at_call 43; refine (HLab.out _ _ _ _ HQ.out.pg).mono ?_; rintro e w4 ⟨rfl, vc4, vg4, D4, hp4, hs4⟩; have HQ := Lib.hid (Pl.mk hp4 (HQ.out.st.trans hs4)); have HGQ := Lib.hid (HQ.out.gt HP.out HG.out); clear hp4 hs4)
              | ((go_at_call 42; with_reducible refine (H4.out _ HGQ.out).mono ?_); rintro e w5 ⟨rfl, hb⟩; have HQ := Lib.hid (HQ.out.below hb); have HGQ := Lib.hid (HQ.out.gt HP.out HG.out); clear hb)
              | ((go_at_call 41; with_reducible refine (H5.out _ HGQ.out).mono ?_); rintro e w6 ⟨rfl, hb⟩; have HQ := Lib.hid (HQ.out.below hb); have HGQ := Lib.hid (HQ.out.gt HP.out HG.out); clear hb)
              | (go_at_call 44; refine (H6.out _).mono ?_; rintro e w' ⟨rfl, rfl⟩)
              | (go_at_call 20; refine (H7.out _ HGQ.out).mono ?_; rintro e w7 ⟨rfl, hw⟩; rw [hw]; clear hw; have HQ0 := HQ; have HQ := Lib.hid (HQ.out.below (Es.al1 _ (.cells (cst (spl 44 oth)).toArray 9))); have HGQ := Lib.hid (HQ.out.gt HP.out HG.out))
              | (go_at_call 46; refine (HI.out _ _ _ _ HQ0.out HQ.out.pg HGQ.out (HQ.out.gl HP.out HGL.out)).mono ?_; intro e w8 hr; obtain ⟨bo, rfl, hr⟩ := pgo_ret hr; have HR := Lib.hid (hr.after HQ.out.st); clear hr)
              | fail)
            go_ret
            rw [HE.out]
            exact HR.out
        · rw [if_pos rfl] at HE
          have HD := Lib.hid (fun V vc vg D (h : Pg V g m s2 vc vg D) (h1 : Gt V) => directive_any V g m s2 vc vg D word oth h hr (by omega) h1)
          generalize dirF s2 word oth = r at *
          go_enter Tryz.func21, Tryz.ntmps21
          go_wp2_with (first
            | ((go_at_call 41; with_reducible refine (H1.out _ HGQ.out).mono ?_); rintro e w1 ⟨rfl, hb⟩; have HQ := Lib.hid (HQ.out.below hb); have HGQ := Lib.hid (HQ.out.gt HP.out HG.out); clear hb)
            | ((go_at_call 42; with_reducible refine (H2.out _ HGQ.out).mono ?_); rintro e w2 ⟨rfl, hb⟩; have HQ := Lib.hid (HQ.out.below hb); have HGQ := Lib.hid (HQ.out.gt HP.out HG.out); clear hb)
            | ((go_at_call 41; with_reducible refine (H3.out _ HGQ.out).mono ?_); rintro e w3 ⟨rfl, hb⟩; have HQ := Lib.hid (HQ.out.below hb); have HGQ := Lib.hid (HQ.out.gt HP.out HG.out); clear hb)
            | (go_at_call 43; refine (HLab.out _ _ _ _ HQ.out.pg).mono ?_; rintro e w4 ⟨rfl, vc4, vg4, D4, hp4, hs4⟩; have HQ := Lib.hid (Pl.mk hp4 (HQ.out.st.trans hs4)); have HGQ := Lib.hid (HQ.out.gt HP.out HG.out); clear hp4 hs4)
            | ((go_at_call 42; with_reducible refine (H4.out _ HGQ.out).mono ?_); rintro e w5 ⟨rfl, hb⟩; have HQ := Lib.hid (HQ.out.below hb); have HGQ := Lib.hid (HQ.out.gt HP.out HG.out); clear hb)
            | ((go_at_call 41; with_reducible refine (H5.out _ HGQ.out).mono ?_); rintro e w6 ⟨rfl, hb⟩; have HQ := Lib.hid (HQ.out.below hb); have HGQ := Lib.hid (HQ.out.gt HP.out HG.out); clear hb)
            | (go_at_call 44; refine (H6.out _).mono ?_; rintro e w' ⟨rfl, rfl⟩)
            | (go_at_call 45; refine (HD.out _ _ _ _ HQ.out.pg HGQ.out).mono ?_; intro e w7 hr; obtain ⟨bo, rfl, hr⟩ := pgo_ret hr; have HR := Lib.hid (hr.after HQ.out.st); clear hr)
            | fail)
          go_ret
          rw [HE.out]
          exact HR.out

end Go.Proofs.YtppkpfkoggnbmaaGreatDoor.Cs.Ka

/- copy into bytes of one's own. -/
namespace Go.Proofs.YtppkpfkoggnbmaaGreatDoor.Cs.Ka
open Go.RowKit Es
open Ia (sb cst sb_size sb_get sb_append)
set_option linter.unusedVariables false
set_option linter.unusedSimpArgs false

theorem u8_size : (Tryz.prog.info? 5).map (·.size) = some 1 := by kernel_rfl
theorem take_parts (A B C : List Value) (n : Nat) (h : A.length + B.length ≤ n) : (A ++ B ++ C).take n = A ++ B ++ C.take (n - (A.length + B.length)) := by
  rw [List.take_append, List.take_of_length_le (by rw [List.length_append]; exact h), List.length_append]
theorem run_copy8 (w : World) (v : Value) (ys zs : List Int) (A : Option Addr) (m c at_ be : Nat) (h : R8 w v ys) (hs : By w A m c zs) (h1 : at_ ≤ be) (h2 : be ≤ ys.length) (h3 : at_ < be) :
    ∃ r cap w', v = .slice (some ⟨r, 0, none⟩) ys.length cap ∧ ys.length ≤ cap ∧ (∀ V : World, (Instr.slice 22 (.slice (some ⟨r, 0, none⟩) ys.length cap) (some (.int .i64 at_)) (some (.int .i64 be)) none).run Tryz.prog V = .ok (.slice (some ⟨r, at_, none⟩) (be - at_) (cap - at_)) V) ∧ (Builtin.copy_ #[22, 22] 3 #[.slice (some ⟨r, at_, none⟩) (be - at_) (cap - at_), .slice A m c]).run Tryz.prog w = .ok (goInt ((zs.take (be - at_)).length : Nat)) w' ∧
      Hid (R8 w' v (ys.take at_ ++ zs.take (be - at_) ++ ys.drop (at_ + (zs.take (be - at_)).length)) ∧ Mods (Bl v) w w') := by
  rcases h.2 with ⟨rfl, hnil⟩ | ⟨g, cap, cur, rfl, hbg, hg, hnc, hcm, hcs, htake⟩
  · omega
  · have hne : at_ < be := h3
    have hnc2 : ¬ cap = at_ := by omega
    have hsl : ∀ V : World, (Instr.slice 22 (.slice (some ⟨g, 0, none⟩) ys.length cap) (some (.int .i64 at_)) (some (.int .i64 be)) none).run Tryz.prog V = .ok (.slice (some ⟨g, at_, none⟩) (be - at_) (cap - at_)) V := fun V => by
      have := run_mid ⟨g, 0, none⟩ ys.length cap at_ be h1 (by omega) V
      rw [if_neg hnc2, Es.Addr.add_lit'] at this
      exact this
    have hzl := hs.len
    have hq : (zs.take (be - at_)).length = Nat.min m (be - at_) := by rw [List.length_take, hzl, Nat.min_comm]
    have hql : at_ + (zs.take (be - at_)).length ≤ ys.length := by rw [List.length_take]; omega
    have hcl : (cel (zs.take (be - at_))).length = (zs.take (be - at_)).length := cel_length _
    by_cases hz : zs.take (be - at_) = []
    · rw [hz] at hq
      have hmin : Nat.min m (be - at_) = 0 := by simpa using hq.symm
      refine ⟨g, cap, w, rfl, hnc, hsl, ?_, ?_, Mods.refl _ _⟩
      · rw [hz]
        exact run_copy_none (P := Tryz.prog) w _ _ _ _ _ A _ _ m c under_slice u8_size hmin
      · rw [hz]
        simpa using h
    · have hm0 : 0 < zs.length := by
        cases zs with
        | nil => simp at hz
        | cons _ _ => simp
      obtain ⟨ad, rfl, had, hc⟩ := hs.src hm0
      have hrun := run_copy_row (P := Tryz.prog) w 22 22 3 _ g at_ (be - at_) (cap - at_) ad m c cur _ (cel (zs.take (be - at_))) under_slice u8_size hg (by rw [hcl]; exact hq)
        (fun j u hj => hc j u (by rw [cel, List.map_take, List.getElem?_take] at hj; split at hj; · exact hj
                                  · cases hj)) (by rw [hcl, hcs]; omega) (cel_one _)
      rw [hcl] at hrun
      have hL : (ys.take at_ ++ zs.take (be - at_) ++ ys.drop (at_ + (zs.take (be - at_)).length)).length = ys.length := by
        simp only [List.length_append, List.length_take, List.length_drop] at hql ⊢; omega
      refine ⟨g, cap, _, rfl, hnc, hsl, hrun, ⟨?_, .inr ⟨g, cap, _, by rw [hL], hbg, setRow_heap w g cur _ _ _ hg, ?_, hcm, ?_, ?_⟩⟩, ?_⟩
      · simp [cel]
      · simp; omega
      · simp only [List.size_toArray, List.length_append, List.length_take, List.length_drop, Array.length_toList, cel_length]
        omega
      · rw [hL, Nat.mul_one]
        rw [Nat.mul_one] at htake
        have e1 : cel (ys.take at_ ++ zs.take (be - at_) ++ ys.drop (at_ + (zs.take (be - at_)).length)) = (cel ys).take at_ ++ cel (zs.take (be - at_)) ++ (cel ys).drop (at_ + (zs.take (be - at_)).length) := by
          simp only [cel, List.map_append, List.map_take, List.map_drop]
        have hcl2 : ys.length ≤ cur.toList.length := by have : cur.toList.length = cur.size := Array.length_toList; omega
        have hA : (cur.toList.take at_).length = at_ := by rw [List.length_take]; omega
        rw [e1, ← htake, List.take_take, List.drop_take, Nat.min_eq_left (by omega), take_parts _ _ _ _ (by rw [hA, hcl]; omega), hA, hcl]
      · exact ⟨rfl, rfl, rfl, by simp [World.setRow], fun k _ hk => setRow_other w g k _ (fun e => hk (by simp [Bl, Value.ownBlock, e]))⟩

end Go.Proofs.YtppkpfkoggnbmaaGreatDoor.Cs.Ka

/- Contracts of package asm: a gap filled. -/
namespace Go.Proofs.YtppkpfkoggnbmaaGreatDoor.Cs.Ka
open Go.RowKit Es Go.Maps Go.MapKept
open Ia (sb cst sb_size sb_get sb_append)
set_option linter.unusedVariables false
set_option linter.unusedSimpArgs false

/-- what the code turns into, in place -/
theorem Pg.turn {W W' : World} {g m : Nat} {s : St} {vc vg : Value} {D : DataW Unit} (h : Pg W g m s vc vg D) {c' : List Int} (hR : R8 W' vc c') (hM : Mods (Bl vc) W W') (hb : Byt c') :
    Pg W' g m ⟨c', s.pl, s.gp⟩ vc vg D :=
  ⟨h.box.mods hM h.cg, hR, own_mods h.gaps hM h.cv, h.pm.keep (hM.block m h.pm.lt h.cm), h.gm, h.cg, h.gg, h.cm, h.hm, h.cv, hb, h.lo⟩
set_option maxRecDepth 100000 in
theorem Pm.look {W : World} {m : Nat} {pl : List (Tx × Nat)} {D : DataW Unit} (h : Pm W m pl D) (l : Tx) (hl : l.length ≤ 1000000) :
    ∃ j : Int, (Instr.lookup 52 (.map (some m)) (.string (sb l)) true).run Tryz.prog W = .ok (.tuple #[.int .i64 j, .bool (lk pl l).isSome]) W ∧ ∀ n : Nat, lk pl l = some n → j = n := by
  obtain ⟨v, ps, hrun, hv⟩ := h.owns.look_ok (string_keyed ts_str) ts_map (ts_zero W) (plainElem_int ts_int (by simp [Lit.wf, IntKind.min, IntKind.max, IntKind.bits, IntKind.signed])) (key_of l hl)
  obtain ⟨c, rfl, hc, hwc⟩ := plainElem_int_inv ts_int hv
  rw [h.has] at hrun
  refine ⟨c, hrun, fun n hn => ?_⟩
  have h1 := h.at_ l n hn
  have h2 := congrArg Prod.fst hc
  simp only at h2
  rw [h1] at h2
  injection h2 with h2
  injection h2 with _ h2
  exact h2.symm

theorem byt_mid {xs ys : List Int} {i j k : Nat} (hx : Byt xs) (hy : Byt ys) : Byt (xs.take i ++ ys.take j ++ xs.drop k) := by
  intro x h
  simp only [List.mem_append] at h
  rcases h with (h | h) | h
  · exact hx x (List.mem_of_mem_take h)
  · exact hy x (List.mem_of_mem_take h)
  · exact hx x (List.mem_of_mem_drop h)
/-- what filling answers -/
def FlO (W : World) (g m : Nat) (vc vg : Value) (D : DataW Unit) (s : St) : Option (List Int) → Ending → World → Prop
  | none, e, w' => e = .returned (.bool false) ∧ Mods (Ft g m vc vg) W w'
  | some c, e, w' => e = .returned (.bool true) ∧ Pg w' g m ⟨c, s.pl, s.gp⟩ vc vg D ∧ Mods (Ft g m vc vg) W w'

/-- the gap's box, beside a program -/
structure Pw (W0 : World) (g m : Nat) (vc vg : Value) (x : Gp) (s : St) (D : DataW Unit) (W : World) : Prop where
  pg : Pg W g m s vc vg D
  bel : Below W0.heap.size W0 W
  bo : Es.Bk W W0.heap.size 62 x.cells
  ge : W0.heap.size ≤ W.heap.size
  fo : ¬ Ft g m vc vg W0.heap.size
theorem Pw.below {W0 W W' : World} {g m : Nat} {vc vg : Value} {x : Gp} {s : St} {D : DataW Unit} (h : Pw W0 g m vc vg x s D W) (b : Below W.heap.size W W') : Pw W0 g m vc vg x s D W' :=
  ⟨h.pg.below b, bel_trans h.bel b h.ge, h.bo.below b (Nat.le_refl _), Nat.le_trans h.ge b.size, h.fo⟩
theorem Pw.new {W : World} {g m : Nat} {vc vg : Value} {x : Gp} {s : St} {D : DataW Unit} (h : Pg W g m s vc vg D) : Pw W g m vc vg x s D (W.alloc (.cells x.cells.toArray 62)) :=
  ⟨h.below (Es.al1 _ _), Es.al1 _ _, Es.Bk.new W _ _, by simp, fun x => by have := ft_lo h _ x; omega⟩

set_option maxHeartbeats 6400000 in
set_option maxRecDepth 100000 in
theorem fill_any (W : World) (g m : Nat) (s : St) (vc vg : Value) (D : DataW Unit) (x : Gp) (hP : Pg W g m s vc vg D) (hc : s.code.length ≤ 1000000) (hl : x.o.l.length ≤ 1000000) (h1 : x.at_ < x.be) (h2 : x.be ≤ s.code.length)
    (hp : ∀ n, lk s.pl x.o.l = some n → n ≤ 1000000) (ha : 0 ≤ x.a ∧ x.a < 256) (hx : U x.o.s.x)
    (hb4 : ∀ v b, U v → enc ⟨x.o.s.k, x.o.s.r, x.o.s.i, v, x.o.s.n⟩ x.a x.z = some b → Byt b) :
    Calls Tryz.prog 22 #[.pointer (some ⟨g, 0, none⟩), x.val] W (FlO W g m vc vg D s (filF s.pl s.code x)) := by
  obtain ⟨line, a0, be, ⟨⟨k, r, i, xx, n⟩, l⟩, a, z⟩ := x
  simp only at hl h1 h2 hp ha hx hb4
  have HA := Lib.hid (Pw.new (x := ⟨line, a0, be, ⟨⟨k, r, i, xx, n⟩, l⟩, a, z⟩) hP)
  have hb : Below (W.alloc (.cells (Gp.cells ⟨line, a0, be, ⟨⟨k, r, i, xx, n⟩, l⟩, a, z⟩).toArray 62)).heap.size (W.alloc (.cells (Gp.cells ⟨line, a0, be, ⟨⟨k, r, i, xx, n⟩, l⟩, a, z⟩).toArray 62)) (W.alloc (.cells (Gp.cells ⟨line, a0, be, ⟨⟨k, r, i, xx, n⟩, l⟩, a, z⟩).toArray 62)).drew := (Below.refl _ _).drew
  obtain ⟨j, hlook, hj⟩ := (HA.out.pg.pm.keep (hb.block m HA.out.pg.pm.lt)).look l hl
  have HA1 := Lib.hid (HA.out.below hb)
  have HE : Hid (filF s.pl s.code ⟨line, a0, be, ⟨⟨k, r, i, xx, n⟩, l⟩, a, z⟩ = match lk s.pl l with
    | none => none
    | some p => match enc ⟨k, r, i, (if a = 98 then (p : Int) - be else (p : Int)) % 4294967296, n⟩ a z with
      | none => none
      | some b => some (s.code.take a0 ++ b.take (be - a0) ++ s.code.drop (a0 + (b.take (be - a0)).length))) := rfl
  generalize filF s.pl s.code _ = res at *
  clear hP hb
  obtain ⟨p0, p1, p2, pf, pl⟩ := HA.out.pg.cells
  have y1 := HA.out.bo.cell 1 _ rfl
  have y2 := HA.out.bo.cell 2 _ rfl
  have y3 := HA.out.bo.cell 3 _ rfl
  have y4 := HA.out.bo.cell 4 _ rfl
  have y5 := HA.out.bo.cell 5 _ rfl
  have y6 := HA.out.bo.cell 6 _ rfl
  have y7 := HA.out.bo.cell 7 _ rfl
  have y8 := HA.out.bo.cell 8 _ rfl
  have y9 := HA.out.bo.cell 9 _ rfl
  have y10 := HA.out.bo.cell 10 _ rfl
  simp only [Gp.val, Gp.cells] at *
  cases hlk : lk s.pl l with
  | none =>
    rw [hlk] at hlook HE
    simp only [Option.isSome] at hlook HE
    clear hj hp hb4
    go_enter Tryz.func22, Tryz.ntmps22
    go_upto_region 1 with fail
    go_region
    go_wp2_with fail
    go_ret
    rw [HE.out]
    exact ⟨rfl, Mods.of_below HA1.out.bel⟩
  | some p =>
    have hj := hj p hlk
    have hp := hp p hlk
    subst hj
    rw [hlk] at hlook HE
    simp only [Option.isSome] at hlook HE
    by_cases h98 : a = 98
    · subst h98
      rw [if_pos rfl] at HE
      have hu : U (((p : Int) - be) % 4294967296) := by unfold U; omega
      cases he : enc ⟨k, r, i, ((p : Int) - be) % 4294967296, n⟩ 98 z with
      | none =>
        have HK := Lib.hid (fun V => encode_any ⟨k, r, i, ((p : Int) - be) % 4294967296, n⟩ 98 z V ha hu)
        rw [he] at HK HE
        simp only at HE
        clear hb4 he
        go_enter Tryz.func22, Tryz.ntmps22
        go_upto_region 1 with fail
        go_region
        go_wp2_with (first | (go_at_call 47; refine (HK.out _).mono ?_; intro e w1 hr; obtain ⟨rfl, hb⟩ := hr; have HA6 := Lib.hid ((HA.out.below (Es.al1 _ _).drew).below hb); clear hb) | fail)
        go_ret
        rw [HE.out]
        exact ⟨rfl, Mods.of_below HA6.out.bel⟩
      | some b =>
        have HK := Lib.hid (fun V => encode_any ⟨k, r, i, ((p : Int) - be) % 4294967296, n⟩ 98 z V ha hu)
        rw [he] at HK HE
        simp only at HE
        have HBB := Lib.hid (hb4 _ _ hu he)
        clear hb4 he
        go_enter Tryz.func22, Tryz.ntmps22
        go_upto_region 1 with fail
        go_region
        go_upto_region 11 with (first | (go_at_call 47; refine (HK.out _).mono ?_; intro e w1 hr; obtain ⟨A, c, rfl, hM⟩ := hr; have HA6 := Lib.hid ((HA.out.below (Es.al1 _ _).drew).below hM.bel); have HM := Lib.hid (hM.below (Below.refl _ _).drew); clear hM) | fail)
        have HA7 := Lib.hid (HA6.out.below (Below.refl _ _).drew)
        obtain ⟨rb, cp, w8, hvc, hcp, hsl, hrun, hres⟩ := run_copy8 w1.drew vc s.code b A b.length c a0 be HA7.out.pg.code (HM.out.by rfl HBB.out) (by omega) h2 h1
        subst hvc
        obtain ⟨q0, q1, q2, qf, ql⟩ := HA7.out.pg.cells
        have u1 := HA7.out.bo.cell 1 _ rfl
        have u2 := HA7.out.bo.cell 2 _ rfl
        simp only [Gp.cells] at u1 u2
        clear p0 p1 p2 pf pl y1 y2 y3 y4 y5 y6 y7 y8 y9 y10 hlook
        have HR := Lib.hid hres.out
        clear hres HA HA1 HA6 HM HK
        go_still_tail 10, (by kernel_rfl)
        change wpList _ _ _ _ _ w1.drew
        generalize w1.drew = v2 at *
        go_wp2_with fail
        go_ret
        rw [HE.out]
        exact ⟨rfl, HA7.out.pg.turn HR.out.1 HR.out.2 (byt_mid HA7.out.pg.byt HBB.out), Step.mods_trans (Step.of_below HA7.out.bel) (HR.out.2.mono (fun k _ hk => .inr (.inr (.inl hk))))⟩
    · rw [if_neg h98] at HE
      have hu : U (p : Int) := by unfold U; omega
      rw [show (p : Int) % 4294967296 = p by omega] at HE
      have b98 : decide (a = 98) = false := by simpa using h98
      cases he : enc ⟨k, r, i, (p : Int), n⟩ a z with
      | none =>
        have HK := Lib.hid (fun V => encode_any ⟨k, r, i, (p : Int), n⟩ a z V ha hu)
        rw [he] at HK HE
        simp only at HE
        clear hb4 he
        go_enter Tryz.func22, Tryz.ntmps22
        go_upto_region 1 with fail
        go_region
        go_wp2_with (first | (go_at_call 47; refine (HK.out _).mono ?_; intro e w1 hr; obtain ⟨rfl, hb⟩ := hr; have HA6 := Lib.hid ((HA.out.below (Es.al1 _ _).drew).below hb); clear hb) | fail)
        go_ret
        rw [HE.out]
        exact ⟨rfl, Mods.of_below HA6.out.bel⟩
      | some b =>
        have HK := Lib.hid (fun V => encode_any ⟨k, r, i, (p : Int), n⟩ a z V ha hu)
        rw [he] at HK HE
        simp only at HE
        have HBB := Lib.hid (hb4 _ _ hu he)
        clear hb4 he
        go_enter Tryz.func22, Tryz.ntmps22
        go_upto_region 1 with fail
        go_region
        go_upto_region 11 with (first | (go_at_call 47; refine (HK.out _).mono ?_; intro e w1 hr; obtain ⟨A, c, rfl, hM⟩ := hr; have HA6 := Lib.hid ((HA.out.below (Es.al1 _ _).drew).below hM.bel); have HM := Lib.hid (hM.below (Below.refl _ _).drew); clear hM) | fail)
        have HA7 := Lib.hid (HA6.out.below (Below.refl _ _).drew)
        obtain ⟨rb, cp, w8, hvc, hcp, hsl, hrun, hres⟩ := run_copy8 w1.drew vc s.code b A b.length c a0 be HA7.out.pg.code (HM.out.by rfl HBB.out) (by omega) h2 h1
        subst hvc
        obtain ⟨q0, q1, q2, qf, ql⟩ := HA7.out.pg.cells
        have u1 := HA7.out.bo.cell 1 _ rfl
        have u2 := HA7.out.bo.cell 2 _ rfl
        simp only [Gp.cells] at u1 u2
        clear p0 p1 p2 pf pl y1 y2 y3 y4 y5 y6 y7 y8 y9 y10 hlook
        have HR := Lib.hid hres.out
        clear hres HA HA1 HA6 HM HK
        go_still_tail 10, (by kernel_rfl)
        change wpList _ _ _ _ _ w1.drew
        generalize w1.drew = v2 at *
        go_wp2_with fail
        go_ret
        rw [HE.out]
        exact ⟨rfl, HA7.out.pg.turn HR.out.1 HR.out.2 (byt_mid HA7.out.pg.byt HBB.out), Step.mods_trans (Step.of_below HA7.out.bel) (HR.out.2.mono (fun k _ hk => .inr (.inr (.inl hk))))⟩

end Go.Proofs.YtppkpfkoggnbmaaGreatDoor.Cs.Ka

/- What the lines so far have come to stays in bounds. No program in sight. -/
namespace Go.Proofs.YtppkpfkoggnbmaaGreatDoor.Cs.Ka
open Go.RowKit Es
open Ia (sb)
set_option linter.unusedVariables false
set_option linter.unusedSimpArgs false

theorem vald_l (k : Int) (l : Tx) : (vald k l).1.l.length ≤ l.length := by
  unfold vald
  (repeat' split) <;> simp [zo]
theorem plainF_l (l : Tx) : (plainF l).1.l.length ≤ l.length := by
  unfold plainF
  split
  · exact Nat.le_trans (vald_l _ _) (pref_le _ _)
  · split
    · exact Nat.le_trans (vald_l 12 _) (pref_le _ _)
    · split <;> simp
theorem readF_l (l : Tx) (a : Int) : (readF l a).1.l.length ≤ l.length := by
  unfold readF
  split
  · exact vald_l _ _
  · split
    · split
      · have h1 := plainF_l (cutc 91 (suf 93 l).1).1
        have h2 := (cutc_le 91 (suf 93 l).1).1
        have h3 := suf_le 93 l
        exact Nat.le_trans h1 (Nat.le_trans h2 h3)
      · simp [zo]
    · exact plainF_l l
theorem enc_pos {t : Sp} {a z : Int} {b : List Int} (h : enc t a z = some b) : 0 < b.length := by
  cases b with
  | cons _ _ => simp
  | nil =>
    exfalso
    have h1 := enc_some h
    have h2 : gd a z = true := by
      unfold enc at h
      split at h
      · next hc => exact hc.1
      · cases h
    have hz := gd_sz h2
    unfold dec at h1
    rw [if_neg (by rw [h2]; simp)] at h1
    split at h1
    · rw [if_pos (by rcases hz with rfl | rfl | rfl <;> simp)] at h1
      simp at h1
    · simp at h1
/-- a gap that lies in the code -/
structure Gk (c : Nat) (x : Gp) : Prop where
  lt : x.at_ < x.be
  le : x.be ≤ c
  l : x.o.l.length ≤ 65536
  a : 0 ≤ x.a ∧ x.a < 256
  u : U x.o.s.x
  n : x.line ≠ 0
theorem Gk.mono {c c' : Nat} {x : Gp} (h : Gk c x) (hc : c ≤ c') : Gk c' x := ⟨h.lt, Nat.le_trans h.le hc, h.l, h.a, h.u, h.n⟩
structure Iv (k : Nat) (s : St) : Prop where
  gc : s.gp.length ≤ s.code.length
  pc : s.pl.length ≤ k
  pl : ∀ p ∈ s.pl, p.2 ≤ 65536
  gk : ∀ x ∈ s.gp, Gk s.code.length x
theorem Iv.nil : Iv 0 ⟨[], [], []⟩ := ⟨by simp, by simp, by simp, by simp⟩
theorem Iv.code {k : Nat} {s : St} (h : Iv k s) (c : List Int) (hc : s.code.length ≤ c.length) : Iv k ⟨c, s.pl, s.gp⟩ :=
  ⟨Nat.le_trans h.gc hc, h.pc, h.pl, fun x hx => (h.gk x hx).mono hc⟩
theorem Iv.add {k : Nat} {s s2 : St} {o : Op} {a z line : Int} (h : Iv k s) (he : addF s o a z line = some s2) (hl : o.l.length ≤ 65536) (ha : 0 ≤ a ∧ a < 256) (hu : U o.s.x) (hn : line ≠ 0) : Iv k s2 := by
  unfold addF at he
  cases hb : enc o.s a z with
  | none => rw [hb] at he; cases he
  | some b =>
    rw [hb] at he
    simp only [Option.some.injEq] at he
    subst he
    have hp := enc_pos hb
    have h1 := h.code (s.code ++ b) (by simp)
    by_cases h0 : o.l = []
    · rw [if_pos h0]; exact h1
    · rw [if_neg h0]
      refine ⟨?_, h.pc, h.pl, ?_⟩
      · simp only [List.length_append, List.length_cons, List.length_nil]
        have := h.gc
        omega
      · intro x hx
        rcases List.mem_append.1 hx with hx | hx
        · exact h1.gk x hx
        · have hx := List.mem_singleton.1 hx
          subst hx
          exact ⟨by simp only; omega, by simp, hl, ha, hu, hn⟩
theorem Iv.one {k : Nat} {s s2 : St} {t : Tx} {a z line : Int} (h : Iv k s) (he : oneF s t a z line = some s2) (ht : Okt t) (ha : 0 ≤ a ∧ a < 256) (hn : line ≠ 0) : Iv k s2 := by
  unfold oneF at he
  split at he
  · exact h.add he (Nat.le_trans (readF_l _ _) ht.trm.l) ha (readF_x _ _) hn
  · cases he
theorem Iv.ops {k : Nat} {line : Int} (hn : line ≠ 0) : ∀ (qs : List (Int × Int)) (ts : List Tx) {s s2 : St}, Iv k s → opsF line s qs ts = some s2 → (∀ t ∈ ts, Okt t) → (∀ q ∈ qs, 0 ≤ q.1 ∧ q.1 < 256) → Iv k s2
  | [], ts, s, s2, h, he, _, _ => by
    cases ts <;> (unfold opsF at he; injection he with he; subst he; exact h)
  | _ :: _, [], s, s2, h, he, _, _ => by
    unfold opsF at he; injection he with he; subst he; exact h
  | q :: qs, t :: ts, s, s2, h, he, ht, hq => by
    rw [opsF_cons] at he
    cases h1 : oneF s t q.1 q.2 line with
    | none => rw [h1] at he; cases he
    | some s' =>
      rw [h1] at he
      exact Iv.ops hn qs ts (h.one h1 (ht t List.mem_cons_self) (hq q List.mem_cons_self) hn) he (fun t h => ht t (List.mem_cons_of_mem _ h)) (fun q h => hq q (List.mem_cons_of_mem _ h))
theorem Iv.ins {k : Nat} {s s2 : St} {n : Tx} {ts : List Tx} {line : Int} (h : Iv k s) (he : insF s n ts line = some s2) (ht : ∀ t ∈ ts, Okt t) (hn : line ≠ 0) : Iv k s2 := by
  unfold insF at he
  split at he
  · exact Iv.ops hn _ ts (h.code _ (by simp)) he ht (fun q hq => ⟨((fnq_in n).1 q hq).1, ((fnq_in n).1 q hq).2.1⟩)
  · cases he
theorem numsF_le (k : Nat) : ∀ (ts : List Tx) (c c' : List Int), numsF k c ts = some c' → c.length ≤ c'.length
  | [], c, c', h => by unfold numsF at h; injection h with h; subst h; exact Nat.le_refl _
  | t :: ts, c, c', h => by
    unfold numsF at h
    split at h
    · have := numsF_le k ts _ _ h
      simp only [List.length_append] at this
      omega
    · cases h
theorem Iv.wcode {k : Nat} {s s2 : St} {r : Option (List Int)} (h : Iv k s) (he : wcode s r = some s2) (hr : ∀ c, r = some c → s.code.length ≤ c.length) : Iv k s2 := by
  cases r with
  | none => cases he
  | some c =>
    unfold Ka.wcode at he
    injection he with he
    subst he
    exact h.code c (hr c rfl)
theorem Iv.dir {k : Nat} {s s2 : St} {n rest : Tx} (h : Iv k s) (he : dirF s n rest = some s2) : Iv k s2 := by
  unfold dirF at he
  split at he
  · refine h.wcode he (fun c hc => ?_)
    unfold spcF at hc
    split at hc
    · injection hc with hc; subst hc; simp
    · cases hc
  · split at he
    · cases he
    · exact h.wcode he (fun c hc => numsF_le _ _ _ _ hc)
theorem Iv.bod {k : Nat} {s s2 : St} {t : Tx} {line : Int} (h : Iv k s) (he : bodF s t line = some s2) (ht : Okt t) (hn : line ≠ 0) : Iv k s2 := by
  unfold bodF at he
  split at he
  · injection he with he; subst he; exact h
  · split at he
    · exact h.dir he
    · refine h.ins he ?_ hn
      split
      · exact ((ht.cut2 32).spl 44).1
      · intro t h; simp at h
theorem Iv.lab {k : Nat} {s s2 : St} {l : Tx} (h : Iv k s) (he : labF s l = some s2) (hc : s.code.length ≤ 65536) : Iv (k + 1) s2 := by
  unfold labF at he
  split at he
  · cases he
  · split at he
    · cases he
    · injection he with he
      subst he
      refine ⟨h.gc, by have := h.pc; simp; omega, ?_, h.gk⟩
      intro p hp
      rcases List.mem_cons.1 hp with rfl | hp
      · exact hc
      · exact h.pl p hp
theorem Iv.mono {k j : Nat} {s : St} (h : Iv k s) (hj : k ≤ j) : Iv j s := ⟨h.gc, Nat.le_trans h.pc hj, h.pl, h.gk⟩
theorem Iv.tak {k : Nat} {s s2 : St} {t : Tx} {line : Int} (h : Iv k s) (he : takF s t line = some s2) (ht : Okt t) (hc : s.code.length ≤ 65536) (hn : line ≠ 0) : Iv (k + 1) s2 := by
  unfold takF linF at he
  have h1 := (ht.cut1 59).trm
  split at he
  · cases hl : labF s (cutc 58 (trm (cutc 59 t).1)).1 with
    | none => rw [hl] at he; cases he
    | some s' =>
      rw [hl] at he
      exact (h.lab hl hc).bod he ((h1.cut2 58).trm) hn
  · exact (h.bod he h1 hn).mono (by omega)
theorem lk_mem {l : Tx} {n : Nat} : ∀ {pl : List (Tx × Nat)}, lk pl l = some n → ∃ p ∈ pl, p.2 = n
  | [], h => by cases h
  | p :: pl, h => by
    unfold lk at h
    split at h
    · injection h with h; exact ⟨p, List.mem_cons_self, h⟩
    · obtain ⟨q, hq, e⟩ := lk_mem h
      exact ⟨q, List.mem_cons_of_mem _ hq, e⟩
theorem filF_len {pl : List (Tx × Nat)} {c c' : List Int} {x : Gp} (h : filF pl c x = some c') (hx : Gk c.length x) : c'.length = c.length := by
  unfold filF at h
  split at h
  · cases h
  · split at h
    · cases h
    · injection h with h
      subst h
      have := hx.lt
      have := hx.le
      simp only [List.length_append, List.length_take, List.length_drop]
      omega

end Go.Proofs.YtppkpfkoggnbmaaGreatDoor.Cs.Ka

/- Contracts of package asm: Assemble. -/
namespace Go.Proofs.YtppkpfkoggnbmaaGreatDoor.Cs.Ka
open Go.RowKit Es Go.Maps Go.MapKept
open Ia (sb cst sb_size sb_get sb_append cst_get)
set_option linter.unusedVariables false
set_option linter.unusedSimpArgs false

theorem rg_at {w : World} {r n c : Nat} {xs : List Gp} (h : Rg w (.slice (some ⟨r, 0, none⟩) n c) xs) (k : Nat) (hk : k < xs.length) (j : Nat) (v : Value) (hj : (xs[k].cells)[j]? = some v) (hj2 : j < 11) :
    w.cell? ⟨r, k * 11 + j, none⟩ = some v := by
  rcases own_shape h with ⟨h, _⟩ | ⟨r', cap', e1, _, _, _, hc, _⟩
  · cases h
  · injection e1 with e1 _ _
    injection e1 with e1
    injection e1 with e1
    subst e1
    exact hc _ _ (by rw [cgs_get xs k j hk hj2]; exact hj)
theorem rg_some {w : World} {u : Value} {xs : List Gp} (h : Rg w u xs) (h0 : xs.length ≠ 0) : ∃ r c, u = .slice (some ⟨r, 0, none⟩) xs.length c ∧ r < w.heap.size := by
  rcases own_shape h with ⟨_, h1⟩ | ⟨r, cap, e, hr⟩
  · exact absurd h1 h0
  · refine ⟨r, cap, e, ?_⟩
    have := own_lo h r (by rw [e]; simp [Bl, Value.ownBlock])
    exact this
theorem Pg.new (W : World) (h13 : 13 ≤ W.heap.size) : Pg ((W.alloc (.map #[] 0)).alloc (.cells #[.slice none 0 0, .map (some W.heap.size), .slice none 0 0] 55)) (W.heap.size + 1) W.heap.size ⟨[], [], []⟩ (.slice none 0 0) (.slice none 0 0) (.map []) := by
  have hb := Es.Bk.new (W.alloc (.map #[] 0)) 55 [.slice none 0 0, .map (some W.heap.size), .slice none 0 0]
  have hz : ∀ k, ¬ Bl (.slice none 0 0) k := fun k h => by simp [Bl, Value.ownBlock] at h
  refine ⟨?_, R8.nil _, ⟨by simp [cgs], .inl ⟨rfl, rfl⟩⟩, ?_, by omega, hz _, hz _, hz _, hz _, fun k h => absurd h (hz k), Byt.nil, ?_⟩
  · simpa using hb
  · exact (Pm.made W).keep ((Es.al1 (W.alloc (.map #[] 0)) _).block _ (by simp))
  · intro k hk
    rcases hk with rfl | rfl | hk | hk
    · omega
    · exact h13
    · exact absurd hk (hz k)
    · exact absurd hk (hz k)

/-- what Assemble answers -/
def AsO (W : World) (p : List Int × Int × Int) (e : Ending) (w' : World) : Prop :=
  ∃ A c, e = .returned (.tuple #[.slice A p.1.length c, .int .i64 p.2.1, .int .i64 p.2.2]) ∧ By w' A p.1.length c p.1 ∧ Below W.heap.size W w'
theorem AsO.none {W w' : World} {n er : Int} (b : Below W.heap.size W w') : AsO W ([], n, er) (.returned (.tuple #[.slice none 0 0, .int .i64 n, .int .i64 er])) w' := ⟨_, _, rfl, (R8.nil w').by rfl Byt.nil, b⟩

theorem lns_cons (s : St) (n : Nat) (t : Tx) (ts : List Tx) : lnsF s n (t :: ts) = match takF s t (n + 1 : Nat) with
    | none => (s, n + 1)
    | some s' => if 65536 < s'.code.length then (s, n + 1) else lnsF s' (n + 1) ts := rfl
theorem gps_cons (pl : List (Tx × Nat)) (c : List Int) (x : Gp) (gs : List Gp) : gpsF pl c (x :: gs) = match filF pl c x with
    | none => ([], x.line)
    | some c' => gpsF pl c' gs := rfl

theorem asm_bad {ls : List Tx} {s : St} {n : Nat} (h : (s, n + 1) = lnsF ⟨[], [], []⟩ 0 ls) : asmL ls = ([], ((n + 1 : Nat) : Int)) := by
  unfold asmL
  rw [← h, if_neg (by simp)]
theorem asm_ok {ls : List Tx} {s : St} (h : (s, 0) = lnsF ⟨[], [], []⟩ 0 ls) : asmL ls = gpsF s.pl s.code s.gp := by
  unfold asmL
  rw [← h, if_pos rfl]
/-- a round over lines -/
structure Lx (W0 W2 : World) (B : Nat) (ls : List Tx) (k : Nat) (s : St) (vc vg : Value) (D : DataW Unit) (W : World) : Prop where
  pl : Pl W2 (B + 1) B (.slice none 0 0) (.slice none 0 0) s vc vg D W
  iv : Iv k s
  c : s.code.length ≤ 65536
  e : lnsF s k (ls.drop k) = lnsF ⟨[], [], []⟩ 0 ls
  row : Es.Bk W (B + 2) 9 (cst ls)

theorem Lx.ab {W0 W2 W : World} {ls : List Tx} {k : Nat} {s : St} {vc vg : Value} {D : DataW Unit} (h : Lx W0 W2 W0.heap.size ls k s vc vg D W) (hz : W2.heap.size = W0.heap.size + 3) : Ab W0.heap.size (Ft (W0.heap.size + 1) W0.heap.size vc vg) := by
  have h0 : Ab W0.heap.size (Ft (W0.heap.size + 1) W0.heap.size (.slice none 0 0) (.slice none 0 0)) := by
    intro k hk
    rcases hk with rfl | rfl | hk | hk
    · omega
    · omega
    · simp [Bl, Value.ownBlock] at hk
    · simp [Bl, Value.ownBlock] at hk
  exact h.pl.st.ab h0 (by omega)
theorem bel3 {W0 W2 W W' : World} {ls : List Tx} {k : Nat} {s : St} {vc vg : Value} {D : DataW Unit} (h : Lx W0 W2 W0.heap.size ls k s vc vg D W) (m : Mods (Ft (W0.heap.size + 1) W0.heap.size vc vg) W W') (b : Below W0.heap.size W0 W2) (hz : W2.heap.size = W0.heap.size + 3) : Below W0.heap.size W0 W' := by
  have hs := h.pl.st.mods.size
  have h0 : Ab W0.heap.size (Ft (W0.heap.size + 1) W0.heap.size (.slice none 0 0) (.slice none 0 0)) := by
    intro k hk
    rcases hk with rfl | rfl | hk | hk
    · omega
    · omega
    · simp [Bl, Value.ownBlock] at hk
    · simp [Bl, Value.ownBlock] at hk
  exact m.below (h.pl.st.below b h0 (by omega)) (h.ab hz) (by omega)
theorem Lx.row_out {W0 W2 W : World} {ls : List Tx} {k : Nat} {s : St} {vc vg : Value} {D : DataW Unit} (h : Lx W0 W2 W0.heap.size ls k s vc vg D W) (hz : W2.heap.size = W0.heap.size + 3) : ¬ Ft (W0.heap.size + 1) W0.heap.size vc vg (W0.heap.size + 2) := fun x => by
  rcases h.pl.st.grow _ x with y | y
  · rcases y with y | y | y | y
    · omega
    · omega
    · simp [Bl, Value.ownBlock] at y
    · simp [Bl, Value.ownBlock] at y
  · omega

/-- a round over gaps -/
structure Gx (W0 : World) (g m : Nat) (s : St) (vc vg : Value) (D : DataW Unit) (R : List Int × Int) (k : Nat) (c : List Int) (W : World) : Prop where
  pg : Pg W g m ⟨c, s.pl, s.gp⟩ vc vg D
  len : c.length = s.code.length
  e : gpsF s.pl c (s.gp.drop k) = R
  bel : Below W0.heap.size W0 W
  ge : W0.heap.size ≤ W.heap.size

set_option maxHeartbeats 6400000 in
set_option maxRecDepth 100000 in
theorem assemble_any (W : World) (t : Tx) (ht : Asc t) (hl : t.length ≤ 1000000) (h13 : 13 ≤ W.heap.size) (hg : Gt W) (hgl : Ia.Gl W) :
    Calls Tryz.prog 11 #[.string (sb t)] W (AsO W (asmF t)) := by
  have hsz := sb_size t
  by_cases hlen : 65536 < t.length
  · have HE : Hid (asmF t = ([], 0, 3)) := by show _ = _; unfold asmF; rw [if_pos hlen]
    go_enter Tryz.func11, Tryz.ntmps11
    go_wp2_with fail
    refine bodyPost_ret (v := .tuple #[.slice none 0 0, .int .i64 0, .int .i64 3]) (by simp [results, Tryz.results11, go_sem]) rfl ?_
    rw [HE.out]
    exact AsO.none (Below.refl _ _)
  · have hok : Okt t := ⟨ht, by omega⟩
    obtain ⟨hls, hln⟩ := hok.spl 10
    have HE : Hid (asmF t = ((asmL (spl 10 t)).1, (asmL (spl 10 t)).2, if (asmL (spl 10 t)).2 = 0 then 0 else 60)) := by show _ = _; unfold asmF; rw [if_neg hlen]
    have HS := Lib.hid (fun V h => split_any 10 t V hl h)
    have hb1 : Below W.heap.size W ((W.alloc (.map #[] 0)).alloc (.cells #[.slice none 0 0, .map (some W.heap.size), .slice none 0 0] 55)) := bel2 (Es.al1 _ _) (Es.al1 _ _)
    have HG1 := Lib.hid (hg.below hb1)
    have HP := Lib.hid (Pg.new W h13)
    have HLs := Lib.hid hls
    generalize asmF t = res at *
    generalize spl 10 t = ls at *
    clear hls
    have hmm := @run_makeMap Tryz.prog
    go_enter Tryz.func11, Tryz.ntmps11
    go_wp2_with (first | (go_at_call 20; with_reducible refine (HS.out _ HG1.out).mono ?_; rintro e w1 ⟨rfl, rfl⟩) | fail)
    clear hmm HS
    have hb2 : Below W.heap.size W (((W.alloc (.map #[] 0)).alloc (.cells #[.slice none 0 0, .map (some W.heap.size), .slice none 0 0] 55)).alloc (.cells (cst ls).toArray 9)) := bel2 hb1 (Es.al1 _ _)
    have HX : Hid (Lx W (((W.alloc (.map #[] 0)).alloc (.cells #[.slice none 0 0, .map (some W.heap.size), .slice none 0 0] 55)).alloc (.cells (cst ls).toArray 9)) W.heap.size ls 0 ⟨[], [], []⟩ (.slice none 0 0) (.slice none 0 0) (.map []) (((W.alloc (.map #[] 0)).alloc (.cells #[.slice none 0 0, .map (some W.heap.size), .slice none 0 0] 55)).alloc (.cells (cst ls).toArray 9))) := by
      refine ⟨⟨HP.out.below (Es.al1 _ _), Step.of_below (Below.refl _ _)⟩, Iv.nil, by simp, rfl, ?_⟩
      have := Es.Bk.new (((W.alloc (.map #[] 0)).alloc (.cells #[.slice none 0 0, .map (some W.heap.size), .slice none 0 0] 55))) 9 (cst ls)
      simpa using this
    have HG2 := Lib.hid (HG1.out.below (Es.al1 _ (.cells (cst ls).toArray 9)))
    have HGL2 := Lib.hid (hgl.below hb2)
    have HB2 := Lib.hid hb2
    have HPz := Lib.hid HX.out.pl.pg
    have hz : (((W.alloc (.map #[] 0)).alloc (.cells #[.slice none 0 0, .map (some W.heap.size), .slice none 0 0] 55)).alloc (.cells (cst ls).toArray 9)).heap.size = W.heap.size + 3 := by simp
    have HZ := Lib.hid hz
    clear hb1 hb2 hz HP HG1 hg hgl
    generalize (((W.alloc (.map #[] 0)).alloc (.cells #[.slice none 0 0, .map (some W.heap.size), .slice none 0 0] 55)).alloc (.cells (cst ls).toArray 9)) = W2 at *
    go_loopw [18] (fun i wr => ∃ (k : Nat) (s : St) (vc vg : Value) (D : DataW Unit), k ≤ ls.length ∧ i = .int .i64 k ∧ Lx W W2 W.heap.size ls k s vc vg D wr) (fun i _ => ls.length - (intOf i).toNat)
    case atStart => exact ⟨0, _, _, _, _, Nat.zero_le _, rfl, HX.out⟩
    case round =>
      clear HX
      obtain ⟨k, s, vc, vg, D, hk, rfl, hX⟩ := hrel
      by_cases hlt : k < ls.length
      · have hd : ls.drop k = ls.getD k [] :: ls.drop (k + 1) := by rw [List.drop_eq_getElem_cons hlt]; simp [List.getD, hlt]
        have hR := hX.e
        rw [hd, lns_cons] at hR
        have hline := hX.row.cell k _ (cst_get ls k hlt)
        have hrl := hX.row.lt
        have hok2 := HLs.out (ls.getD k []) (by simp [List.getD, hlt])
        have HTk := Lib.hid (take_any wr (W.heap.size + 1) W.heap.size s vc vg D (ls.getD k []) ((k + 1 : Nat) : Int) hX.pl.pg hok2 (by have := hX.c; omega) (by have := hX.c; have := hX.iv.gc; omega) (by have := hX.iv.pc; omega) (hX.pl.gt HPz.out HG2.out) (hX.pl.gl HPz.out HGL2.out))
        have HX := Lib.hid hX
        have HR := Lib.hid hR
        have HIv := Lib.hid (fun s' (h : takF s (ls.getD k []) ((k + 1 : Nat) : Int) = some s') => hX.iv.tak h hok2 hX.c (by omega))
        clear hX hR hok2 hd
        generalize ls.getD k [] = t1 at *
        cases hc : takF s t1 ((k + 1 : Nat) : Int) with
        | none =>
          rw [hc] at HTk HR
          simp only at HR
          clear hc HIv
          go_wp2_with (first | (go_at_call 21; refine HTk.out.mono ?_; intro e w3 hr; obtain ⟨rfl, hM⟩ := hr; have HM := Lib.hid hM; clear hM) | fail)
          refine bodyPost_ret (v := .tuple #[.slice none 0 0, .int .i64 ((k + 1 : Nat) : Int), .int .i64 60]) (by simp [results, Tryz.results11, go_sem]) rfl ?_
          rw [HE.out, asm_bad HR.out, if_neg (by omega)]
          exact AsO.none (bel3 HX.out HM.out HB2.out HZ.out)
        | some s' =>
          rw [hc] at HTk HR
          simp only at HR
          have HI := Lib.hid (HIv.out s' hc)
          clear hc HIv
          have hq : ∀ e w3, PgO wr (W.heap.size + 1) W.heap.size vc vg (some s') e w3 → e = .returned (.bool true) ∧ ∃ A c vg' D', Pg w3 (W.heap.size + 1) W.heap.size s' (.slice A s'.code.length c) vg' D' ∧ Step (Ft (W.heap.size + 1) W.heap.size vc vg) (Ft (W.heap.size + 1) W.heap.size (.slice A s'.code.length c) vg') wr w3 := by
            intro e w3 h
            obtain ⟨h1, vc', vg', D', h2, h3⟩ := h
            obtain ⟨A, c, rfl⟩ := h2.code.shape
            exact ⟨h1, A, c, vg', D', h2, h3⟩
          have HQ := Lib.hid hq
          clear hq
          by_cases h6 : 65536 < s'.code.length
          · rw [if_pos h6] at HR
            go_wp2_with (first | (go_at_call 21; refine HTk.out.mono ?_; intro e w3 hr; obtain ⟨rfl, A1, c1, vg', D', hP3, hS3⟩ := HQ.out _ _ hr; obtain ⟨q0, q1, q2, qf, ql⟩ := hP3.cells; have HP3 := Lib.hid hP3; have HS3 := Lib.hid hS3; clear hr hP3 hS3) | fail)
            refine bodyPost_ret (v := .tuple #[.slice none 0 0, .int .i64 ((k + 1 : Nat) : Int), .int .i64 60]) (by simp [results, Tryz.results11, go_sem]) rfl ?_
            rw [HE.out, asm_bad HR.out, if_neg (by omega)]
            exact AsO.none (bel3 HX.out HS3.out.mods HB2.out HZ.out)
          · rw [if_neg h6] at HR
            go_wp2_with (first | (go_at_call 21; refine HTk.out.mono ?_; intro e w3 hr; obtain ⟨rfl, A1, c1, vg', D', hP3, hS3⟩ := HQ.out _ _ hr; obtain ⟨q0, q1, q2, qf, ql⟩ := hP3.cells; have HP3 := Lib.hid hP3; have HS3 := Lib.hid hS3; clear hr hP3 hS3) | fail)
            go_roundw
            case rel => exact ⟨k + 1, s', _, _, _, by omega, by go_num, ⟨⟨HP3.out, HX.out.pl.st.trans HS3.out⟩, HI.out, by omega, HR.out, HX.out.row.mods HS3.out.mods (HX.out.row_out HZ.out)⟩⟩
            case measure => first | (simp [intOf]; done) | (simp [intOf]; omega)
      · have e1 : ls.drop k = [] := List.drop_eq_nil_of_le (by omega)
        have hR := hX.e
        rw [e1] at hR
        have hR : (s, 0) = lnsF ⟨[], [], []⟩ 0 ls := hR
        have HE2 : Hid (res = ((gpsF s.pl s.code s.gp).1, (gpsF s.pl s.code s.gp).2, if (gpsF s.pl s.code s.gp).2 = 0 then 0 else 60)) := by show _ = _; rw [HE.out, asm_ok hR]
        have hbw : Below W.heap.size W wr := bel3 hX (Mods.refl _ _) HB2.out HZ.out
        have hge : W.heap.size ≤ wr.heap.size := hbw.size
        have HAb := Lib.hid (hX.ab HZ.out)
        have HIv := Lib.hid hX.iv
        have HGx : Hid (Gx W (W.heap.size + 1) W.heap.size s vc vg D (gpsF s.pl s.code s.gp) 0 s.code wr) := ⟨hX.pl.pg, rfl, rfl, hbw, hge⟩
        have hcl := hX.c
        have hgc : s.gp.length ≤ 65536 := Nat.le_trans hX.iv.gc hcl
        clear hX hR e1 HE hbw hge HPz HG2 HGL2 HLs HB2
        generalize gpsF s.pl s.code s.gp = R at *
        obtain ⟨R1, R2⟩ := R
        simp only at HE2
        obtain ⟨y0, y1, y2, yf, yl⟩ := HGx.out.pg.cells
        obtain ⟨A4, c4, hsh4⟩ := rg_slice HGx.out.pg.gaps
        simp only at hsh4
        subst hsh4
        obtain ⟨A0, c0, hsh⟩ := HGx.out.pg.code.shape
        simp only at hsh
        subst hsh
        go_wp2_with fail
        go_loopw [40] (fun i wr => ∃ (k : Nat) (c : List Int), k ≤ s.gp.length ∧ i = .int .i64 k ∧ Gx W (W.heap.size + 1) W.heap.size s (.slice A0 s.code.length c0) (.slice A4 s.gp.length c4) D (R1, R2) k c wr) (fun i _ => s.gp.length - (intOf i).toNat)
        case atStart => exact ⟨0, _, Nat.zero_le _, rfl, HGx.out⟩
        case round =>
          clear HGx y0 y1 y2 yf yl hlt hk hR
          obtain ⟨k, c, hk, rfl, hX⟩ := hrel
          by_cases hlt : k < s.gp.length
          · have hgk := HIv.out.gk _ (List.getElem_mem hlt)
            have hR := hX.e
            rw [List.drop_eq_getElem_cons hlt, gps_cons] at hR
            obtain ⟨r4, c4', hr4, hr4l⟩ := rg_some hX.pg.gaps (by simp only; omega)
            simp only [Value.slice.injEq, true_and] at hr4
            obtain ⟨hr4, hr4c⟩ := hr4
            subst hr4
            subst hr4c
            have hcell := fun j v => rg_at hX.pg.gaps k hlt j v
            have hlkb : ∀ l n, lk s.pl l = some n → n ≤ 1000000 := fun l n h => by
              obtain ⟨p, hp, rfl⟩ := lk_mem h
              have := HIv.out.pl p hp
              omega
            have HCell := Lib.hid hcell
            clear hcell
            simp only at HCell
            generalize s.gp[k] = x at *
            obtain ⟨line, a0, be, ⟨⟨d1, d2, d3, d4, d5⟩, l⟩, a, z⟩ := x
            obtain ⟨g1, g2, g3, g4, g5, g6⟩ := hgk
            simp only at g1 g2 g3 g4 g5 g6
            have k0 := HCell.out 0 _ rfl (by omega)
            have k1 := HCell.out 1 _ rfl (by omega)
            have k2 := HCell.out 2 _ rfl (by omega)
            have k3 := HCell.out 3 _ rfl (by omega)
            have k4 := HCell.out 4 _ rfl (by omega)
            have k5 := HCell.out 5 _ rfl (by omega)
            have k6 := HCell.out 6 _ rfl (by omega)
            have k7 := HCell.out 7 _ rfl (by omega)
            have k8 := HCell.out 8 _ rfl (by omega)
            have k9 := HCell.out 9 _ rfl (by omega)
            have k10 := HCell.out 10 _ rfl (by omega)
            simp only [Nat.add_zero] at k0
            clear HCell
            have hbx := Es.al1 wr (.cells (Gp.cells ⟨line, a0, be, ⟨⟨d1, d2, d3, d4, d5⟩, l⟩, a, z⟩).toArray 62)
            have hnew := Es.Bk.new wr 62 (Gp.cells ⟨line, a0, be, ⟨⟨d1, d2, d3, d4, d5⟩, l⟩, a, z⟩)
            have hfr : ¬ Ft (W.heap.size + 1) W.heap.size (.slice A0 s.code.length c0) (.slice (some ⟨r4, 0, none⟩) s.gp.length c4) wr.heap.size := fun x => by have := ft_lo hX.pg _ x; omega
            have hlen := hX.len
            have HF := Lib.hid (fill_any (wr.alloc (.cells (Gp.cells ⟨line, a0, be, ⟨⟨d1, d2, d3, d4, d5⟩, l⟩, a, z⟩).toArray 62)) (W.heap.size + 1) W.heap.size ⟨c, s.pl, s.gp⟩ _ _ D ⟨line, a0, be, ⟨⟨d1, d2, d3, d4, d5⟩, l⟩, a, z⟩ (hX.pg.below hbx) (by simp only; omega) (by simp only; omega) g1 (by simp only; omega) (fun n h => hlkb _ n h) g4 g5 (fun v b _ h => enc_byt h))
            have HFl := Lib.hid (fun c2 (h : filF s.pl c ⟨line, a0, be, ⟨⟨d1, d2, d3, d4, d5⟩, l⟩, a, z⟩ = some c2) => filF_len h ⟨g1, by simp only; omega, g3, g4, g5, g6⟩)
            have HN := Lib.hid hnew
            have HGx := Lib.hid hX
            have HFr := Lib.hid hfr
            have hbw : Below W.heap.size W (wr.alloc (.cells (Gp.cells ⟨line, a0, be, ⟨⟨d1, d2, d3, d4, d5⟩, l⟩, a, z⟩).toArray 62)) := bel_trans hX.bel hbx hX.ge
            have HBW := Lib.hid hbw
            have HGe := Lib.hid hX.ge
            simp only at HFl HF
            simp only [Gp.val, Gp.cells] at HF HN HBW
            obtain ⟨q0, q1, q2, qf, ql⟩ := hX.pg.cells
            clear hX hnew hfr hbx hlkb hbw g1 g2 g3 g4 g5 hlen
            cases hf : filF s.pl c ⟨line, a0, be, ⟨⟨d1, d2, d3, d4, d5⟩, l⟩, a, z⟩ with
            | none =>
              rw [hf] at HF hR
              simp only at hR
              go_upto_region 14 with (first | (go_at_call 22; refine HF.out.mono ?_; intro e w4 hr; obtain ⟨rfl, hM⟩ := hr; have hn4 := HN.out.mods hM HFr.out; have z0 := hn4.cell 0 _ rfl; have HM := Lib.hid hM; clear hM hn4) | fail)
              go_region
              all_goals go_wp2_with fail
              refine bodyPost_ret (v := .tuple #[.slice none 0 0, .int .i64 line, .int .i64 60]) (by simp [results, Tryz.results11, go_sem]) rfl ?_
              obtain ⟨rfl, rfl⟩ := Prod.mk.inj hR
              rw [HE2.out, if_neg g6]
              exact AsO.none (HM.out.drew.below HBW.out HAb.out (by have := HGe.out; simp; omega))
            | some c2 =>
              rw [hf] at HF hR
              simp only at hR
              have HRn := Lib.hid hR
              have hc2 := HFl.out c2 hf
              have HC2 := Lib.hid hc2
              clear hR hf hc2 HFl
              go_wp2_with (first | (go_at_call 22; refine HF.out.mono ?_; intro e w4 hr; obtain ⟨rfl, hP4, hM⟩ := hr; have HM := Lib.hid hM; have HP4 := Lib.hid hP4; clear hM hP4) | fail)
              go_roundw
              case rel =>
                exact ⟨k + 1, c2, by omega, by go_num, ⟨HP4.out, HC2.out.trans HGx.out.len, HRn.out, HM.out.below HBW.out HAb.out (by have := HGe.out; simp; omega), Nat.le_trans HBW.out.size HM.out.size⟩⟩
              case measure => first | (simp [intOf]; done) | (simp [intOf]; omega)
          · have e1 : s.gp.drop k = [] := List.drop_eq_nil_of_le (by omega)
            have hR := hX.e
            rw [e1] at hR
            have hR : (c, 0) = (R1, R2) := hR
            obtain ⟨rfl, rfl⟩ := Prod.mk.inj hR
            obtain ⟨q0, q1, q2, qf, ql⟩ := hX.pg.cells
            have HGx := Lib.hid hX
            clear hX
            go_wp2_with fail
            refine bodyPost_ret (v := .tuple #[.slice A0 s.code.length c0, .int .i64 0, .int .i64 0]) (by simp [results, Tryz.results11, go_sem]) rfl ?_
            rw [HE2.out]
            first | rw [if_pos rfl] | rw [if_pos trivial]
            exact ⟨A0, c0, by rw [HGx.out.len], by have := HGx.out.pg.code; show By wr A0 c.length c0 c; rw [HGx.out.len]; exact this.by HGx.out.len HGx.out.pg.byt, HGx.out.bel⟩

end Go.Proofs.YtppkpfkoggnbmaaGreatDoor.Cs.Ka
