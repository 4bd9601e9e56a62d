/- Contracts: a step in which a line is above the level; one in which something is raised. -/
import Derived.Test.YteohkobdmkbcpaaGreatDoorXHnd
namespace Go.Proofs.YteohkobdmkbcpaaGreatDoor.Cs
open Go.RowKit
set_option linter.unusedVariables false
set_option linter.unusedSimpArgs false

theorem line_any (l : Int) (h0 : 0 ≤ l) (h1 : l < 32) (w : World) : Calls Tryz.prog 32 #[.int .i64 l] w fun e w' => ∃ b, e = .returned (.pointer (some ⟨b, 0, none⟩)) ∧ Rb w' b ⟨256 + 4 * l, [], false⟩ ∧ Below w.heap.size w w' := by
  have key : ∀ (W : World) b, W.heap[b]? = some (.cells #[.int .i64 (256 + 4 * l), .slice none 0 0, .bool false] 80 (0, 0)) → Rb W b ⟨256 + 4 * l, [], false⟩ := fun W b h => ⟨none, 0, h, .inl rfl⟩
  have HKey := Lib.hid key
  clear key
  go_enter Tryz.func32, Tryz.ntmps32
  go_wp2
  go_ret
  exact ⟨w.heap.size, rfl, HKey.out _ _ (heap_alloc_new _ _), by go_grown⟩

section
variable {w0 : World} {a : Ad} {S0 : Nat → Prop} {c : Mc}
theorem lvl_bd (p l : Int) (hl : U l) : lvl p l < 32 := by
  have := blen_bound l hl
  unfold lvl
  split <;> omega
set_option maxHeartbeats 2000000 in
set_option maxRecDepth 100000 in
theorem step_line (w : World) (h : Ch w0 a S0 c w) (l lv : Int) (hl : U l) (h0 : c.ha = 0) (hv : lvl c.e.p l = lv) (hp : 0 < lv) :
    Calls Tryz.prog 13 #[.pointer (some ⟨a.g, 0, none⟩), .int .u32 l] w fun e w' => e = .returned (.tuple #[.int .i64 (256 + 4 * lv), .int .i64 0]) ∧ Ch w0 a S0 (c.hnd ⟨256 + 4 * lv, [], false⟩ lv) w' ∧ Mv a w w' := by
  have H := Lib.hid h
  have HLv := Lib.hid (fun W => level_any c.e.p l h.eok.p hl W)
  rw [hv] at HLv
  have hlt : lv < 32 := hv ▸ lvl_bd c.e.p l hl
  have HLn := Lib.hid (line_any lv (by omega) hlt)
  have HHn : Hid (∀ W b, Ch w0 a S0 c W → Rb W b ⟨256 + 4 * lv, [], false⟩ → Calls Tryz.prog 31 #[.pointer (some ⟨a.g, 0, none⟩), .pointer (some ⟨b, 0, none⟩), .int .i64 lv] W fun e w' => e = .returned (.int .i64 (256 + 4 * lv)) ∧ Ch w0 a S0 (c.hnd ⟨256 + 4 * lv, [], false⟩ lv) w' ∧ Mv a W w') := Lib.hid fun W b hW hb =>
    handle_any W hW b ⟨256 + 4 * lv, [], false⟩ hb (by simp) (fun k => by simp [Pt.U]) ⟨by simp; omega, by simp; omega⟩ lv
  have c2 := h.c2
  have c4 := h.c4
  rw [h0] at c4
  clear h hl h0 hv
  go_enter Tryz.func13, Tryz.ntmps13
  go_wp2_with (first
    | (go_at_call 30; refine (fpsl _ H.out).mono ?_; rintro e w1 ⟨rfl, rfl⟩)
    | (go_at_call 21; refine (HLv.out _).mono ?_; rintro e w1 ⟨rfl, rfl⟩)
    | (go_at_call 32; refine (HLn.out _).mono ?_; rintro e w2 ⟨b, rfl, hb, hB⟩; have HR := Lib.hid hb; have H2 := Lib.hid (H.out.below hB); have M2 := Lib.hid (Mv.of_below (a := a) hB); clear hb hB)
    | (go_at_call 31; refine (HHn.out _ _ H2.out HR.out).mono ?_; rintro e w3 ⟨rfl, h3, m3⟩; have H3 := Lib.hid h3; have M3 := Lib.hid m3; clear h3 m3)
    | fail)
  exact bodyPost_ret (v := .tuple #[.int .i64 (256 + 4 * lv), .int .i64 0]) (by simp [results, Tryz.results13, go_sem]) rfl ⟨rfl, H3.out, M2.out.trans M3.out⟩

theorem Rb.c2 {w : World} {b : Nat} {z : Rz} (h : Rb w b z) : w.cell? ⟨b, 2, none⟩ = some (.bool z.b) := by
  obtain ⟨A, cp, h1, _⟩ := h.ex
  rw [cell_of_row w b 2 _ _ _ h1]; rfl
set_option maxHeartbeats 4000000 in
set_option maxRecDepth 100000 in
theorem step_no (F G : Mc → Dg → Option Rz × Mc) (w : World) (h : Ch w0 a S0 c w) (l : Int) (hl : U l) (h0 : c.ha = 0) (hv : lvl c.e.p l = 0) (c' : Mc) (z : Rz) (hi : c.inst F G = (some z, c')) (hzl : z.l.length ≤ 2) (hzu : ∀ k, U (z.l.getD k 0)) (hzv : 0 ≤ z.v ∧ z.v < 1000)
    (hF : ∀ x c', c.fet = (x, none, c') → (Tl.Ia.prg x).2 = true → c'.fp = false → Way 63 F (· = (Tl.Ia.prg x).1))
    (hG : ∀ x c', c.fet = (x, none, c') → (Tl.Ia.prg x).2 = true → c'.fp = true → c'.lts (Tl.Ia.prg x).1.cls = true → WayG 61 G (· = (Tl.Ia.prg x).1)) :
    Calls Tryz.prog 13 #[.pointer (some ⟨a.g, 0, none⟩), .int .u32 l] w fun e w' => e = .returned (.tuple #[.int .i64 z.v, .int .i64 0]) ∧
      Ch w0 a S0 (if z.b then c'.hnd z (Ps.ip c'.e.p) else (Mc.hnd ⟨c.e, c.t, c.sc, c.ha, c'.xs⟩ z (Ps.ip c.e.p))) w' ∧ Mv a w w' := by
  have H := Lib.hid h
  have HI : Hid (∀ W, Ch w0 a S0 c W → Calls Tryz.prog 33 #[.pointer (some ⟨a.g, 0, none⟩)] W fun e w' => (∃ b, e = .returned (.pointer (some ⟨b, 0, none⟩)) ∧ Rb w' b z) ∧ Ch w0 a S0 c' w' ∧ Mv a W w') := Lib.hid fun W hW => by
    refine (inst_any F G W hW hF hG).mono ?_
    rintro e w' ⟨v, rfl, h1, h2, h3⟩
    rw [hi] at h1 h2
    obtain ⟨b, rfl, _, hb⟩ := h1
    exact ⟨⟨b, rfl, hb⟩, h2, h3⟩
  have hok := h.eok
  have htk := h.tok
  have hsu := h.scU
  have HHn : Hid (∀ W b n, Ch w0 a S0 n W → Rb W b z → Calls Tryz.prog 31 #[.pointer (some ⟨a.g, 0, none⟩), .pointer (some ⟨b, 0, none⟩), .int .i64 (Ps.ip n.e.p)] W fun e w' => e = .returned (.int .i64 z.v) ∧ Ch w0 a S0 (n.hnd z (Ps.ip n.e.p)) w' ∧ Mv a W w') := Lib.hid fun W b n hW hb =>
    handle_any W hW b z hb hzl hzu hzv _
  have HLd : Hid (∀ W, Ch w0 a S0 c' W → Calls Tryz.prog 23 #[.pointer (some ⟨a.g, 0, none⟩), c.val] W fun e w' => e = .returned (.tuple #[]) ∧ Ch w0 a S0 ⟨c.e, c.t, c.sc, c.ha, c'.xs⟩ w' ∧ Mv a W w') := Lib.hid fun W hW => aload_any W hW c hok htk hsu
  have HLv := Lib.hid (fun W => level_any c.e.p l h.eok.p hl W)
  rw [hv] at HLv
  have c2 := h.c2
  have c4 := h.c4
  rw [h0] at c4
  obtain ⟨cs, hcs⟩ : ∃ cs, c.e.cells c.xs7.l = cs := ⟨_, rfl⟩
  have hV : c.val = .agg cs.toArray := by rw [Mc.val, Hr.sv, hcs]
  rw [hV] at HLd
  have HSt : Hid (∀ W, Ch w0 a S0 c W → Calls Tryz.prog 12 #[.pointer (some ⟨a.g, 0, none⟩)] W fun e w' => e = .returned (.agg cs.toArray) ∧ Below W.heap.size W w') := Lib.hid fun W hW => by
    rw [← hV]; exact state_any W hW
  have hl26 : cs.length = 26 := by rw [← hcs, Hr.Re.length h.eok]; rfl
  have ho : ∀ v ∈ cs, v.oneCell' = true := by rw [← hcs]; exact Hr.one_cells c.xs7.one
  have hi6 : (Tryz.prog.info? 28).map (·.size) = some cs.length := by rw [hl26, Hr.st_size]
  clear h hl h0 hv hi hF hG hcs hV hok htk hsu
  go_enter Tryz.func13, Tryz.ntmps13
  go_upto_region 8 with (first
    | (go_at_call 30; refine (fpsl _ H.out).mono ?_; rintro e w1 ⟨rfl, rfl⟩)
    | (go_at_call 21; refine (HLv.out _).mono ?_; rintro e w1 ⟨rfl, rfl⟩)
    | fail)
  go_wp2_with fail
  refine (HSt.out _ H.out).mono ?_
  rintro e w1 ⟨rfl, hb1⟩
  have HC1 := Lib.hid (nx_below H.out hb1)
  have hle := hb1.size
  clear hb1
  have HO := Lib.hid (all_oneCell_toArray ho)
  have HBN : Hid (Hr.Bk (w1.alloc (.cells #[Value.int .u32 0, Value.int .u32 0, Value.int .u32 0, Value.int .u32 0, Value.int .u32 0, Value.int .u32 0, Value.int .u32 0, Value.int .u32 0, Value.int .u32 0, Value.int .u32 0, Value.int .u32 0, Value.int .u32 0, Value.int .u32 0, Value.int .u32 0, Value.int .u32 0, Value.int .u32 0, Value.int .u32 0, Value.int .u32 0, Value.int .u32 0, Value.int .u32 0, Value.int .u32 0, Value.int .u32 0, Value.int .u32 0, Value.int .u32 0, Value.int .u32 0, Value.int .i64 0] 28)) w1.heap.size 28 [Value.int .u32 0, Value.int .u32 0, Value.int .u32 0, Value.int .u32 0, Value.int .u32 0, Value.int .u32 0, Value.int .u32 0, Value.int .u32 0, Value.int .u32 0, Value.int .u32 0, Value.int .u32 0, Value.int .u32 0, Value.int .u32 0, Value.int .u32 0, Value.int .u32 0, Value.int .u32 0, Value.int .u32 0, Value.int .u32 0, Value.int .u32 0, Value.int .u32 0, Value.int .u32 0, Value.int .u32 0, Value.int .u32 0, Value.int .u32 0, Value.int .u32 0, Value.int .i64 0]) := Lib.hid (Hr.Bk.new _ _ _)
  have HT : Hid ((w1.alloc (.cells #[Value.int .u32 0, Value.int .u32 0, Value.int .u32 0, Value.int .u32 0, Value.int .u32 0, Value.int .u32 0, Value.int .u32 0, Value.int .u32 0, Value.int .u32 0, Value.int .u32 0, Value.int .u32 0, Value.int .u32 0, Value.int .u32 0, Value.int .u32 0, Value.int .u32 0, Value.int .u32 0, Value.int .u32 0, Value.int .u32 0, Value.int .u32 0, Value.int .u32 0, Value.int .u32 0, Value.int .u32 0, Value.int .u32 0, Value.int .u32 0, Value.int .u32 0, Value.int .i64 0] 28)).there w1.heap.size 0 cs.toArray.size) := Lib.hid (HBN.out.there 0 _ (by simp [hl26]))
  have HI6 : Hid ((Tryz.prog.info? 28).map (·.size) = some cs.toArray.size) := Lib.hid (by simpa using hi6)
  have hB : Below w1.heap.size w1 (w1.alloc (.cells #[Value.int .u32 0, Value.int .u32 0, Value.int .u32 0, Value.int .u32 0, Value.int .u32 0, Value.int .u32 0, Value.int .u32 0, Value.int .u32 0, Value.int .u32 0, Value.int .u32 0, Value.int .u32 0, Value.int .u32 0, Value.int .u32 0, Value.int .u32 0, Value.int .u32 0, Value.int .u32 0, Value.int .u32 0, Value.int .u32 0, Value.int .u32 0, Value.int .u32 0, Value.int .u32 0, Value.int .u32 0, Value.int .u32 0, Value.int .u32 0, Value.int .u32 0, Value.int .i64 0] 28)) := by go_grown
  have K2 := Lib.hid (nx_trans HC1.out.2 (nx_below HC1.out.1 hB))
  have HI7 := Lib.hid hi6
  clear hB hi6 ho HC1 HSt HLv
  go_upto_region 9 with (first
    | (refine wpList_store_mid rfl 28 _ _ rfl w1.heap.size 0 cs.toArray rfl rfl HT.out HI6.out HO.out ?_; generalize w1.alloc (.cells #[Value.int .u32 0, Value.int .u32 0, Value.int .u32 0, Value.int .u32 0, Value.int .u32 0, Value.int .u32 0, Value.int .u32 0, Value.int .u32 0, Value.int .u32 0, Value.int .u32 0, Value.int .u32 0, Value.int .u32 0, Value.int .u32 0, Value.int .u32 0, Value.int .u32 0, Value.int .u32 0, Value.int .u32 0, Value.int .u32 0, Value.int .u32 0, Value.int .u32 0, Value.int .u32 0, Value.int .u32 0, Value.int .u32 0, Value.int .u32 0, Value.int .u32 0, Value.int .i64 0] 28) = W at *)
    | fail)
  have hw1 := K2.out.2.size
  have hms := Hr.mods_setCells (Hr.One w1.heap.size) cs 0 (Tl.Mods.refl (Hr.One w1.heap.size) W) (.inl rfl)
  have hc3 := K2.out.1.own hms H.out hle ⟨_, ⟨_, _, HBN.out⟩, by simp [Mty], by decide⟩
  have hm3 := K2.out.2.own hms hle
  have HC3 := Lib.hid hc3
  have HBS : Hid (Hr.Bk (W.setCells w1.heap.size 0 cs) w1.heap.size 28 cs) := Lib.hid (by
    rcases Hr.Bk.setCells cs 0 HBN.out with k | k
    · have e : ∀ (l : List Value), l.length = 26 → l.take 0 ++ cs ++ l.drop (0 + cs.length) = cs := fun l hl => by rw [List.drop_eq_nil_of_le (by omega)]; simp
      rw [e _ (by simp)] at k
      exact k
    · simp [hl26] at k)
  have hi6' := HI6.out
  have HM3 := Lib.hid hm3
  clear hms hc3 hm3 HBN HT K2 HO HI6
  generalize W.setCells w1.heap.size 0 cs = W3 at *
  cases hzb : z.b
  · go_wp2_with (first
      | (go_at_call 33; refine (HI.out _ HC3.out).mono ?_; rintro e w4 ⟨⟨b, rfl, hb4⟩, h4, m4⟩; have H4 := Lib.hid h4; have M4 := Lib.hid (HM3.out.trans m4); have HR4 := Lib.hid hb4; have rb2 := hb4.c2; rw [hzb] at rb2; have HB4 : Hid (Hr.Bk w4 w1.heap.size 28 cs) := Lib.hid ((m4.keep _ _ (HC3.out.r_ne ⟨_, _, HBS.out⟩ (by decide)) (not_mty (by simp)) ⟨_, _, HBS.out⟩).trans HBS.out); clear h4 m4 hb4)
      | (refine wpList_load_mid rfl 28 _ rfl w1.heap.size 0 rfl cs _ (HB4.out.range 0 _ (by simp)) Tryz.underlying28 rfl HI7.out ?_)
      | (go_at_call 23; refine (HLd.out _ H4.out).mono ?_; rintro e w5 ⟨rfl, h5, m5⟩; have H5 := Lib.hid h5; have M5 := Lib.hid (M4.out.trans m5); have HR5 := Lib.hid (HR4.out.mv H4.out m5); have c52 := h5.c2; clear h5 m5)
      | (go_at_call 30; refine (fpsl _ H5.out).mono ?_; rintro e w6 ⟨rfl, rfl⟩)
      | (go_at_call 34; refine (Ps.ipl_any _ H5.out.eok.p _).mono ?_; rintro e w7 ⟨rfl, rfl⟩)
      | (go_at_call 31; refine (HHn.out _ _ _ H5.out HR5.out).mono ?_; rintro e w8 ⟨rfl, h8, m8⟩; have H8 := Lib.hid h8; have M8 := Lib.hid (M5.out.trans m8); clear h8 m8)
      | fail)
    all_goals exact bodyPost_ret (v := .tuple #[.int .i64 z.v, .int .i64 0]) (by simp [results, Tryz.results13, go_sem]) rfl ⟨rfl, H8.out, M8.out⟩
  · go_wp2_with (first
      | (go_at_call 33; refine (HI.out _ HC3.out).mono ?_; rintro e w4 ⟨⟨b, rfl, hb4⟩, h4, m4⟩; have H4 := Lib.hid h4; have M4 := Lib.hid (HM3.out.trans m4); have HR4 := Lib.hid hb4; have rb2 := hb4.c2; rw [hzb] at rb2; have c42 := h4.c2; clear h4 m4 hb4)
      | (go_at_call 30; refine (fpsl _ H4.out).mono ?_; rintro e w6 ⟨rfl, rfl⟩)
      | (go_at_call 34; refine (Ps.ipl_any _ H4.out.eok.p _).mono ?_; rintro e w7 ⟨rfl, rfl⟩)
      | (go_at_call 31; refine (HHn.out _ _ _ H4.out HR4.out).mono ?_; rintro e w8 ⟨rfl, h8, m8⟩; have H8 := Lib.hid h8; have M8 := Lib.hid (M4.out.trans m8); clear h8 m8)
      | fail)
    all_goals exact bodyPost_ret (v := .tuple #[.int .i64 z.v, .int .i64 0]) (by simp [results, Tryz.results13, go_sem]) rfl ⟨rfl, H8.out, M8.out⟩
end
end Go.Proofs.YteohkobdmkbcpaaGreatDoor.Cs
