/- Contracts: where an operand is. -/
import Derived.Test.YteohkobdmkbcpaaGreatDoorXSpc
import Derived.Deep.QuietTactic
import Derived.BigQuiet
namespace Go.Proofs.YteohkobdmkbcpaaGreatDoor.Cs
open Go.RowKit
set_option linter.unusedVariables false
set_option linter.unusedSimpArgs false

theorem quiet_eq {P : Program} {f : FuncId} {args : Array Value} {w : World} {n : Nat} {v : Value}
    (h : Calls P f args (w.drewN n) fun e w' => e = .returned v ∧ w.drewN n = w') : Calls P f args (w.drewN n) fun e w'' => e = .returned v ∧ ∃ m, w'' = w.drewN m :=
  h.mono fun _ _ ⟨he, hm⟩ => ⟨he, n, hm.symm⟩

section
variable {w0 : World} {a : Ad} {S0 : Nat → Prop} {c : Mc}
/-- get, in one. -/
theorem get_any (w : World) (h : Ch w0 a S0 c w) (va z : Int) (hv : U va) : Calls Tryz.prog 79 #[.pointer (some ⟨a.g, 0, none⟩), .int .u32 va, .int .i64 z] w fun e w' =>
    ∃ v, e = .returned (.tuple #[.int .u32 (c.get va z).1, v]) ∧ Rp w w' (c.get va z).2 v ∧ Ch w0 a S0 c w' ∧ Mv a w w' := by
  rcases hq : c.get va z with ⟨x, _ | r⟩
  · refine (get_ok w h va z x hv hq).mono ?_
    rintro e w' ⟨rfl, h1, h2⟩
    exact ⟨_, rfl, rfl, h1, h2⟩
  · refine (get_no w h va z x r hv hq).mono ?_
    rintro e w' ⟨b, rfl, hb, hr, h1, h2⟩
    exact ⟨_, rfl, ⟨b, rfl, hb, hr⟩, h1, h2⟩

set_option maxHeartbeats 2000000 in
set_option maxRecDepth 100000 in
theorem base_any (w : World) (h : Ch w0 a S0 c w) (k r i x n z : Int) (hx : U x) (hz : U z) : Calls Tryz.prog 160 #[.pointer (some ⟨a.g, 0, none⟩), .agg #[.int .i64 k, .int .i64 r, .int .i64 i, .int .u32 x, .int .i64 n], .int .u32 z] w fun e w' =>
    ∃ v, e = .returned (.tuple #[.int .u32 (c.bas ⟨k, r, i, x, n⟩ z).1, v]) ∧ Rp w w' (c.bas ⟨k, r, i, x, n⟩ z).2.1 v ∧ Ch w0 a S0 (c.bas ⟨k, r, i, x, n⟩ z).2.2 w' ∧ Mv a w w' := by
  have H := Lib.hid h
  have hq := gr_U h.eok r
  have HQ := Lib.hid hq
  generalize hc : c.bas ⟨k, r, i, x, n⟩ z = o
  have HA : Hid (∀ W d, Ch w0 a S0 c W → U d → Calls Tryz.prog 80 #[.pointer (some ⟨a.g, 0, none⟩), .int .i64 r, .int .u32 d] W fun e w' => e = .returned (.tuple #[]) ∧ Ch w0 a S0 (c.add r d) w' ∧ Mv a W w') := Lib.hid fun W d hW hd => add_any W hW r d hd
  clear h hq
  go_enter Tryz.func160, Tryz.ntmps160
  go_wp2_with fail
  have B0 := Lib.hid (show Below w.heap.size w (w.alloc (.cells #[.int .i64 k, .int .i64 r, .int .i64 i, .int .u32 x, .int .i64 n] 151)) by go_grown)
  have K := Lib.hid (nx_below H.out B0.out)
  have d2 := K.out.1.c2
  have hb0 : (w.alloc (.cells #[.int .i64 k, .int .i64 r, .int .i64 i, .int .u32 x, .int .i64 n] 151)).heap[w.heap.size]? = some (.cells #[.int .i64 k, .int .i64 r, .int .i64 i, .int .u32 x, .int .i64 n] 151 (0, 0)) := heap_alloc_new _ _
  have HB := Lib.hid hb0
  obtain ⟨b0, b1, b2, b3, b4, bf⟩ := cells5 hb0
  clear hb0
  generalize w.alloc (.cells #[.int .i64 k, .int .i64 r, .int .i64 i, .int .u32 x, .int .i64 n] 151) = W at *
  generalize hg : w.heap.size = g at *
  go_quiet (first
    | (go_at_call 55; exact quiet_eq (fget _ (K.out.1.below (Tl.Ia.drewN_bel _ _)) _))
    | fail)
  have HQr := Lib.hid (gr_U H.out.eok r)
  have K2 := Lib.hid (nx_trans K.out.2 (nx_below K.out.1 (Tl.Ia.drewN_bel W nq)))
  have bb := Tl.Ia.drewN_bel W nq
  have hgl := World.block_lt_of_cell? _ _ b0
  have e0 := (bb.cell (p := ⟨g, 0, none⟩) hgl).trans b0
  have e1 := (bb.cell (p := ⟨g, 1, none⟩) hgl).trans b1
  have e3 := (bb.cell (p := ⟨g, 3, none⟩) hgl).trans b3
  have hgw := hgl
  have hx0 := hx.1
  have hx1 := hx.2
  have hz0 := hz.1
  have hz1 := hz.2
  have hq0 := HQr.out.1
  have hq1 := HQr.out.2
  have HG : Hid (∀ W va, Ch w0 a S0 c W → U va → Calls Tryz.prog 79 #[.pointer (some ⟨a.g, 0, none⟩), .int .u32 va, .int .i64 4] W fun e w' => ∃ v, e = .returned (.tuple #[.int .u32 (c.get va 4).1, v]) ∧ Rp W w' (c.get va 4).2 v ∧ Ch w0 a S0 c w' ∧ Mv a W w') := Lib.hid fun W va hW hv => get_any W hW va 4 hv
  have HG9 : Hid (∀ W va, Ch w0 a S0 (c.add r 4) W → U va → Calls Tryz.prog 79 #[.pointer (some ⟨a.g, 0, none⟩), .int .u32 va, .int .i64 4] W fun e w' => ∃ v, e = .returned (.tuple #[.int .u32 ((c.add r 4).get va 4).1, v]) ∧ Rp W w' ((c.add r 4).get va 4).2 v ∧ Ch w0 a S0 (c.add r 4) w' ∧ Mv a W w') := Lib.hid fun W va hW hv => get_any W hW va 4 hv
  clear b0 b1 b2 b3 b4 bf hgl d2
  generalize W.drewN nq = V at *
  clear K
  generalize hy : c.gr r = y at *
  have HY := Lib.hid hy
  have HC := Lib.hid hc
  subst hg
  clear hy hc
  by_cases h7 : k = 7
  · subst h7
    have HO : Hid (o = (sb y z, none, c.add r (sb 0 z))) := by show _ = _; rw [← HC.out]; simp [Mc.bas, HY.out]
    have HA7 : Hid (∀ W, Ch w0 a S0 c W → Calls Tryz.prog 80 #[.pointer (some ⟨a.g, 0, none⟩), .int .i64 r, .int .u32 (-z % 4294967296)] W fun e w' => e = .returned (.tuple #[]) ∧ Ch w0 a S0 (c.add r (sb 0 z)) w' ∧ Mv a W w') := Lib.hid fun W hW => by
      have := HA.out W (sb 0 z) hW (sb_U _ _)
      rw [show sb 0 z = -z % 4294967296 by simp [sb]] at this ⊢
      exact this
    go_wp2_with (first
      | (go_at_call 80; refine (HA7.out _ K2.out.1).mono ?_; rintro e w3 ⟨rfl, h3, m3⟩; have H3 := Lib.hid h3; have M3 := Lib.hid m3; clear h3 m3)
      | fail)
    rw [HO.out]
    exact bodyPost_ret (v := .tuple #[.int .u32 (sb y z), .pointer none]) (by simp [results, Tryz.results160, go_sem, sb]) rfl ⟨_, rfl, rfl, H3.out, K2.out.2.trans M3.out⟩
  by_cases h8 : k = 8
  · subst h8
    have HO : Hid (o = (y, none, c.add r z)) := by show _ = _; rw [← HC.out]; simp [Mc.bas, HY.out]
    clear h7
    go_wp2_with (first
      | (go_at_call 80; refine (HA.out _ z K2.out.1 hz).mono ?_; rintro e w3 ⟨rfl, h3, m3⟩; have H3 := Lib.hid h3; have M3 := Lib.hid m3; clear h3 m3)
      | fail)
    rw [HO.out]
    exact bodyPost_ret (v := .tuple #[.int .u32 y, .pointer none]) (by simp [results, Tryz.results160, go_sem]) rfl ⟨_, rfl, rfl, H3.out, K2.out.2.trans M3.out⟩
  by_cases h9 : k = 9
  · subst h9
    have HO : Hid (o = (((c.add r 4).get y 4).1, ((c.add r 4).get y 4).2, c.add r 4)) := by show _ = _; rw [← HC.out]; simp [Mc.bas, HY.out]
    clear h7 h8
    go_wp2_with (first
      | (go_at_call 80; refine (HA.out _ 4 K2.out.1 ⟨by omega, by omega⟩).mono ?_; rintro e w3 ⟨rfl, h3, m3⟩; have H3 := Lib.hid h3; have M3 := Lib.hid m3; clear h3 m3)
      | (go_at_call 79; refine (HG9.out _ y H3.out ⟨hq0, hq1⟩).mono ?_; rintro e w4 ⟨v, rfl, r4, h4, m4⟩; have H4 := Lib.hid h4; have M4 := Lib.hid m4; have R4 := Lib.hid r4; clear h4 m4 r4)
      | fail)
    rw [HO.out]
    exact bodyPost_ret (v := .tuple #[.int .u32 ((c.add r 4).get y 4).1, v]) (by simp [results, Tryz.results160, go_sem]) rfl ⟨_, rfl, R4.out.from ((K2.out.2.trans M3.out).size), H4.out, (K2.out.2.trans M3.out).trans M4.out⟩
  by_cases h10 : k = 10
  · subst h10
    have HO : Hid (o = (ad y x, none, c)) := by show _ = _; rw [← HC.out]; simp [Mc.bas, HY.out]
    clear h7 h8 h9
    go_wp2
    rw [HO.out]
    exact bodyPost_ret (v := .tuple #[.int .u32 (ad y x), .pointer none]) (by simp [results, Tryz.results160, go_sem, ad]) rfl ⟨_, rfl, rfl, K2.out.1, K2.out.2⟩
  by_cases h11 : k = 11
  · subst h11
    have HO : Hid (o = ((c.get (ad y x) 4).1, (c.get (ad y x) 4).2, c)) := by show _ = _; rw [← HC.out]; simp [Mc.bas, HY.out]
    clear h7 h8 h9 h10
    go_wp2_with (first
      | (go_at_call 79; refine (HG.out _ (ad y x) K2.out.1 (ad_U _ _)).mono ?_; rintro e w4 ⟨v, rfl, r4, h4, m4⟩; have H4 := Lib.hid h4; have M4 := Lib.hid m4; have R4 := Lib.hid r4; clear h4 m4 r4)
      | fail)
    rw [HO.out]
    exact bodyPost_ret (v := .tuple #[.int .u32 (c.get (ad y x) 4).1, v]) (by simp [results, Tryz.results160, go_sem]) rfl ⟨_, rfl, R4.out.from K2.out.2.size, H4.out, K2.out.2.trans M4.out⟩
  by_cases h13 : k = 13
  · subst h13
    have HO : Hid (o = (x, none, c)) := by show _ = _; rw [← HC.out]; simp [Mc.bas]
    clear h7 h8 h9 h10 h11
    go_wp2
    rw [HO.out]
    exact bodyPost_ret (v := .tuple #[.int .u32 x, .pointer none]) (by simp [results, Tryz.results160, go_sem]) rfl ⟨_, rfl, rfl, K2.out.1, K2.out.2⟩
  · have HO : Hid (o = (y, none, c)) := by show _ = _; rw [← HC.out]; simp [Mc.bas, h7, h8, h9, h10, h11, h13, HY.out]
    go_wp2
    rw [HO.out]
    exact bodyPost_ret (v := .tuple #[.int .u32 y, .pointer none]) (by simp [results, Tryz.results160, go_sem]) rfl ⟨_, rfl, rfl, K2.out.1, K2.out.2⟩
end

end Go.Proofs.YteohkobdmkbcpaaGreatDoor.Cs
