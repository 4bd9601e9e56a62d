/- Contract: made. -/
import Derived.Test.YteohkobdmkbcpaaGreatDoorXStp
namespace Go.Proofs.YteohkobdmkbcpaaGreatDoor.Cs
open Go.RowKit
set_option linter.unusedVariables false
set_option linter.unusedSimpArgs false

/-- A machine all of whose blocks came since the world w. -/
structure Own (w : World) (a : Ad) (S : Nat → Prop) (c : Mc) (W : World) : Prop where
  ch : Ch W a S c W
  ab : ∀ k, Fo a S k → w.heap.size ≤ k
  rg : w.heap.size ≤ a.rg
  bel : Below w.heap.size w W
theorem Own.step {w W W' : World} {a : Ad} {S : Nat → Prop} {c c' : Mc} (h : Own w a S c W) (k : Ch W a S c' W') : ∃ S', Own w a S' c' W' := by
  obtain ⟨S', m, s, ab⟩ := k.ex
  refine ⟨S', Ch.refl m ab k.gl, fun i hi => ?_, h.rg, Tl.Mods.below h.bel s.mods h.ab h.bel.size⟩
  rcases s.grow i hi with e | e
  · exact h.ab i e
  · exact Nat.le_trans h.bel.size e

set_option maxHeartbeats 2000000 in
set_option maxRecDepth 100000 in
theorem made_any (w : World) (A : Option Addr) (n cp : Nat) (ys : List Int) (s : Mc) (hs : Rm.Src w A ys) (hby : Rm.Byt ys) (hn : ys.length = n) (hl : n ≤ 16777216) (hKw : 7 ≤ w.heap.size) (gl : Tl.Ia.Gl w)
    (he : s.e.Ok) (ht : s.t.Ok) (hsc : U s.sc) : Calls Tryz.prog 11 #[.slice A n cp, s.val] w fun e w' =>
    ∃ a S, e = .returned (.tuple #[.pointer (some ⟨a.g, 0, none⟩), .pointer (some ⟨a.rg, 0, none⟩)]) ∧ Own w a S ⟨s.e, s.t, s.sc, s.ha, ys⟩ w' := by
  obtain ⟨cs, hcs⟩ : ∃ cs, s.e.cells s.xs7.l = cs := ⟨_, rfl⟩
  have hV : s.val = .agg cs.toArray := by rw [Mc.val, Hr.sv, hcs]
  have hl26 : cs.length = 26 := by rw [← hcs, Hr.Re.length he]; rfl
  have hi6 : (Tryz.prog.info? 28).map (·.size) = some cs.length := by rw [hl26, Hr.st_size]
  have HLd : Hid (∀ w0 a S0 c W, Ch w0 a S0 c W → Calls Tryz.prog 23 #[.pointer (some ⟨a.g, 0, none⟩), .agg cs.toArray] W fun e w' => e = .returned (.tuple #[]) ∧ Ch w0 a S0 ⟨s.e, s.t, s.sc, s.ha, c.xs⟩ w' ∧ Mv a W w') := Lib.hid fun w0 a S0 c W hW => by
    rw [← hV]; exact aload_any W hW s he ht hsc
  rw [hV]
  have HS := Lib.hid hs
  have HBy := Lib.hid hby
  have HG := Lib.hid gl
  have HN := Lib.hid hn
  have hB0 : Below w.heap.size w (w.alloc (.cells cs.toArray 28)) := by go_grown
  have HBN : Hid (Hr.Bk (w.alloc (.cells cs.toArray 28)) w.heap.size 28 cs) := Lib.hid (Hr.Bk.new _ _ _)
  have HS0 := Lib.hid (Rm.Src.below hs hB0)
  have HB0 := Lib.hid hB0
  clear hs hby gl hB0 hV hcs he ht hsc
  have HLo : Hid (∀ rg r W1 W2, w.heap.size ≤ r → Rm.Mem W1 rg r (List.replicate n 0) → Below w.heap.size w W1 → Hr.Bk W1 w.heap.size 28 cs → w.heap.size + 1 ≤ r → Below W1.heap.size W1 W2 → Calls Tryz.prog 26 #[.pointer (some ⟨rg, 0, none⟩), .int .u32 0, .slice A n cp] W2 fun e w' => e = .returned (.int .i64 0) ∧ Rm.Mem w' rg r ys ∧ Below w.heap.size w w' ∧ Hr.Bk w' w.heap.size 28 cs) := Lib.hid fun rg r W1 W2 hr hm hb hk hr1 hd => by
    have hm2 := hm.below_ hd
    have hb2 : Below w.heap.size w W2 := Tl.bel_trans hb hd hb.size
    have hk2 := hk.below hd
    refine (Mm.load_at rg r _ ys 0 0 n cp A rfl W2 hm2 (HS.out.below hb2) HN.out HBy.out (by simp)).mono ?_
    rintro e w' ⟨rfl, h2, hg⟩
    have e1 : splice (List.replicate n 0) 0 ys = ys := by simp [splice, HN.out]
    rw [e1] at h2
    refine ⟨rfl, h2, Rm.below_of_grown hb2 hg hb2.size hr, ?_⟩
    exact (hg.block _ hk2.lt (by intro e; injection e with e; omega)).trans hk2
  have HNw : Hid (∀ rg r W1 W2, w.heap.size ≤ r → w.heap.size ≤ rg → Rm.Mem W1 rg r ys → Below w.heap.size w W1 → Hr.Bk W1 w.heap.size 28 cs → Below W1.heap.size W1 W2 → Calls Tryz.prog 27 #[.pointer (some ⟨rg, 0, none⟩)] W2 fun e w' => ∃ a S, e = .returned (.pointer (some ⟨a.g, 0, none⟩)) ∧ a.rg = rg ∧ Own w a S (Mc.nul ys) w' ∧ Hr.Bk w' w.heap.size 28 cs) := Lib.hid fun rg r W1 W2 hr hrg hm hb hk hd => by
    have hm2 := hm.below_ hd
    have hb2 : Below w.heap.size w W2 := Tl.bel_trans hb hd hb.size
    have hk2 := hk.below hd
    refine (anew_any W2 rg r ys hm2 (Nat.le_trans hKw hr) (Nat.le_trans hKw hb2.size) (HG.out.below hb2)).mono ?_
    rintro e w' ⟨a, S, rfl, rfl, rfl, hM, hF, hC, hbn⟩
    have hb3 : Below w.heap.size w w' := Tl.bel_trans hb2 hbn hb2.size
    refine ⟨a, S, rfl, rfl, ⟨hC, ?_, hrg, hb3⟩, hk2.below hbn⟩
    · intro k hk
      rcases hF k hk with e | e
      · rw [e]; exact hr
      · exact Nat.le_trans hb2.size e
  clear HS HBy
  go_enter Tryz.func11, Tryz.ntmps11
  go_upto_region 1 with (refine Hr.wl_box rfl _ _ rfl _ rfl ?_)
  have hWs : w.heap.size + 1 ≤ (w.alloc (.cells cs.toArray 28)).heap.size := by simp
  generalize w.alloc (.cells cs.toArray 28) = W at *
  go_wp2_with fail
  refine (Rm.new_any n _).mono ?_
  rintro e w1 ⟨rg, r, rfl, h1, h2, hm, hb1⟩
  rw [Rm.sized_nat n hl] at hm
  have HM1 := Lib.hid hm
  have HB1 : Hid (Below w.heap.size w w1) := Lib.hid (Tl.bel_trans HB0.out hb1 HB0.out.size)
  have HK1 := Lib.hid (HBN.out.below hb1)
  clear hm hb1
  go_wp2_with fail
  refine (HLo.out rg r w1 _ (by omega) HM1.out HB1.out HK1.out (by omega) (by first | go_grown | exact Below.refl _ _)).mono ?_
  rintro e w2 ⟨rfl, h, h', h''⟩
  have HM2 := Lib.hid h
  have HB2 := Lib.hid h'
  have HK2 := Lib.hid h''
  clear h h' h''
  go_wp2_with fail
  refine (HNw.out rg r w2 _ (by omega) (by omega) HM2.out HB2.out HK2.out (by first | go_grown | exact Below.refl _ _)).mono ?_
  rintro e w3 ⟨a, S, rfl, hrg, h, h'⟩
  have HO3 := Lib.hid h
  have HK3 := Lib.hid h'
  have HR3 := Lib.hid hrg
  clear h h' hrg HLo HNw
  have HL3 : Hid (Ch w3 a S (Mc.nul ys) w3) := Lib.hid HO3.out.ch
  have HRg := Lib.hid (HK3.out.range 0 cs (by simp))
  go_upto_region 4 with fail
  go_wp2_with (first | refine wpList_load_mid rfl 28 (.tmp 3) rfl w.heap.size 0 rfl cs _ HRg.out Tryz.underlying28 rfl hi6 ?_ | fail)
  refine (HLd.out _ _ _ _ _ HL3.out).mono ?_
  rintro e w4 ⟨rfl, h4, m4⟩
  have H4 := Lib.hid h4
  clear h4 m4
  go_wp2_with fail
  obtain ⟨S', ho⟩ := HO3.out.step H4.out
  refine bodyPost_ret (v := .tuple #[.pointer (some ⟨a.g, 0, none⟩), .pointer (some ⟨rg, 0, none⟩)]) (by simp [results, Tryz.results11, go_sem]) rfl ⟨a, S', by rw [HR3.out], ho⟩

end Go.Proofs.YteohkobdmkbcpaaGreatDoor.Cs
