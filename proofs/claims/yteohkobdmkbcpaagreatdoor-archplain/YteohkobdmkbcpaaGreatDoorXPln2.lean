/- An instruction of three registers, as numbers: what it comes to. -/
import Derived.Test.YteohkobdmkbcpaaGreatDoorXRev
import Derived.Test.YteohkobdmkbcpaaGreatDoorXRk2
namespace Go.Proofs.YteohkobdmkbcpaaGreatDoor.Cs
open Go.RowKit
set_option linter.unusedVariables false
set_option linter.unusedSimpArgs false

def pcd (low size : Nat) : Int := ((129 + 2 * low + 32 * size : Nat) : Int)
def psz (size : Nat) : Int := ((2 ^ size : Nat) : Int)
def plt (low size : Nat) : Bool :=
  let p := Tl.Ia.prg (pcd low size)
  p.2 && (decide (p.1.cls = 15) && (decide (p.1.ops = [(114, psz size), (114, psz size), (119, psz size)]) && (decide (p.1.alu = 11) == decide (low = 3) && (decide (p.1.alu = 11) || (Bt.Al.lgc p.1.alu || (decide (p.1.alu = 6) || (decide (p.1.alu = 7) || decide (p.1.alu = 10))))))))
theorem plt_all : Tl.Ia.upto 7 (fun low => Tl.Ia.upto 3 fun size => plt low size) = true := by kernel_rfl
theorem plt_at {low size : Nat} (hl : low < 7) (hs : size < 3) : plt low size = true := Tl.Ia.upto_at (Tl.Ia.upto_at plt_all low hl) size hs

def dct (r a z : Nat) : Bool :=
  let d := Bt.Es.dec [((80 + r : Nat) : Int)] a z
  decide (d.2 = 0) && (decide (d.1.k = 5) && decide (d.1.r = (r : Int)))
theorem dct_r1 : Tl.Ia.upto 15 (fun r => dct r 114 1) = true := by kernel_rfl
theorem dct_r2 : Tl.Ia.upto 15 (fun r => dct r 114 2) = true := by kernel_rfl
theorem dct_r4 : Tl.Ia.upto 15 (fun r => dct r 114 4) = true := by kernel_rfl
theorem dct_w1 : Tl.Ia.upto 15 (fun r => dct r 119 1) = true := by kernel_rfl
theorem dct_w2 : Tl.Ia.upto 15 (fun r => dct r 119 2) = true := by kernel_rfl
theorem dct_w4 : Tl.Ia.upto 15 (fun r => dct r 119 4) = true := by kernel_rfl
theorem dec_reg {r size : Nat} (hr : r < 15) (hs : size < 3) (a : Int) (ha : a = 114 ∨ a = 119) : (Bt.Es.dec [((80 + r : Nat) : Int)] a (psz size)).2 = 0 ∧ (Bt.Es.dec [((80 + r : Nat) : Int)] a (psz size)).1.k = 5 ∧ (Bt.Es.dec [((80 + r : Nat) : Int)] a (psz size)).1.r = (r : Int) := by
  have key : ∀ a z, dct r a z = true → (Bt.Es.dec [((80 + r : Nat) : Int)] (a : Nat) (z : Nat)).2 = 0 ∧ (Bt.Es.dec [((80 + r : Nat) : Int)] (a : Nat) (z : Nat)).1.k = 5 ∧ (Bt.Es.dec [((80 + r : Nat) : Int)] (a : Nat) (z : Nat)).1.r = (r : Int) := fun a z h => by
    unfold dct at h
    simp only [Bool.and_eq_true, decide_eq_true_eq] at h
    exact h
  have h3 : size = 0 ∨ size = 1 ∨ size = 2 := by omega
  rcases h3 with rfl | rfl | rfl <;> rcases ha with rfl | rfl
  · exact key 114 1 (Tl.Ia.upto_at dct_r1 r hr)
  · exact key 119 1 (Tl.Ia.upto_at dct_w1 r hr)
  · exact key 114 2 (Tl.Ia.upto_at dct_r2 r hr)
  · exact key 119 2 (Tl.Ia.upto_at dct_w2 r hr)
  · exact key 114 4 (Tl.Ia.upto_at dct_r4 r hr)
  · exact key 119 4 (Tl.Ia.upto_at dct_w4 r hr)

section
variable {c : Mc}
theorem sr_sr (k x y : Int) : (c.sr k x).sr k y = c.sr k y := by
  unfold Mc.sr
  by_cases h : 0 ≤ k ∧ k < 16
  · simp only [if_pos h, Hr.Re.reg, List.set_set]
  · simp only [if_neg h]
theorem gr_same {k : Int} (h : 0 ≤ k ∧ k < 16) (hl : c.e.r.length = 16) (x : Int) : (c.sr k x).gr k = x := by
  unfold Mc.sr Mc.gr
  rw [if_pos h, if_pos h]
  simp only [Hr.Re.reg]
  rw [List.getD_eq_getElem?_getD, List.getElem?_set_self (by omega)]
  rfl
theorem gr_other {k j : Int} (h : 0 ≤ k ∧ k < 16) (hj : 0 ≤ j ∧ j < 16) (hne : j ≠ k) (x : Int) : (c.sr k x).gr j = c.gr j := by
  unfold Mc.sr Mc.gr
  rw [if_pos h, if_pos hj, if_pos hj]
  simp only [Hr.Re.reg]
  rw [List.getD_eq_getElem?_getD, List.getElem?_set_ne (by omega), ← List.getD_eq_getElem?_getD]
theorem fet_at (hm : c.t.me = 0) (hl : c.xs.length ≤ 16777216) (hr : c.e.r.length = 16) (hb : Rm.Byt c.xs) {i : Nat} (hi : i < c.xs.length) : (c.sr 15 i).fet = (c.xs.getD i 0, none, c.sr 15 ((i + 1 : Nat) : Int)) := by
  have e : ∀ x, (c.sr 15 x).t = c.t ∧ (c.sr 15 x).xs = c.xs := fun x => by unfold Mc.sr; rw [if_pos (by omega)]; exact ⟨rfl, rfl⟩
  have hp := gr_same (c := c) (k := 15) (by omega) hr (i : Int)
  rw [fet_phys (c := c.sr 15 i) (va := i) (by rw [(e _).1]; exact hm) (by rw [(e _).2]; exact hl) hp (by rw [(e _).2]; exact hi) (by rw [(e _).2]; exact hb), (e _).2]
  congr 2
  unfold Mc.add
  rw [hp, sr_sr]
  congr 1
  unfold ad
  omega
theorem eva_reg (hm : c.t.me = 0) (hl : c.xs.length ≤ 16777216) (hr : c.e.r.length = 16) (hb : Rm.Byt c.xs) {i : Nat} (hi : i < c.xs.length) {r size : Nat} (hrr : r < 15) (hs : size < 3) (a : Int) (ha : a = 114 ∨ a = 119) (hx : c.xs.getD i 0 = ((80 + r : Nat) : Int)) :
    (c.sr 15 i).eva a (psz size) = (⟨psz size, c.gr r % Bt.W (psz size), r, 0⟩, none, c.sr 15 ((i + 1 : Nat) : Int)) := by
  obtain ⟨d0, d1, d2⟩ := dec_reg hrr hs a ha
  have hsp : Mc.spc 8 [] (c.sr 15 i) a (psz size) = ((Bt.Es.dec [((80 + r : Nat) : Int)] a (psz size)).1, none, c.sr 15 ((i + 1 : Nat) : Int)) := by
    rw [Mc.spc, fet_at hm hl hr hb hi, hx]
    simp only [List.nil_append]
    rw [if_neg (by rw [d0]; omega), if_neg (by rw [d1]; omega)]
  unfold Mc.eva
  rw [hsp]
  simp only
  rw [if_neg (by rw [d1]; omega), if_pos d1, d2, gr_other (by omega) (by omega) (by omega)]
end
end Go.Proofs.YteohkobdmkbcpaaGreatDoor.Cs

namespace Go.Proofs.YteohkobdmkbcpaaGreatDoor.Cs
open Go.RowKit
set_option linter.unusedVariables false
set_option linter.unusedSimpArgs false

theorem bi_low {p : Int} (h0 : 0 ≤ p) (h1 : p < 16) (k : Nat) (hk : 4 ≤ k) (hk2 : k ≤ 31) : Ps.bi p k = false := by
  have h2 : 2 ^ 4 ≤ 2 ^ k := Nat.pow_le_pow_right (n := 2) (by omega) hk
  have h3 := Int.ofNat_le.2 h2
  rw [Int.natCast_pow] at h3
  have e : p / 2 ^ k = 0 := Int.ediv_eq_zero_of_lt h0 (Int.lt_of_lt_of_le h1 h3)
  unfold Ps.bi
  rw [e]
  rfl
section
variable {c : Mc}
theorem sr_p (x : Int) : (c.sr 15 x).e.p = c.e.p := by unfold Mc.sr; rw [if_pos (by omega)]; rfl
theorem sr_self (hr : c.e.r.length = 16) (h : c.e.r.getD 15 0 = 0) : c.sr 15 0 = c := by
  unfold Mc.sr
  rw [if_pos (by omega)]
  have : c.e.reg (15 : Int).toNat 0 = c.e := by
    unfold Hr.Re.reg
    have e : c.e.r.set (15 : Int).toNat 0 = c.e.r := by
      apply List.ext_getElem?
      intro i
      by_cases hi : i = 15
      · subst hi
        rw [show (15 : Int).toNat = 15 from rfl, List.getElem?_set_self (by omega), List.getElem?_eq_getElem (by omega)]
        rw [List.getD_eq_getElem?_getD, List.getElem?_eq_getElem (by omega)] at h
        rw [← h]; rfl
      · rw [show (15 : Int).toNat = 15 from rfl, List.getElem?_set_ne (fun e => hi e.symm)]
    rw [e]
  rw [this]
/-- what the ALU answers -/
def pan (c : Mc) (low size r0 r1 : Nat) : Bt.Al.An := Bt.Al.an (Tl.Ia.prg (pcd low size)).1.alu (c.gr r0 % Bt.W (psz size)) (c.gr r1 % Bt.W (psz size)) c.cy (psz size)
theorem inst_pl (hm : c.t.me = 0) (hr : c.e.r.length = 16) (h15 : c.e.r.getD 15 0 = 0) (p0 : 0 ≤ c.e.p) (p1 : c.e.p < 16) {low size r0 r1 r2 : Nat} (hl : low < 7) (hs : size < 3) (q0 : r0 < 15) (q1 : r1 < 15) (q2 : r2 < 15)
    (hx : c.xs = [pcd low size, ((80 + r0 : Nat) : Int), ((80 + r1 : Nat) : Int), ((80 + r2 : Nat) : Int)]) (hb : Rm.Byt c.xs) :
    c.inst fRek fRek = (if (pan c low size r0 r1).k then none else some ⟨52, [2], true⟩, ((c.sr 15 4).sp r2 (pan c low size r0 r1).x (psz size)).cod (Mc.flg (pan c low size r0 r1))) := by
  have h := plt_at hl hs
  unfold plt at h
  simp only [Bool.and_eq_true, decide_eq_true_eq] at h
  obtain ⟨g1, g2, g3, _, _⟩ := h
  have hlen : c.xs.length = 4 := by rw [hx]; rfl
  have f0 := fet_at hm (by omega) hr hb (i := 0) (by omega)
  have e0 : c.sr 15 ((0 : Nat) : Int) = c := sr_self hr h15
  rw [e0] at f0
  have x0 : c.xs.getD 0 0 = pcd low size := by rw [hx]; rfl
  have x1 : c.xs.getD 1 0 = ((80 + r0 : Nat) : Int) := by rw [hx]; rfl
  have x2 : c.xs.getD 2 0 = ((80 + r1 : Nat) : Int) := by rw [hx]; rfl
  have x3 : c.xs.getD 3 0 = ((80 + r2 : Nat) : Int) := by rw [hx]; rfl
  have v1 := eva_reg hm (by omega) hr hb (i := 1) (by omega) q0 hs 114 (.inl rfl) x1
  have v2 := eva_reg hm (by omega) hr hb (i := 2) (by omega) q1 hs 114 (.inl rfl) x2
  have v3 := eva_reg hm (by omega) hr hb (i := 3) (by omega) q2 hs 119 (.inr rfl) x3
  rw [x0] at f0
  have hfp : (c.sr 15 ((0 + 1 : Nat) : Int)).fp = false := by unfold Mc.fp; rw [sr_p]; exact bi_low p0 p1 27 (by omega) (by omega)
  have hlt : (c.sr 15 ((0 + 1 : Nat) : Int)).lts (Tl.Ia.prg (pcd low size)).1.cls = true := by
    unfold Mc.lts
    rw [hfp]
    have : (c.sr 15 ((0 + 1 : Nat) : Int)).us = false := by unfold Mc.us; rw [sr_p]; exact bi_low p0 p1 24 (by omega) (by omega)
    rw [this]; rfl
  unfold Mc.inst
  rw [f0]
  simp only
  rw [if_neg (by rw [g1, hlt]; simp), if_neg (by rw [hfp]; simp), g3]
  simp only [Mc.evs, List.nil_append, List.cons_append]
  rw [show ((0 + 1 : Nat) : Int) = ((1 : Nat) : Int) from rfl, v1]
  simp only
  rw [show ((1 + 1 : Nat) : Int) = ((2 : Nat) : Int) from rfl, v2]
  simp only
  rw [show ((2 + 1 : Nat) : Int) = ((3 : Nat) : Int) from rfl, v3]
  simp only
  unfold fRek Mc.rek
  have hcy : (c.sr 15 ((3 + 1 : Nat) : Int)).cy = c.cy := by unfold Mc.cy; rw [sr_p]
  simp only [g2, hcy]
  rw [if_neg (by omega)]
  change (Mc.thn ((c.sr 15 4).res ⟨psz size, c.gr r2 % Bt.W (psz size), (r2 : Int), 0⟩ (pan c low size r0 r1).x) fun c' => (if (pan c low size r0 r1).k = true then none else some ⟨52, [2], true⟩, c'.cod (Mc.flg (pan c low size r0 r1)))) = _
  unfold Mc.res
  rw [if_neg (by simp only; omega)]
  rfl
theorem pan_k (low size r0 r1 : Nat) (hl : low < 7) (hs : size < 3) (h : low ≠ 3) : (pan c low size r0 r1).k = true := by
  have g := plt_at hl hs
  unfold plt at g
  simp only [Bool.and_eq_true, Bool.or_eq_true, decide_eq_true_eq, beq_iff_eq] at g
  obtain ⟨_, _, _, g4, g5⟩ := g
  have hne : ¬ (Tl.Ia.prg (pcd low size)).1.alu = 11 := fun e => by
    rw [e, decide_eq_false h] at g4
    simp at g4
  rcases g5 with g5 | g5 | g5 | g5 | g5
  · exact absurd g5 hne
  · unfold pan Bt.Al.an
    rw [if_pos g5]; rfl
  · unfold pan; rw [g5]; rfl
  · unfold pan; rw [g5]; rfl
  · unfold pan; rw [g5]; rfl
/-- the machine behind such an instruction -/
def pnx (c : Mc) (low size r0 r1 r2 : Nat) : Mc := ((c.sr 15 4).sp r2 (pan c low size r0 r1).x (psz size)).cod (Mc.flg (pan c low size r0 r1))
theorem pnx_facts (hr : c.e.r.length = 16) (p0 : 0 ≤ c.e.p) (p1 : c.e.p < 16) {low size r0 r1 r2 : Nat} (hs : size < 3) (q2 : r2 < 15) :
    ∃ y : Int, (pnx c low size r0 r1 r2).e.r = (c.e.r.set 15 4).set r2 y ∧ y / Bt.W (psz size) = c.e.r.getD r2 0 / Bt.W (psz size) ∧ 0 ≤ (pnx c low size r0 r1 r2).e.p ∧ (pnx c low size r0 r1 r2).e.p < 16 ∧ (pnx c low size r0 r1 r2).e.k = c.e.k ∧ (pnx c low size r0 r1 r2).e.u = c.e.u ∧ (pnx c low size r0 r1 r2).t = c.t ∧ (pnx c low size r0 r1 r2).sc = c.sc ∧ (pnx c low size r0 r1 r2).ha = c.ha := by
  have hg : (c.sr 15 4).gr r2 = c.e.r.getD r2 0 := by
    rw [gr_other (by omega) (by omega) (by omega)]
    unfold Mc.gr
    rw [if_pos (by omega)]; rfl
  obtain ⟨X, hX⟩ : ∃ X, (pan c low size r0 r1).x = X := ⟨_, rfl⟩
  obtain ⟨f, hf⟩ : ∃ f, Mc.flg (pan c low size r0 r1) = f := ⟨_, rfl⟩
  have hw : Ps.wi c.e.p (Ps.cd f.n f.z f.v f.c) = Ps.cd f.n f.z f.v f.c := by unfold Ps.wi; omega
  have hc : 0 ≤ Ps.cd f.n f.z f.v f.c ∧ Ps.cd f.n f.z f.v f.c < 16 := by
    rcases f with ⟨n, z, v, q⟩
    cases n <;> cases z <;> cases v <;> cases q <;> simp [Ps.cd, Ps.wo]
  have e1 : (c.sr 15 4).sp r2 X (psz size) = { c with e := ⟨(c.e.r.set 15 4).set r2 (Hr.pu (c.e.r.getD r2 0) X (psz size)), c.e.p, c.e.k, c.e.u⟩ } := by
    unfold Mc.sp
    rw [hg]
    unfold Mc.sr
    rw [if_pos (by omega), if_pos (by omega)]
    rfl
  have e2 : pnx c low size r0 r1 r2 = { c with e := ⟨(c.e.r.set 15 4).set r2 (Hr.pu (c.e.r.getD r2 0) X (psz size)), Ps.cd f.n f.z f.v f.c, c.e.k, c.e.u⟩ } := by
    unfold pnx
    rw [hX, hf, e1]
    unfold Mc.cod Mc.psl Hr.pt
    simp only [hw]
    rw [if_pos (by rw [bi_low p0 p1 24 (by omega) (by omega), bi_low hc.1 hc.2 24 (by omega) (by omega)])]
  rw [e2]
  refine ⟨_, rfl, ?_, hc.1, hc.2, rfl, rfl, rfl, rfl, rfl⟩
  have h3 : size = 0 ∨ size = 1 ∨ size = 2 := by omega
  unfold Hr.pu
  rcases h3 with rfl | rfl | rfl
  · rw [show psz 0 = 1 from rfl, Bt.W1]; omega
  · rw [show psz 1 = 2 from rfl, Bt.W2]; omega
  · rw [show psz 2 = 4 from rfl, Bt.W4]; omega
end
end Go.Proofs.YteohkobdmkbcpaaGreatDoor.Cs
