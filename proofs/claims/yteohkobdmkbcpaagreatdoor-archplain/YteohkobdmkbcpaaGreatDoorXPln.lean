/- An instruction of three registers, as numbers. No program is in sight. -/
import Derived.Test.YteohkobdmkbcpaaGreatDoorXPhy
namespace Go.Proofs.YteohkobdmkbcpaaGreatDoor.Cs
open Go.RowKit
set_option linter.unusedVariables false
set_option linter.unusedSimpArgs false

def pcd (low size : Nat) : Int := ((129 + 2 * low + 32 * size : Nat) : Int)
def psz (size : Nat) : Int := ((2 ^ size : Nat) : Int)
def plt (low size : Nat) : Bool :=
  let p := Tl.Ia.prg (pcd low size)
  p.2 && (decide (p.1.cls = 15) && (decide (p.1.ops = [(114, psz size), (114, psz size), (119, psz size)]) && (decide (p.1.alu = 11) == decide (low = 3) && (decide (p.1.alu = 11) || (Bt.Al.lgc p.1.alu || (decide (p.1.alu = 6) || (decide (p.1.alu = 7) || decide (p.1.alu = 10))))))))
theorem plt_all : Tl.Ia.upto 7 (fun low => Tl.Ia.upto 3 fun size => plt low size) = true := by kernel_rfl
theorem plt_at {low size : Nat} (hl : low < 7) (hs : size < 3) : plt low size = true := Tl.Ia.upto_at (Tl.Ia.upto_at plt_all low hl) size hs

def dct (r a z : Nat) : Bool :=
  let d := Bt.Es.dec [((80 + r : Nat) : Int)] a z
  decide (d.2 = 0) && (decide (d.1.k = 5) && decide (d.1.r = (r : Int)))
theorem dct_r1 : Tl.Ia.upto 15 (fun r => dct r 114 1) = true := by kernel_rfl
theorem dct_r2 : Tl.Ia.upto 15 (fun r => dct r 114 2) = true := by kernel_rfl
theorem dct_r4 : Tl.Ia.upto 15 (fun r => dct r 114 4) = true := by kernel_rfl
theorem dct_w1 : Tl.Ia.upto 15 (fun r => dct r 119 1) = true := by kernel_rfl
theorem dct_w2 : Tl.Ia.upto 15 (fun r => dct r 119 2) = true := by kernel_rfl
theorem dct_w4 : Tl.Ia.upto 15 (fun r => dct r 119 4) = true := by kernel_rfl
theorem dec_reg {r size : Nat} (hr : r < 15) (hs : size < 3) (a : Int) (ha : a = 114 ∨ a = 119) : (Bt.Es.dec [((80 + r : Nat) : Int)] a (psz size)).2 = 0 ∧ (Bt.Es.dec [((80 + r : Nat) : Int)] a (psz size)).1.k = 5 ∧ (Bt.Es.dec [((80 + r : Nat) : Int)] a (psz size)).1.r = (r : Int) := by
  have key : ∀ a z, dct r a z = true → (Bt.Es.dec [((80 + r : Nat) : Int)] (a : Nat) (z : Nat)).2 = 0 ∧ (Bt.Es.dec [((80 + r : Nat) : Int)] (a : Nat) (z : Nat)).1.k = 5 ∧ (Bt.Es.dec [((80 + r : Nat) : Int)] (a : Nat) (z : Nat)).1.r = (r : Int) := fun a z h => by
    unfold dct at h
    simp only [Bool.and_eq_true, decide_eq_true_eq] at h
    exact h
  have h3 : size = 0 ∨ size = 1 ∨ size = 2 := by omega
  rcases h3 with rfl | rfl | rfl <;> rcases ha with rfl | rfl
  · exact key 114 1 (Tl.Ia.upto_at dct_r1 r hr)
  · exact key 119 1 (Tl.Ia.upto_at dct_w1 r hr)
  · exact key 114 2 (Tl.Ia.upto_at dct_r2 r hr)
  · exact key 119 2 (Tl.Ia.upto_at dct_w2 r hr)
  · exact key 114 4 (Tl.Ia.upto_at dct_r4 r hr)
  · exact key 119 4 (Tl.Ia.upto_at dct_w4 r hr)

section
variable {c : Mc}
theorem sr_sr (k x y : Int) : (c.sr k x).sr k y = c.sr k y := by
  unfold Mc.sr
  by_cases h : 0 ≤ k ∧ k < 16
  · simp only [if_pos h, Hr.Re.reg, List.set_set]
  · simp only [if_neg h]
theorem gr_same {k : Int} (h : 0 ≤ k ∧ k < 16) (hl : c.e.r.length = 16) (x : Int) : (c.sr k x).gr k = x := by
  unfold Mc.sr Mc.gr
  rw [if_pos h, if_pos h]
  simp only [Hr.Re.reg]
  rw [List.getD_eq_getElem?_getD, List.getElem?_set_self (by omega)]
  rfl
theorem gr_other {k j : Int} (h : 0 ≤ k ∧ k < 16) (hj : 0 ≤ j ∧ j < 16) (hne : j ≠ k) (x : Int) : (c.sr k x).gr j = c.gr j := by
  unfold Mc.sr Mc.gr
  rw [if_pos h, if_pos hj, if_pos hj]
  simp only [Hr.Re.reg]
  rw [List.getD_eq_getElem?_getD, List.getElem?_set_ne (by omega), ← List.getD_eq_getElem?_getD]
theorem fet_at (hm : c.t.me = 0) (hl : c.xs.length ≤ 16777216) (hr : c.e.r.length = 16) (hb : Rm.Byt c.xs) {i : Nat} (hi : i < c.xs.length) : (c.sr 15 i).fet = (c.xs.getD i 0, none, c.sr 15 ((i + 1 : Nat) : Int)) := by
  have e : ∀ x, (c.sr 15 x).t = c.t ∧ (c.sr 15 x).xs = c.xs := fun x => by unfold Mc.sr; rw [if_pos (by omega)]; exact ⟨rfl, rfl⟩
  have hp := gr_same (c := c) (k := 15) (by omega) hr (i : Int)
  rw [fet_phys (c := c.sr 15 i) (va := i) (by rw [(e _).1]; exact hm) (by rw [(e _).2]; exact hl) hp (by rw [(e _).2]; exact hi) (by rw [(e _).2]; exact hb), (e _).2]
  congr 2
  unfold Mc.add
  rw [hp, sr_sr]
  congr 1
  unfold ad
  omega
theorem eva_reg (hm : c.t.me = 0) (hl : c.xs.length ≤ 16777216) (hr : c.e.r.length = 16) (hb : Rm.Byt c.xs) {i : Nat} (hi : i < c.xs.length) {r size : Nat} (hrr : r < 15) (hs : size < 3) (a : Int) (ha : a = 114 ∨ a = 119) (hx : c.xs.getD i 0 = ((80 + r : Nat) : Int)) :
    (c.sr 15 i).eva a (psz size) = (⟨psz size, c.gr r % Bt.W (psz size), r, 0⟩, none, c.sr 15 ((i + 1 : Nat) : Int)) := by
  obtain ⟨d0, d1, d2⟩ := dec_reg hrr hs a ha
  have hsp : Mc.spc 8 [] (c.sr 15 i) a (psz size) = ((Bt.Es.dec [((80 + r : Nat) : Int)] a (psz size)).1, none, c.sr 15 ((i + 1 : Nat) : Int)) := by
    rw [Mc.spc, fet_at hm hl hr hb hi, hx]
    simp only [List.nil_append]
    rw [if_neg (by rw [d0]; omega), if_neg (by rw [d1]; omega)]
  unfold Mc.eva
  rw [hsp]
  simp only
  rw [if_neg (by rw [d1]; omega), if_pos d1, d2, gr_other (by omega) (by omega) (by omega)]
end
end Go.Proofs.YteohkobdmkbcpaaGreatDoor.Cs
