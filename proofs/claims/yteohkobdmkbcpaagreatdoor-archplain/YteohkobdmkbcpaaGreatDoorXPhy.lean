/- Accesses where addresses aren't translated. No program is in sight. -/
import Derived.Test.YteohkobdmkbcpaaGreatDoorXOk
namespace Go.Proofs.YteohkobdmkbcpaaGreatDoor.Cs
open Go.RowKit
set_option linter.unusedVariables false
set_option linter.unusedSimpArgs false

theorem walk_phys (t : Mm.Tabs) (xs : List Int) (u wr : Bool) (hm : t.me = 0) (hl : xs.length ≤ 16777216) : ∀ (n : Nat) (acc : List Mm.Run) (va : Nat), va + n ≤ xs.length →
    ∃ l, Mm.walk t xs u wr true [] acc va n = (.ok (acc ++ l), []) ∧ Mm.gat xs l = (xs.drop va).take n := by
  intro n
  induction n using Nat.strongRecOn with
  | _ n ih =>
    intro acc va h
    by_cases h0 : n = 0
    · subst h0
      exact ⟨[], by rw [Mm.walk_end]; simp, by simp [Mm.gat_nil]⟩
    · have hc := Mm.cnt_le va n
      have hc0 := Mm.cnt_pos va n h0
      have hp : Mm.plE t xs [] va (Mm.cnt va n) u wr = .ok va := by
        unfold Mm.plE Mm.fitE
        rw [if_pos hm, if_pos (by omega)]
      have hr : Mm.plR t xs [] va u wr true = [] := by unfold Mm.plR; rw [if_pos hm]
      have hx : Mm.nxt va n = ((va + Mm.cnt va n : Nat) : Int) := by unfold Mm.nxt; omega
      obtain ⟨l, h1, h2⟩ := ih (n - Mm.cnt va n) (by omega) (acc ++ [⟨va, va, Mm.cnt va n⟩]) (va + Mm.cnt va n) (by omega)
      refine ⟨⟨va, va, Mm.cnt va n⟩ :: l, ?_, ?_⟩
      · rw [Mm.walk_ok h0 hp, hr, hx, h1, List.append_assoc]; rfl
      · have e : Mm.gat xs (⟨va, va, Mm.cnt va n⟩ :: l) = (xs.drop va).take (Mm.cnt va n) ++ Mm.gat xs l := by simp [Mm.gat]
        rw [e, h2, ← List.drop_drop, ← List.take_add]
        congr 1
        omega
section
variable {c : Mc}
theorem ac_phys (hm : c.t.me = 0) (hl : c.xs.length ≤ 16777216) (u wr : Bool) {va : Nat} {n : Nat} (h : va + n ≤ c.xs.length) : ∃ l, c.ac u wr va n = (.ok l, []) ∧ Mm.gat c.xs l = (c.xs.drop va).take n := by
  obtain ⟨l, h1, h2⟩ := walk_phys c.t c.xs u wr hm hl n [] va h
  exact ⟨l, by unfold Mc.ac; simpa using h1, h2⟩
theorem ld_phys (hm : c.t.me = 0) (hl : c.xs.length ≤ 16777216) {va n : Nat} (h : va + n ≤ c.xs.length) : c.ld va n = ((c.xs.drop va).take n, none) := by
  obtain ⟨l, h1, h2⟩ := ac_phys hm hl c.us false h
  unfold Mc.ld
  rw [h1]
  simp only [Mm.accY, msd, h2]
theorem get_phys (hm : c.t.me = 0) (hl : c.xs.length ≤ 16777216) {va : Nat} {z : Int} (hz : 0 ≤ z ∧ z ≤ 4) (h : (va : Int) + z ≤ c.xs.length) : c.get va z = (Rm.num ((c.xs.drop va).take z.toNat), none) := by
  unfold Mc.get
  rw [show (min z 4).toNat = z.toNat by omega, ld_phys hm hl (by omega)]
theorem fet_phys (hm : c.t.me = 0) (hl : c.xs.length ≤ 16777216) {va : Nat} (hp : c.gr 15 = va) (h : va < c.xs.length) (hb : Rm.Byt c.xs) : c.fet = (c.xs.getD va 0, none, c.add 15 1) := by
  unfold Mc.fet
  rw [hp, get_phys hm hl ⟨by omega, by omega⟩ (by omega)]
  have e : (c.xs.drop va).take (1 : Int).toNat = [c.xs.getD va 0] := by
    rw [show (1 : Int).toNat = 1 from rfl, List.drop_eq_getElem_cons h, List.take_succ_cons, List.take_zero]
    simp [List.getD, h]
  rw [e]
  have hx : 0 ≤ c.xs.getD va 0 ∧ c.xs.getD va 0 < 256 := by
    apply hb
    simp only [List.getD, List.getElem?_eq_getElem h, Option.getD_some]
    exact List.getElem_mem h
  simp only [Rm.num]
  rw [show (c.xs.getD va 0 + 256 * 0) % 256 = c.xs.getD va 0 by omega]
end

end Go.Proofs.YteohkobdmkbcpaaGreatDoor.Cs
