/- Numbers stay within their bounds; operands that are evaluated can be. No program is in sight. -/
import Derived.Test.YteohkobdmkbcpaaGreatDoorXIns
namespace Go.Proofs.YteohkobdmkbcpaaGreatDoor.Cs
open Go.RowKit
set_option linter.unusedVariables false
set_option linter.unusedSimpArgs false

structure Mc.Ok (c : Mc) : Prop where
  e : c.e.Ok
  b : Rm.Byt c.xs
theorem Ch.mok {w0 w : World} {a : Ad} {S0 : Nat → Prop} {c : Mc} (h : Ch w0 a S0 c w) : c.Ok := ⟨h.eok, h.byt⟩
section
variable {c c' : Mc}
theorem Mc.Ok.sr (h : c.Ok) (k : Int) {x : Int} (hx : U x) : (c.sr k x).Ok := by
  unfold Mc.sr
  split
  · exact ⟨Hr.Re.reg_ok h.e hx, h.b⟩
  · exact h
theorem Mc.Ok.add (h : c.Ok) (k x : Int) : (c.add k x).Ok := h.sr k (ad_U _ _)
theorem Mc.Ok.gr (h : c.Ok) (k : Int) : U (c.gr k) := gr_U h.e k
theorem fet_c {x : Int} {r : Option Rz} (hq : c.fet = (x, r, c')) : c' = c ∨ c' = c.add 15 1 := by
  unfold Mc.fet at hq
  split at hq <;> (injection hq with _ e; injection e with _ e; subst e; first | exact .inr rfl | exact .inl rfl)
theorem Mc.Ok.fet (h : c.Ok) {x : Int} {r : Option Rz} (hq : c.fet = (x, r, c')) : c'.Ok := by
  rcases fet_c hq with rfl | rfl
  · exact h
  · exact h.add _ _
theorem Mc.Ok.spc : ∀ (k : Nat) (ys : List Int) (c : Mc) (o z : Int), c.Ok → (Mc.spc k ys c o z).2.2.Ok
  | 0, _, _, _, _, h => h
  | k + 1, ys, c, o, z, h => by
    unfold Mc.spc
    rcases hf : c.fet with ⟨x, _ | r, c1⟩
    · have h1 := h.fet hf
      simp only
      split
      · exact Mc.Ok.spc k _ _ o z h1
      · split <;> exact h1
    · exact h.fet hf
theorem Mc.Ok.bas (h : c.Ok) (s : Bt.Es.Sp) (z : Int) : (c.bas s z).2.2.Ok := by
  unfold Mc.bas
  (repeat' split) <;> first | exact h | exact h.add _ _
theorem Mc.Ok.adr (h : c.Ok) (s : Bt.Es.Sp) (z : Int) : (c.adr s z).2.2.Ok := by
  have := h.bas s z
  unfold Mc.adr
  rcases hb : c.bas s z with ⟨x, r, c1⟩
  rw [hb] at this
  exact this
theorem Mc.Ok.bas_U (h : c.Ok) (s : Bt.Es.Sp) (z : Int) (hx : U s.x) : U (c.bas s z).1 := by
  have hg := h.gr s.r
  unfold Mc.bas
  split
  · exact sb_U _ _
  split
  · exact hg
  split
  · exact get_U (h.add _ _).b _ hg
  split
  · exact ad_U _ _
  split
  · exact get_U h.b _ (ad_U _ _)
  split
  · exact hx
  · exact hg
theorem Mc.Ok.adr_U (h : c.Ok) (s : Bt.Es.Sp) (z : Int) (hx : U s.x) : U (c.adr s z).1 := by
  have := h.bas_U s z hx
  unfold Mc.adr
  rcases hb : c.bas s z with ⟨x, r, c1⟩
  rw [hb] at this
  simp only at this ⊢
  split
  · exact this
  · exact ad_U _ _
theorem mod_U {x z : Int} (hz : Bt.Sz z) : U (x % Bt.W z) := by
  rcases hz with rfl | rfl | rfl <;> exact ⟨by simp [Bt.W]; omega, by simp [Bt.W]; omega⟩
theorem Mc.Ok.eva (h : c.Ok) (o z : Int) : (c.eva o z).2.2.Ok := by
  rcases hs : Mc.spc 8 [] c o z with ⟨s, q, c1⟩
  have h1 := Mc.Ok.spc 8 [] c o z h
  rw [hs] at h1
  rw [eva_evk hs]
  cases q with
  | some r => exact h1
  | none =>
    simp only [Mc.evk]
    by_cases h0 : s.k = 0 ∨ s.k = 12
    · rw [if_pos h0]; exact h1
    rw [if_neg h0]
    by_cases h5 : s.k = 5
    · rw [if_pos h5]; exact h1
    rw [if_neg h5]
    have h2 := h1.adr s z
    rcases ha : c1.adr s z with ⟨x, _ | r, c2⟩
    · rw [ha] at h2
      simp only
      split <;> exact h2
    · rw [ha] at h2
      exact h2
theorem eva_ok (h : c.Ok) {o z : Int} {v : Od} (hz : Bt.Sz z) (hE : c.eva o z = (v, none, c')) : v.Ok ∧ v.z = z := by
  rcases hs : Mc.spc 8 [] c o z with ⟨s, q, c1⟩
  have h1 := Mc.Ok.spc 8 [] c o z h
  rw [hs] at h1
  have hx := spc_U 8 [] c o z
  rw [hs] at hx
  rw [eva_evk hs] at hE
  have u0 : U 0 := ⟨by omega, by omega⟩
  cases q with
  | some r => simp [Mc.evk] at hE
  | none =>
    simp only [Mc.evk] at hE
    by_cases h0 : s.k = 0 ∨ s.k = 12
    · rw [if_pos h0] at hE
      injection hE with e _
      subst e
      exact ⟨⟨hz, mod_U hz, u0⟩, rfl⟩
    rw [if_neg h0] at hE
    by_cases h5 : s.k = 5
    · rw [if_pos h5] at hE
      injection hE with e _
      subst e
      exact ⟨⟨hz, mod_U hz, u0⟩, rfl⟩
    rw [if_neg h5] at hE
    have h2 := h1.adr s z
    have hu := h1.adr_U s z hx
    rcases ha : c1.adr s z with ⟨x, _ | r, c2⟩
    · rw [ha] at hE h2 hu
      simp only at hE
      by_cases ho : o = 114 ∨ o = 109
      · rw [if_pos ho] at hE
        injection hE with e _
        subst e
        exact ⟨⟨hz, get_U h2.b _ hu, hu⟩, rfl⟩
      · rw [if_neg ho] at hE
        injection hE with e _
        subst e
        exact ⟨⟨hz, u0, hu⟩, rfl⟩
    · rw [ha] at hE
      simp at hE
end

/-- Operands of instructions are of those that there are. -/
theorem ops_all : Tl.Ia.upto 256 (fun k => (Tl.Ia.prg (k : Int)).1.ops.all fun o => Bt.Es.gd o.1 o.2 && (decide (0 ≤ o.1) && decide (o.1 < 256))) = true := by kernel_rfl
theorem ops_gd {x : Int} (hx : 0 ≤ x ∧ x < 256) {o : Int × Int} (ho : o ∈ (Tl.Ia.prg x).1.ops) : Bt.Es.gd o.1 o.2 = true ∧ 0 ≤ o.1 ∧ o.1 < 256 := by
  have := Tl.Ia.upto_at ops_all x.toNat (by omega)
  rw [show ((x.toNat : Nat) : Int) = x by omega, List.all_eq_true] at this
  have := this o ho
  simpa using this
theorem ops_len : Tl.Ia.upto 256 (fun k => Nat.ble (Tl.Ia.prg (k : Int)).1.ops.length 6) = true := by kernel_rfl
theorem ops_six {x : Int} (hx : 0 ≤ x ∧ x < 256) : (Tl.Ia.prg x).1.ops.length ≤ 6 := by
  have := Tl.Ia.upto_at ops_len x.toNat (by omega)
  rw [show ((x.toNat : Nat) : Int) = x by omega, Nat.ble_eq] at this
  exact this

/-- An instruction, or a part of one: F does it, G goes on. -/
def Mc.inst (F G : Mc → Dg → Option Rz × Mc) (c : Mc) : Option Rz × Mc :=
  match c.fet with
  | (_, some r, c') => (some r, c')
  | (x, none, c') =>
    if (Tl.Ia.prg x).2 = false ∨ c'.lts (Tl.Ia.prg x).1.cls = false then (some ⟨16, [], false⟩, c')
    else if c'.fp then G c' ⟨c.gr 15, (Tl.Ia.prg x).1, []⟩
    else match c'.evs (Tl.Ia.prg x).1.ops [] with
      | (_, some r, c2) => (some r, c2)
      | (some l, none, c2) => F c2 ⟨c.gr 15, (Tl.Ia.prg x).1, l⟩
      | (none, none, c2) => (none, c2)

end Go.Proofs.YteohkobdmkbcpaaGreatDoor.Cs
