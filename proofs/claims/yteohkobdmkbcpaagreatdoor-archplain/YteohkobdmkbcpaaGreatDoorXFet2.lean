/- Contracts: fetch, codes, carry, begun, lets. -/
import Derived.Test.YteohkobdmkbcpaaGreatDoorXFet
namespace Go.Proofs.YteohkobdmkbcpaaGreatDoor.Cs
open Go.RowKit
set_option linter.unusedVariables false
set_option linter.unusedSimpArgs false

/-- A block that no call of a machine turns. -/
def Pc (w : World) (k : Nat) : Prop := ∃ t, Mm.Typ w k t ∧ ¬ Mty t ∧ t ≠ 5
section
variable {w0 w w' : World} {a : Ad} {S0 : Nat → Prop} {c : Mc} {k : Nat}
theorem Pc.below (h : Pc w k) (b : Below w.heap.size w w') : Pc w' k := by
  obtain ⟨t, h1, h2⟩ := h
  exact ⟨t, typ_eq h1 (b.block _ (typ_lt h1)), h2⟩
theorem Pc.lt (h : Pc w k) : k < w.heap.size := by obtain ⟨t, h1, h2⟩ := h; exact typ_lt h1
theorem Mv.heap (m : Mv a w w') (h : Ch w0 a S0 c w) (p : Pc w k) : w'.heap[k]? = w.heap[k]? := by
  obtain ⟨t, h1, h2, h3⟩ := p
  exact m.keep _ t (h.r_ne h1 h3) h2 h1
theorem Pc.mv (p : Pc w k) (m : Mv a w w') (h : Ch w0 a S0 c w) : Pc w' k := by
  have := m.heap h p
  obtain ⟨t, h1, h2⟩ := p
  exact ⟨t, typ_eq h1 this, h2⟩
theorem Mv.cell (m : Mv a w w') (h : Ch w0 a S0 c w) (p : Pc w k) (i : Nat) : w'.cell? ⟨k, i, none⟩ = w.cell? ⟨k, i, none⟩ := by
  simp only [World.cell?]; rw [m.heap h p]
end
def Mc.fp (c : Mc) : Bool := Ps.bi c.e.p 27
def Mc.lts (c : Mc) (cl : Int) : Bool := if c.fp then Tl.Ia.stg cl else !c.us || (cl != 38 && cl != 39)
section
variable {w0 : World} {a : Ad} {S0 : Nat → Prop} {c : Mc}
set_option maxHeartbeats 400000 in
set_option maxRecDepth 100000 in
theorem begun_any (w : World) (h : Ch w0 a S0 c w) : Calls Tryz.prog 60 #[.pointer (some ⟨a.g, 0, none⟩)] w fun e w' => e = .returned (.bool c.fp) ∧ w = w' := by
  have H := Lib.hid h
  have c2 := h.c2
  have HB := Lib.hid (Ps.and_bit h.eok.p 27 (by omega))
  clear h
  go_enter Tryz.func60, Tryz.ntmps60
  go_wp2_with (first
    | (go_at_call 30; refine (fpsl _ H.out).mono ?_; rintro e w1 ⟨rfl, rfl⟩)
    | fail)
  go_ret
  exact ⟨Ps.ret_bool HB.out, rfl⟩
set_option maxHeartbeats 400000 in
set_option maxRecDepth 100000 in
theorem lets_any (w : World) (h : Ch w0 a S0 c w) (cl : Int) : Calls Tryz.prog 58 #[.pointer (some ⟨a.g, 0, none⟩), .int .i64 cl] w fun e w' => e = .returned (.bool (c.lts cl)) ∧ w = w' := by
  have H := Lib.hid h
  clear h
  by_cases hf : c.fp = true
  · have HL : Hid (c.lts cl = Tl.Ia.stg cl) := by show _ = _; rw [Mc.lts, if_pos hf]
    have HF := Lib.hid hf
    clear hf
    go_enter Tryz.func58, Tryz.ntmps58
    go_wp2_with (first
      | (go_at_call 60; refine (begun_any _ H.out).mono ?_; rintro e w1 ⟨rfl, rfl⟩; rw [HF.out])
      | (go_at_call 84; refine (Tl.Ia.string_any _ _).mono ?_; rintro e w1 ⟨rfl, rfl⟩)
      | fail)
    go_ret
    exact ⟨Ps.ret_bool HL.out.symm, rfl⟩
  · have hf' : c.fp = false := by simpa using hf
    have HF := Lib.hid hf'
    have HL : Hid (c.lts cl = (!c.us || (cl != 38 && cl != 39))) := by show _ = _; rw [Mc.lts, if_neg hf]
    have HU := Lib.hid (fun W hW => user_any (w0 := w0) (a := a) (S0 := S0) (c := c) W hW)
    clear hf hf'
    generalize c.us = u at HL HU
    generalize c.lts cl = q at HL ⊢
    by_cases h8 : cl = 38
    · subst h8
      cases u
      all_goals
        go_enter Tryz.func58, Tryz.ntmps58
        go_wp2_with (first
          | (go_at_call 60; refine (begun_any _ H.out).mono ?_; rintro e w1 ⟨rfl, rfl⟩; rw [HF.out])
          | (go_at_call 85; refine (HU.out _ H.out).mono ?_; rintro e w1 ⟨rfl, rfl⟩)
          | fail)
        go_ret
        exact ⟨Ps.ret_bool HL.out.symm, rfl⟩
    · have h8' : (cl != 38) = true := by simpa using h8
      rw [h8'] at HL
      cases u
      all_goals
        go_enter Tryz.func58, Tryz.ntmps58
        go_wp2_with (first
          | (go_at_call 60; refine (begun_any _ H.out).mono ?_; rintro e w1 ⟨rfl, rfl⟩; rw [HF.out])
          | (go_at_call 85; refine (HU.out _ H.out).mono ?_; rintro e w1 ⟨rfl, rfl⟩)
          | fail)
        go_ret
        exact ⟨Ps.ret_bool HL.out.symm, rfl⟩

set_option maxHeartbeats 400000 in
set_option maxRecDepth 100000 in
theorem carry_any (w : World) (h : Ch w0 a S0 c w) : Calls Tryz.prog 177 #[.pointer (some ⟨a.g, 0, none⟩)] w fun e w' => e = .returned (.bool c.cy) ∧ Below w.heap.size w w' := by
  have H := Lib.hid h
  have c2 := h.c2
  have HFl := fun W => Lib.hid (Ps.flags_any c.e.p h.eok.p W)
  have fld3 : ∀ (q : Value) (x y z : Value) (w : World), (Instr.field 39 (.agg #[x, y, z, q]) 3).run Tryz.prog w = .ok q w := fun _ _ _ _ _ => rfl
  clear h
  go_enter Tryz.func177, Tryz.ntmps177
  go_wp2_with (first
    | (go_at_call 30; refine (fpsl _ H.out).mono ?_; rintro e w1 ⟨rfl, rfl⟩)
    | (go_at_call 167; refine (HFl _).out.mono ?_; rintro e w1 ⟨rfl, h1⟩; have H1 := Lib.hid h1; clear h1)
    | fail)
  exact bodyPost_ret (v := .bool c.cy) (by simp [results, Tryz.results177, go_sem, Mc.cy]) rfl ⟨rfl, H1.out⟩


set_option maxHeartbeats 1000000 in
set_option maxRecDepth 100000 in
theorem codes_any (w : World) (h : Ch w0 a S0 c w) (fn fz fv fc : Bool) : Calls Tryz.prog 166 #[.pointer (some ⟨a.g, 0, none⟩), .agg #[.bool fn, .bool fz, .bool fv, .bool fc]] w fun e w' => e = .returned (.tuple #[]) ∧ Ch w0 a S0 (c.cod ⟨fn, fz, fv, fc⟩) w' ∧ Mv a w w' := by
  have H := Lib.hid h
  have HW := fun W => Lib.hid (Ps.with_any c.e.p fn fz fv fc h.eok.p W)
  have HP : Hid (∀ W, Ch w0 a S0 c W → Calls Tryz.prog 52 #[.pointer (some ⟨a.fg, 0, none⟩), .int .u32 (Ps.wi c.e.p (Ps.cd fn fz fv fc))] W fun e w' => e = .returned (.tuple #[]) ∧ Ch w0 a S0 (c.cod ⟨fn, fz, fv, fc⟩) w' ∧ Mv a W w') := Lib.hid fun W hW => fput W hW _ (Ps.wi_U hW.eok.p _ _ _ _)
  clear h
  go_enter Tryz.func166, Tryz.ntmps166
  go_wp2_with fail
  have B0 := Lib.hid (show Below w.heap.size w (w.alloc (.cells #[.bool fn, .bool fz, .bool fv, .bool fc] 39)) by go_grown)
  have K := Lib.hid (nx_below H.out B0.out)
  have d2 := K.out.1.c2
  have hb0 : (w.alloc (.cells #[.bool fn, .bool fz, .bool fv, .bool fc] 39)).heap[w.heap.size]? = some (.cells #[.bool fn, .bool fz, .bool fv, .bool fc] 39 (0, 0)) := heap_alloc_new _ _
  generalize w.alloc (.cells #[.bool fn, .bool fz, .bool fv, .bool fc] 39) = W at *
  have hlt := K.out.1.glt
  have hlt2 := Tl.lt_of_heap hb0
  have b0 : W.cell? ⟨w.heap.size, 0, none⟩ = some (.bool fn) := by rw [cell_of_row W w.heap.size 0 _ _ _ hb0]; rfl
  have b1 : W.cell? ⟨w.heap.size, 1, none⟩ = some (.bool fz) := by rw [cell_of_row W w.heap.size 1 _ _ _ hb0]; rfl
  have b2 : W.cell? ⟨w.heap.size, 2, none⟩ = some (.bool fv) := by rw [cell_of_row W w.heap.size 2 _ _ _ hb0]; rfl
  have b3 : W.cell? ⟨w.heap.size, 3, none⟩ = some (.bool fc) := by rw [cell_of_row W w.heap.size 3 _ _ _ hb0]; rfl
  have hp : Pc W w.heap.size := ⟨_, ⟨_, _, hb0⟩, by simp [Mty], by decide⟩
  clear hb0
  generalize w.heap.size = g at *
  go_region_held3 (fun w' => w'.cell? ⟨a.g, 2, none⟩ = some (.pointer (some ⟨a.fg, 0, none⟩)) ∧ w'.cell? ⟨g, 0, none⟩ = some (.bool fn) ∧ w'.cell? ⟨g, 1, none⟩ = some (.bool fz) ∧ w'.cell? ⟨g, 2, none⟩ = some (.bool fv) ∧ w'.cell? ⟨g, 3, none⟩ = some (.bool fc))
    (first | go_keep | exact ⟨h3.c2, (m3.cell hC2 (hp.below hb2) 0).trans ((hb2.cell hlt2).trans b0), (m3.cell hC2 (hp.below hb2) 1).trans ((hb2.cell hlt2).trans b1), (m3.cell hC2 (hp.below hb2) 2).trans ((hb2.cell hlt2).trans b2), (m3.cell hC2 (hp.below hb2) 3).trans ((hb2.cell hlt2).trans b3)⟩ | exact ⟨(hb2.cell hlt).trans d2, (hb2.cell hlt2).trans b0, (hb2.cell hlt2).trans b1, (hb2.cell hlt2).trans b2, (hb2.cell hlt2).trans b3⟩)
    (first
      | (go_at_call 30; refine (fpsl _ (K.out.1.below (by go_grown))).mono ?_; rintro e w1 ⟨rfl, rfl⟩)
      | (go_at_call 215; refine (HW _).out.mono ?_; rintro e w2 ⟨rfl, hb2'⟩; have hb2 := Tl.bel2 (a := W) (by go_grown) hb2'; have hC2 := K.out.1.below hb2)
      | (go_at_call 52; refine (HP.out _ hC2).mono ?_; rintro e w3 ⟨rfl, h3, m3⟩))
  all_goals
    go_wp2
    first | go_end0 | (refine bodyPost_ret (results_none rfl _ _ _) rfl ?_)
    exact ⟨rfl, h3, (K.out.2.trans (Mv.of_below hb2)).trans m3⟩
end

end Go.Proofs.YteohkobdmkbcpaaGreatDoor.Cs
