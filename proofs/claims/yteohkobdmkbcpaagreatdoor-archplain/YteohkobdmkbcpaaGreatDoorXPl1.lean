/- The ways of reckon, of three operands; Step at an instruction of three registers; a state put into a variable. -/
import Derived.Test.YteohkobdmkbcpaaGreatDoorXRek3
import Derived.Test.YteohkobdmkbcpaaGreatDoorXRk2
import Derived.Test.YteohkobdmkbcpaaGreatDoorXTop
import Derived.Test.YteohkobdmkbcpaaGreatDoorXPln2
import Derived.Test.YteohkobdmkbcpaaGreatDoorXStp2
import Derived.Test.YteohkobdmkbcpaaGreatDoorXMad
import Derived.Deep.WholeRow
namespace Go.Proofs.YteohkobdmkbcpaaGreatDoor.Cs
open Go.RowKit
set_option linter.unusedVariables false
set_option linter.unusedSimpArgs false

theorem rek3_way (q : Tl.Ia.Oq → Prop) (hq : ∀ o, q o → o.ops.length = 3) : Way 109 fRek q := by
  intro w0 a S0 c w d D h hd hqD hf
  have hn : D.l.length = 3 := hf.1.trans (hq _ hqD)
  have oa := (hf.2 0 (by omega)).1
  have ob := (hf.2 1 (by omega)).1
  have ol := (hf.2 2 (by omega)).1
  exact reckon_3 w0 a S0 c w d D h hd hn _ _ _ _ _ _ _ _ _ _ _ _ D.op.cls D.op.alu rfl rfl rfl oa rfl ob rfl ol
theorem rek3_do (q : Tl.Ia.Oq → Prop) (k : Nat) (hk : k = 11 ∨ k = 12 ∨ k = 13 ∨ k = 14 ∨ k = 15 ∨ k = 16) (hqk : ∀ o, q o → o.cls = (k + 1 : Nat)) (hq : ∀ o, q o → o.ops.length = 3) : Way 63 fRek q := by
  have hcf : ∀ xs W, Sem.run Tryz.prog (callFunc 109 xs) W = .ok (.enter 109 xs) W := fun xs W => by kernel_rfl
  refine do_wayq q fRek k 109 hqk (by omega) ?_ hcf (rek3_way q hq)
  rcases hk with rfl | rfl | rfl | rfl | rfl | rfl <;> rfl

end Go.Proofs.YteohkobdmkbcpaaGreatDoor.Cs

namespace Go.Proofs.YteohkobdmkbcpaaGreatDoor.Cs
open Go.RowKit
set_option linter.unusedVariables false
set_option linter.unusedSimpArgs false

theorem lvl_none (p : Int) : lvl p 0 = 0 := by
  unfold lvl
  have : blen 0 = 0 := rfl
  have i0 := (Ps.ip_bound p).1
  rw [this, if_neg (by omega)]
theorem plt_ops {low size : Nat} (hl : low < 7) (hs : size < 3) : (Tl.Ia.prg (pcd low size)).1.cls = 15 ∧ (Tl.Ia.prg (pcd low size)).1.ops.length = 3 := by
  have h := plt_at hl hs
  unfold plt at h
  simp only [Bool.and_eq_true, decide_eq_true_eq] at h
  obtain ⟨_, g2, g3, _, _⟩ := h
  exact ⟨g2, by rw [g3]; rfl⟩
section
variable {w0 : World} {a : Ad} {S0 : Nat → Prop} {c : Mc}
theorem step_pl (w : World) (h : Ch w0 a S0 c w) (hm : c.t.me = 0) (h15 : c.e.r.getD 15 0 = 0) (p0 : 0 ≤ c.e.p) (p1 : c.e.p < 16) (hh : c.ha = 0) {low size r0 r1 r2 : Nat} (hl : low < 7) (hs : size < 3) (q0 : r0 < 15) (q1 : r1 < 15) (q2 : r2 < 15)
    (hx : c.xs = [pcd low size, ((80 + r0 : Nat) : Int), ((80 + r1 : Nat) : Int), ((80 + r2 : Nat) : Int)]) (hb : Rm.Byt c.xs) :
    Calls Tryz.prog 13 #[.pointer (some ⟨a.g, 0, none⟩), .int .u32 0] w fun e w' =>
      (e = .returned (.tuple #[.int .i64 0, .int .i64 0]) ∧ Ch w0 a S0 (pnx c low size r0 r1 r2) w') ∨ (low = 3 ∧ e = .returned (.tuple #[.int .i64 52, .int .i64 0]) ∧ ∃ c', Ch w0 a S0 c' w') := by
  have hr := h.eok.len
  have hlen : c.xs.length = 4 := by rw [hx]; rfl
  have hi := inst_pl hm hr h15 p0 p1 hl hs q0 q1 q2 hx hb
  have f0 := fet_at hm (by omega) hr hb (i := 0) (by omega)
  have e0 : c.sr 15 ((0 : Nat) : Int) = c := sr_self hr h15
  rw [e0] at f0
  have x0 : c.xs.getD 0 0 = pcd low size := by rw [hx]; rfl
  rw [x0] at f0
  obtain ⟨o1, o2⟩ := plt_ops hl hs
  have hF : ∀ x c', c.fet = (x, none, c') → (Tl.Ia.prg x).2 = true → c'.fp = false → Way 63 fRek (· = (Tl.Ia.prg x).1) := fun x c' e _ _ => by
    rw [f0] at e
    obtain ⟨rfl, _⟩ := Prod.mk.inj e
    exact rek3_do _ 14 (by simp) (fun o ho => by rw [ho, o1]; rfl) (fun o ho => by rw [ho, o2])
  have hG : ∀ x c', c.fet = (x, none, c') → (Tl.Ia.prg x).2 = true → c'.fp = true → c'.lts (Tl.Ia.prg x).1.cls = true → WayG 61 fRek (· = (Tl.Ia.prg x).1) := fun x c' e _ hfp _ => by
    rw [f0] at e
    have e2 := (Prod.mk.inj (Prod.mk.inj e).2).2
    subst e2
    have : (c.sr 15 ((0 + 1 : Nat) : Int)).fp = false := by unfold Mc.fp; rw [sr_p]; exact bi_low p0 p1 27 (by omega) (by omega)
    rw [this] at hfp
    cases hfp
  have hU : U 0 := ⟨by omega, by omega⟩
  cases hk : (pan c low size r0 r1).k with
  | true =>
    rw [hk, if_pos rfl] at hi
    refine (step_run fRek fRek w h 0 hU hh (lvl_none _) _ hi hF hG).mono ?_
    rintro e w' ⟨rfl, h', _⟩
    exact .inl ⟨rfl, h'⟩
  | false =>
    have h3 : low = 3 := by
      by_cases e : low = 3
      · exact e
      · have := pan_k (c := c) low size r0 r1 hl hs e
        rw [this] at hk
        cases hk
    rw [hk, if_neg (by simp)] at hi
    refine (step_no fRek fRek w h 0 hU hh (lvl_none _) _ _ hi (by simp) (fun k => ?_) (by simp) hF hG).mono ?_
    · match k with
      | 0 => exact ⟨by simp, by simp⟩
      | k + 1 => simp [U, Pt.U]
    · rintro e w' ⟨rfl, h', _⟩
      exact .inr ⟨h3, rfl, _, h'⟩
end
section
variable {ops : Array Oper} {rest : List Oper} {op : Oper} {a : Act} {w : World} {Q : Exit → Act → World → Prop}
/-- a state into a variable that was made just now -/
theorem wl_keep (hgd : op.guard = none) (q r : Operand) (ho : op.op = .store 28 q r) (W : World) (hw : w = W.alloc (.cells Hr.z26.toArray 28)) (hq : a.eval q = .pointer (some ⟨W.heap.size, 0, none⟩))
    (cs : List Value) (hl : cs.length = 26) (ho1 : ∀ v ∈ cs, v.oneCell' = true) (hr : a.eval r = .agg cs.toArray) (h : wpList Tryz.prog ops Q rest (a.put op.dst undef) (W.alloc (.cells cs.toArray 28))) : wpList Tryz.prog ops Q (op :: rest) a w :=
  wpList_plain hgd fun _ hK => by
    have e := run_storeAt_new (P := Tryz.prog) W 28 Hr.z26.toArray cs.toArray (by rw [List.size_toArray, hl, Hr.st_size]) (by rw [List.size_toArray, List.size_toArray, hl]; rfl) (all_oneCell_toArray ho1)
    unfold Oper.wp execOp
    simp only [ho, hq, hr, hw, Sem.run_bind, Sem.run_pure, e, Result.andThen_ok]
    exact hK _ _ h
end
theorem reg_ok {rs : List Int} {p kk u p' x : Int} (h : Hr.Re.Ok ⟨rs, p, kk, u⟩) (hp : U p') (hx : U x) (i : Nat) : Hr.Re.Ok ⟨rs.set i x, p', kk, u⟩ :=
  ⟨by simpa using h.len, fun j => by
    show U ((rs.set i x).getD j 0)
    by_cases e : j = i
    · subst e
      by_cases hj : j < rs.length
      · rw [List.getD_eq_getElem?_getD, List.getElem?_set_self hj]; exact hx
      · rw [List.getD_eq_getElem?_getD, List.getElem?_eq_none (by simpa using hj)]; exact ⟨by simp, by simp⟩
    · rw [List.getD_eq_getElem?_getD, List.getElem?_set_ne (fun e' => e e'.symm), ← List.getD_eq_getElem?_getD]; exact h.num j, hp, h.k, h.u⟩
end Go.Proofs.YteohkobdmkbcpaaGreatDoor.Cs
