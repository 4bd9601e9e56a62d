/- Contracts of package regs: Undo. -/
import Derived.Test.YtgljkadelkglbaaHFile3
namespace Go.Proofs.Ytgljkadelkglbaa.Cs
open Go.RowKit Ps Tl

/-- a difference modulo 2^32 -/
def sb (a b : Int) : Int := (a - b) % 4294967296
theorem sb_U (a b : Int) : U (sb a b) := U_mod _
/-- the first k registers with what was stepped taken back -/
def ud (rs ss : List Int) : Nat → List Int
  | 0 => rs
  | k + 1 => (ud rs ss k).set k (sb (rs.getD k 0) (ss.getD k 0))
theorem ud_length (rs ss : List Int) (k : Nat) : (ud rs ss k).length = rs.length := by
  induction k with
  | zero => rfl
  | succ k ih => simp [ud, ih]
theorem ud_at (rs ss : List Int) (k j : Nat) (hj : j < rs.length) : (ud rs ss k).getD j 0 = if j < k then sb (rs.getD j 0) (ss.getD j 0) else rs.getD j 0 := by
  induction k with
  | zero => rfl
  | succ k ih =>
    rw [ud, getD_set, ud_length]
    by_cases h : k = j
    · subst h; simp [hj]
    · rw [if_neg (by simp [h]), ih]
      by_cases h2 : j < k
      · rw [if_pos h2, if_pos (by omega)]
      · rw [if_neg h2, if_neg (by omega)]

theorem index_run (ss : List Int) (k : Nat) (hl : ss.length = 16) (hk : k < 16) (w : World) :
    (Instr.index 24 (.agg (c1 ss).toArray) (.int .i64 k)).run Try.prog w = .ok (.int .u32 (ss.getD k 0)) w := by
  have hc := c1_get ss k (by omega)
  have hs : (sizeOf 23).run Try.prog w = .ok 1 w := by kernel_rfl
  have h16 : (k : Int) < 16 := by omega
  unfold Instr.index
  simp only [asIntOf, Sem.run_bind, Sem.run_pure, Result.andThen_ok, run_underlying arr_under]
  rw [if_pos ⟨by omega, h16⟩]
  simp [part, hc, hs]
theorem wl_index {P : Program} {ops : Array Oper} {rest : List Oper} {op : Oper} {a : Act} {w : World} {Q : Exit → Act → World → Prop} (hgd : op.guard = none) (t : TypeId) (x ix : Operand) (ho : op.op = .index t x ix) (v u r : Value) (hx : a.eval x = v) (hi : a.eval ix = u)
    (hr : (Instr.index t v u).run P w = .ok r w) (h : wpList P ops Q rest (a.put op.dst r) w) : wpList P ops Q (op :: rest) a w :=
  wpList_plain hgd fun _ hK => by
    unfold Oper.wp execOp
    simp only [ho, hx, hi, Sem.run_bind, hr, Result.andThen_ok, Sem.run_pure]
    exact hK _ _ h

set_option maxHeartbeats 1000000 in
theorem undo_any (w : World) (g : Nat) (e : Re) (ss : List Int) (n : Int) (h : Fi w g e ss n) :
    Calls Try.prog 14 #[.pointer (some ⟨g, 0, none⟩)] w fun r w' => r = .returned (.tuple #[]) ∧ Fi w' g ⟨ud e.r ss 16, e.p, e.k, e.u⟩ zs 0 ∧ Mods (One g) w w' := by
  have HR : Hid (w.rangeAt g 19 (c1 ss)) := by
    refine h.bk.range 19 _ ?_
    rw [Re.drop_t h.ok]; simp
  have HL := Lib.hid h.sl
  have HF := Lib.hid h
  clear h
  go_enter Try.func14, Try.ntmps14
  go_wp2_with (refine wpList_load_mid rfl 24 _ rfl g 19 rfl (c1 ss) _ HR.out arr_under rfl (arr_of HL.out) ?_)
  go_loopw [10] (fun i W => ∃ k : Nat, k ≤ 16 ∧ i = .int .i64 k ∧ Fi W g ⟨ud e.r ss k, e.p, e.k, e.u⟩ ss n ∧ Mods (One g) w W) (fun i _ => 16 - (intOf i).toNat)
  case atStart => exact ⟨0, by omega, rfl, HF.out, Mods.refl _ _⟩
  case round =>
    obtain ⟨k, hk, rfl, hF, hM⟩ := hrel
    have HE := Lib.hid HF.out.ok.len
    have HF1 := Lib.hid hF
    have HM1 := Lib.hid hM
    clear hF hM HF
    by_cases hlt : k < 16
    · have hk' : (k : Int) < 16 := by omega
      have HI := Lib.hid (index_run ss k HL.out hlt)
      have c := HF1.out.c_r hlt
      obtain ⟨y0, y1⟩ := HF1.out.ok.num k
      obtain ⟨z0, z1⟩ := HF1.out.sn k
      have hy : (Re.mk (ud e.r ss k) e.p e.k e.u).r.getD k 0 = e.r.getD k 0 := by
        show (ud e.r ss k).getD k 0 = _
        rw [ud_at _ _ _ _ (by rw [HE.out]; exact hlt), if_neg (by omega)]
      rw [hy] at c y0 y1
      have HA := Lib.hid (show sb (e.r.getD k 0) (ss.getD k 0) = (e.r.getD k 0 - ss.getD k 0) % 4294967296 from rfl)
      have HD := Lib.hid (show ud e.r ss (k + 1) = (ud e.r ss k).set k (sb (e.r.getD k 0) (ss.getD k 0)) from rfl)
      have HU := Lib.hid (sb_U (e.r.getD k 0) (ss.getD k 0))
      generalize ss.getD k 0 = z at *
      generalize e.r.getD k 0 = y at *
      clear hy
      go_wp2_with (refine wl_index rfl 24 _ _ rfl _ _ _ rfl rfl (HI.out _) ?_)
      go_still_tail 11, (by kernel_rfl)
      change wpList _ _ _ _ _ wr.drew
      have c' : wr.drew.cell? ⟨g, k, none⟩ = some (.int .u32 y) := c
      have HF2 := Lib.hid HF1.out.drew
      have HM2 := Lib.hid HM1.out.drew
      clear c HF1 HM1
      have f := HF2.out.free k
      generalize wr.drew = v at *
      go_wp2
      rw [show (y - z) % 4294967296 = sb y z from HA.out.symm]
      go_roundw
      case rel => exact ⟨k + 1, by omega, by go_num, by rw [HD.out]; exact HF2.out.set_r hlt HU.out, HM2.out.set (p := ⟨g, k, none⟩) (.int .u32 (sb y z)) (.inl rfl)⟩
      case measure => simp [intOf]; omega
    · obtain rfl : k = 16 := by omega
      go_wp2_with (go_at_call 16; refine (forget_any _ g _ ss n HF1.out).mono ?_; rintro _ w' ⟨rfl, hF2, hM2⟩)
      first | go_end0 | (refine bodyPost_ret (results_none rfl _ _ _) rfl ?_)
      exact ⟨rfl, hF2, HM1.out.trans hM2 (fun _ _ h => h)⟩
set_option maxHeartbeats 400000 in
theorem undo_nil (w : World) :
    Calls Try.prog 14 #[.pointer none] w fun r w' => r = .returned (.tuple #[]) ∧ w = w' := by
  go_enter Try.func14, Try.ntmps14
  go_wp2
  first | go_end0 | (refine bodyPost_ret (results_none rfl _ _ _) rfl ?_)
  exact ⟨rfl, rfl⟩
set_option maxHeartbeats 400000 in
theorem put_nil (w : World) (x : Int) :
    Calls Try.prog 18 #[.pointer none, .int .u32 x] w fun r w' => r = .returned (.tuple #[]) ∧ w = w' := by
  go_enter Try.func18, Try.ntmps18
  go_wp2
  first | go_end0 | (refine bodyPost_ret (results_none rfl _ _ _) rfl ?_)
  exact ⟨rfl, rfl⟩
set_option maxHeartbeats 400000 in
theorem load_nil (w : World) (s : Re) (x : Xs) :
    Calls Try.prog 22 #[.pointer none, sv s x] w fun r w' => r = .returned (.tuple #[]) ∧ Below w.heap.size w w' := by
  go_enter Try.func22, Try.ntmps22
  go_wp2_with (refine wl_box rfl _ _ rfl _ rfl ?_)
  first | go_end0 | (refine bodyPost_ret (results_none rfl _ _ _) rfl ?_)
  exact ⟨rfl, (Below.refl _ _).alloc (Nat.le_refl _) _⟩
end Go.Proofs.Ytgljkadelkglbaa.Cs
