/- What each law of words holds: words in variables, loaded and compared, also under guards and in regions that draw their order; alive. -/
import Derived.Test.YtdchaalmjhjejaaDoorYRun
import Derived.OpenShut
namespace Go.Proofs.YtdchaalmjhjejaaDoor.Cs
open Go.RowKit Go.ChangeShapes Go.WideShapes Tl Tl.Ia
set_option linter.unusedVariables false
set_option linter.unusedSimpArgs false

section
variable {ops : Array Oper} {rest : List Oper} {op : Oper} {a : Act} {w : World} {Q : Exit → Act → World → Prop}
theorem wpList_want {P : Program} (hw : Region.wanted op (yielded ops a.tmps) = true)
    (h : ∀ K : Act → World → Prop, (∀ a w, wpList P ops Q rest a w → K a w) → op.wp P a w K Q) : wpList P ops Q (op :: rest) a w :=
  wpList_step fun K hK => by rw [if_pos hw]; exact h K hK
theorem wl_ld (hw : Region.wanted op (yielded ops a.tmps) = true) (x : Operand) (ho : op.op = .load 23 x) (b : Nat) (hx : a.eval x = .pointer (some ⟨b, 0, none⟩)) (p : Nat → Int) (hb : Bk w b 23 (cw p))
    (h : wpList Tryd.prog ops Q rest (a.put op.dst (.agg (cw p).toArray)) w) : wpList Tryd.prog ops Q (op :: rest) a w :=
  wpList_want hw fun _ hK => wp_load_mid 23 x ho b 0 hx (cw p) _ (hb.range 0 _ (by simp)) Tryd.underlying23 rfl wd_size (hK _ _ h)
theorem wl_eqw (hw : Region.wanted op (yielded ops a.tmps) = true) (q r : Operand) (t' : TypeId) (ho : op.op = .binOp .eql 23 q r t') (u v : Nat → Int) (hq : a.eval q = .agg (cw u).toArray) (hr : a.eval r = .agg (cw v).toArray)
    (h : wpList Tryd.prog ops Q rest (a.put op.dst (.bool (eqw u v))) w) : wpList Tryd.prog ops Q (op :: rest) a w :=
  wpList_want hw fun _ hK => by
    unfold Oper.wp execOp
    simp only [ho, hq, hr, Sem.run_bind, Sem.run_pure, eqg_word u v q r w, eql_word u v w, Result.andThen_ok]
    exact hK _ _ h
end

theorem X_of {x : Int} (h : (Lit.int .u64 x).wf = true) : 0 ≤ x ∧ x < 18446744073709551616 := by have := bounds_u64 h; omega
theorem eqw_self (p : Nat → Int) : eqw p p = true := (eqw_iff p p).2 fun _ _ => rfl
theorem eqw_of {p q : Nat → Int} (h : ∀ k, k < 12 → p k = q k) : eqw p q = true := (eqw_iff p q).2 h

section
variable {C : World → Prop} {K : Act → Prop} {a : Act} {o : Oper}
theorem quiet_run {P : Program} (v : Value) (h : ∀ w, C w → (execOp a.eval o).run P w = .ok (.value v) w) (hk : K (a.put o.dst v)) : o.quiet P a C K :=
  ⟨v, fun w hw => by unfold Oper.quietAt; rw [h w hw]; exact ⟨rfl, rfl⟩, hk⟩
theorem quiet_word (q : Operand) (ho : o.op = .load 23 q) (b : Nat) (hq : a.eval q = .pointer (some ⟨b, 0, none⟩)) (p : Nat → Int) (hs : ∀ w, C w → Bk w b 23 (cw p))
    (hk : K (a.put o.dst (.agg (cw p).toArray))) : o.quiet Tryd.prog a C K :=
  quiet_run (.agg (cw p).toArray) (fun w hw => by
    unfold execOp
    simp only [ho, hq, Instr.loadAt, Instr.sureAddr, Sem.run_bind, Sem.run_pure, Result.andThen_ok, word_load (hs w hw)]) hk
theorem quiet_eqw (q r : Operand) (t' : TypeId) (ho : o.op = .binOp .eql 23 q r t') (u v : Nat → Int) (hq : a.eval q = .agg (cw u).toArray) (hr : a.eval r = .agg (cw v).toArray) (hk : K (a.put o.dst (.bool (eqw u v)))) : o.quiet Tryd.prog a C K :=
  quiet_run (.bool (eqw u v)) (fun w _ => by
    unfold execOp
    simp only [ho, hq, hr, Sem.run_bind, Sem.run_pure, Result.andThen_ok, eqg_word u v q r w, eql_word u v w]) hk
end
theorem later_bk {W : World} {b T : Nat} {l : List Value} (h : Bk W b T l) : ∀ w, (∃ p : Later W, w = p.v) → Bk w b T l := by
  rintro _ ⟨p, rfl⟩
  exact h.below p.h

def pal : Nat → Int := fun k => if k = 0 then 1 else if k = 1 then 2 else 0
theorem pack_al (w : World) (hg : Gl w) : Calls Tryd.prog 20 #[.agg #[.int .i64 1, .int .i64 2, .int .i64 0, .int .i64 0, .int .i64 0, .int .i64 0, .int .i64 0, .int .i64 0, .int .i64 0, .int .i64 0, .int .i64 0, .int .i64 0]] w fun e w' => e = .returned (.tuple #[.int .u64 65, .int .i64 0]) ∧ Below w.heap.size w w' := by
  have h := pack_any pal w hg
  have e : cw pal = [.int .i64 1, .int .i64 2, .int .i64 0, .int .i64 0, .int .i64 0, .int .i64 0, .int .i64 0, .int .i64 0, .int .i64 0, .int .i64 0, .int .i64 0, .int .i64 0] := rfl
  rw [e, show gd pal = true by decide, show pn pal = 65 by decide] at h
  exact h
theorem alive_any (w : World) (hg : Gl w) : Calls Tryd.prog 9 #[] w fun e w' => e = .returned (.bool true) ∧ Below w.heap.size w w' := by
  have HP := Lib.hid (pack_al w hg)
  clear hg
  go_enter Tryd.func9, Tryd.ntmps9
  go_wp2_with (first | (go_at_call 20; refine HP.out.mono ?_; rintro e w1 ⟨rfl, hb⟩; have HB := Lib.hid hb; clear hb) | fail)
  go_ret
  exact ⟨rfl, HB.out⟩
end Go.Proofs.YtdchaalmjhjejaaDoor.Cs
