/- Several words in variables; the walk of UwordSets. -/
import Derived.Test.YtdchaalmjhjejaaDoorYLaw
namespace Go.Proofs.YtdchaalmjhjejaaDoor.Cs
open Go.RowKit Go.ChangeShapes Go.WideShapes Tl Tl.Ia
set_option linter.unusedVariables false
set_option linter.unusedSimpArgs false

theorem new_word (w : World) (q : Nat → Int) : Bk ((w.alloc (.cells #[Value.int IntKind.i64 0, Value.int IntKind.i64 0, Value.int IntKind.i64 0, Value.int IntKind.i64 0, Value.int IntKind.i64 0, Value.int IntKind.i64 0, Value.int IntKind.i64 0, Value.int IntKind.i64 0, Value.int IntKind.i64 0, Value.int IntKind.i64 0, Value.int IntKind.i64 0, Value.int IntKind.i64 0] 23)).setCells w.heap.size 0 (cw q)) w.heap.size 23 (cw q) ∧ Below w.heap.size w ((w.alloc (.cells #[Value.int IntKind.i64 0, Value.int IntKind.i64 0, Value.int IntKind.i64 0, Value.int IntKind.i64 0, Value.int IntKind.i64 0, Value.int IntKind.i64 0, Value.int IntKind.i64 0, Value.int IntKind.i64 0, Value.int IntKind.i64 0, Value.int IntKind.i64 0, Value.int IntKind.i64 0, Value.int IntKind.i64 0] 23)).setCells w.heap.size 0 (cw q)) :=
  ⟨(Bk.new w 23 (cw fun _ => 0)).whole (cw q) rfl, below_cells _ _ (al1 _ _) (Nat.le_refl _)⟩
theorem new_there (w : World) (q : Nat → Int) : (w.alloc (.cells #[Value.int IntKind.i64 0, Value.int IntKind.i64 0, Value.int IntKind.i64 0, Value.int IntKind.i64 0, Value.int IntKind.i64 0, Value.int IntKind.i64 0, Value.int IntKind.i64 0, Value.int IntKind.i64 0, Value.int IntKind.i64 0, Value.int IntKind.i64 0, Value.int IntKind.i64 0, Value.int IntKind.i64 0] 23)).there w.heap.size 0 (cw q).toArray.size := (Bk.new w 23 (cw fun _ => 0)).there 0 12 (by decide)

/-- words in variables -/
structure Ws (w : World) (l : List (Nat × (Nat → Int))) (W : World) : Prop where
  ks : ∀ x ∈ l, Bk W x.1 23 (cw x.2)
  bel : Below w.heap.size w W
  gl : Gl W
section
variable {w W W' : World} {l : List (Nat × (Nat → Int))}
theorem Ws.below (h : Ws w l W) (m : Below W.heap.size W W') : Ws w l W' := ⟨fun x hx => (h.ks x hx).below m, bel_trans h.bel m h.bel.size, h.gl.below m⟩
theorem Ws.box (w : World) (q : Nat → Int) (g : Gl w) : Ws w [(w.heap.size, q)] (w.alloc (.cells (cw q).toArray 23)) :=
  ⟨fun x hx => by simp at hx; subst hx; exact Bk.new _ _ _, al1 _ _, g.below (al1 _ _)⟩
theorem Ws.add (h : Ws w l W) (q : Nat → Int) (m : Below W.heap.size W W') (b : Nat) (k : Bk W' b 23 (cw q)) : Ws w ((b, q) :: l) W' :=
  ⟨fun x hx => by
    rcases List.mem_cons.1 hx with rfl | hx
    · exact k
    · exact (h.ks x hx).below m, bel_trans h.bel m h.bel.size, h.gl.below m⟩
theorem Ws.at_ (h : Ws w l W) (b : Nat) (q : Nat → Int) (hx : (b, q) ∈ l) : Bk W b 23 (cw q) := h.ks _ hx
end

theorem stF_cases (p : Nat → Int) (l : List UInt8) (x : Int) : (∃ e : Int, stF p l x = (p, e) ∧ (e == 0) = false) ∨ ∃ i : Nat, i < 12 ∧ ix l = i ∧ l = nmk i ∧ ft x (wd i) = true ∧ stF p l x = (st p i x, 0) := by
  rcases ix_spec l with ⟨h1, -⟩ | ⟨k, hk, h1, h2⟩
  · left; refine ⟨5, ?_, by decide⟩; unfold stF; rw [h1]; rfl
  · cases hf : ft x (wd k)
    · left; refine ⟨1, ?_, by decide⟩; unfold stF; rw [h1, if_neg (by omega), Int.toNat_natCast, hf]; rfl
    · right; refine ⟨k, hk, h1, h2, hf, ?_⟩; unfold stF; rw [h1, if_neg (by omega), Int.toNat_natCast, hf]; rfl
theorem stF_at (p : Nat → Int) {l : List UInt8} {x : Int} {i : Nat} (h : ix l = i) (hf : ft x (wd i) = true) : stF p l x = (st p i x, 0) := by
  unfold stF; rw [h, if_neg (by omega), Int.toNat_natCast, hf]; rfl
theorem gt_at (p : Nat → Int) {l : List UInt8} {i : Nat} (h : ix l = i) : gt p l = p i := by
  unfold gt; rw [h, if_neg (by omega), Int.toNat_natCast]
/-- what a call of Set comes to -/
abbrev StC (p : Nat → Int) (l : List UInt8) (x : Int) (q : Nat → Int) (e : Int) : Prop := ∀ W, Gl W → Calls Tryd.prog 15 #[.agg (cw p).toArray, .string (sb l), .int .i64 x] W fun r w' => r = .returned (.tuple #[.agg (cw q).toArray, .int .i64 e]) ∧ Below W.heap.size W w'
theorem stC_of {p : Nat → Int} {l : List UInt8} {x : Int} {q : Nat → Int} {e : Int} (h : stF p l x = (q, e)) : StC p l x q e := fun W g => by
  have := set_any p l x W g
  rw [h] at this
  exact this
abbrev GtC (p : Nat → Int) (l : List UInt8) (x : Int) : Prop := ∀ W, Gl W → Calls Tryd.prog 18 #[.agg (cw p).toArray, .string (sb l)] W fun r w' => r = .returned (.int .i64 x) ∧ Below W.heap.size W w'
theorem gtC_of {p : Nat → Int} {l : List UInt8} {x : Int} (h : gt p l = x) : GtC p l x := fun W g => by
  have := get_any p l W g
  rw [h] at this
  exact this
end Go.Proofs.YtdchaalmjhjejaaDoor.Cs
