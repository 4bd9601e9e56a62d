/- The variables of a law: its operand, a specifier, another one. -/
import Derived.Test.YtmhdhffpndiodaaEOpn
namespace Go.Proofs.Ytmhdhffpndiodaa.Cs
open Go.RowKit

/-- the operand at block p, a specifier at block g -/
structure L1 (w : World) (p : Nat) (a z : Int) (g : Nat) (s : Sp) (W : World) : Prop where
  opr : Bk W p 24 [.int .u8 a, .int .i64 z]
  var : Bk W g 28 s.cells
  bel : Below w.heap.size w W
  le : w.heap.size ≤ p
  lt : p < g
/-- .. and another one at block h -/
structure L2 (w : World) (p : Nat) (a z : Int) (g : Nat) (s : Sp) (h : Nat) (t : Sp) (W : World) : Prop where
  one : L1 w p a z g s W
  var : Bk W h 28 t.cells
  lt : g < h
section
variable {w W V : World} {p : Nat} {a z : Int} {g h : Nat} {s t : Sp}
theorem L1.below (l : L1 w p a z g s W) (b : Below W.heap.size W V) : L1 w p a z g s V := ⟨l.opr.below b (Nat.le_refl _), l.var.below b (Nat.le_refl _), bel2 l.bel b, l.le, l.lt⟩
theorem L1.mods {S : Nat → Prop} {B : Nat} (l : L1 w p a z g s W) (m : Mods S W V) (hS : ∀ k, S k → B ≤ k) (hB : g < B) : L1 w p a z g s V :=
  ⟨l.opr.mods m (fun k => by have := hS _ k; have := l.lt; omega), l.var.mods m (fun k => by have := hS _ k; omega), m.below l.bel (fun k hk => by have := hS k hk; have := l.lt; have := l.le; omega) (by have := l.lt; have := l.le; have := l.var.lt; omega), l.le, l.lt⟩
theorem L1.o0 (l : L1 w p a z g s W) : W.cell? ⟨p, 0, none⟩ = some (.int .u8 a) := l.opr.cell 0 _ rfl
theorem L1.o1 (l : L1 w p a z g s W) : W.cell? ⟨p, 1, none⟩ = some (.int .i64 z) := l.opr.cell 1 _ rfl
theorem L1.v0 (l : L1 w p a z g s W) : W.cell? ⟨g, 0, none⟩ = some (.int .i64 s.k) := l.var.cell 0 _ rfl
theorem L1.v1 (l : L1 w p a z g s W) : W.cell? ⟨g, 1, none⟩ = some (.int .i64 s.r) := l.var.cell 1 _ rfl
theorem L1.v2 (l : L1 w p a z g s W) : W.cell? ⟨g, 2, none⟩ = some (.int .i64 s.i) := l.var.cell 2 _ rfl
theorem L1.v3 (l : L1 w p a z g s W) : W.cell? ⟨g, 3, none⟩ = some (.int .u32 s.x) := l.var.cell 3 _ rfl
theorem L1.v4 (l : L1 w p a z g s W) : W.cell? ⟨g, 4, none⟩ = some (.int .i64 s.n) := l.var.cell 4 _ rfl
theorem L1.vf (l : L1 w p a z g s W) : ∀ i, W.frozen? ⟨g, i, none⟩ = false := l.var.free
theorem L1.glt (l : L1 w p a z g s W) : g < W.heap.size := l.var.lt
theorem L2.below (l : L2 w p a z g s h t W) (b : Below W.heap.size W V) : L2 w p a z g s h t V := ⟨l.one.below b, l.var.below b (Nat.le_refl _), l.lt⟩
theorem L2.t0 (l : L2 w p a z g s h t W) : W.cell? ⟨h, 0, none⟩ = some (.int .i64 t.k) := l.var.cell 0 _ rfl
theorem L2.t1 (l : L2 w p a z g s h t W) : W.cell? ⟨h, 1, none⟩ = some (.int .i64 t.r) := l.var.cell 1 _ rfl
theorem L2.t2 (l : L2 w p a z g s h t W) : W.cell? ⟨h, 2, none⟩ = some (.int .i64 t.i) := l.var.cell 2 _ rfl
theorem L2.t3 (l : L2 w p a z g s h t W) : W.cell? ⟨h, 3, none⟩ = some (.int .u32 t.x) := l.var.cell 3 _ rfl
theorem L2.t4 (l : L2 w p a z g s h t W) : W.cell? ⟨h, 4, none⟩ = some (.int .i64 t.n) := l.var.cell 4 _ rfl
theorem L2.tlt (l : L2 w p a z g s h t W) : h < W.heap.size := l.var.lt
theorem L1.new {p : Nat} (ho : Bk W p 24 [.int .u8 a, .int .i64 z]) (b : Below w.heap.size w W) (hp : w.heap.size ≤ p) (k r i x n : Int) :
    L1 w p a z W.heap.size ⟨k, r, i, x, n⟩ (W.alloc (.cells #[.int .i64 k, .int .i64 r, .int .i64 i, .int .u32 x, .int .i64 n] 28)) :=
  ⟨ho.below (al1 _ _) (Nat.le_refl _), Bk.new W _ [.int .i64 k, .int .i64 r, .int .i64 i, .int .u32 x, .int .i64 n], bel2 b (al1 _ _), hp, ho.lt⟩
theorem L2.new (l : L1 w p a z g s W) (k r i x n : Int) : L2 w p a z g s W.heap.size ⟨k, r, i, x, n⟩ (W.alloc (.cells #[.int .i64 k, .int .i64 r, .int .i64 i, .int .u32 x, .int .i64 n] 28)) :=
  ⟨l.below (al1 _ _), Bk.new W _ [.int .i64 k, .int .i64 r, .int .i64 i, .int .u32 x, .int .i64 n], l.glt⟩
theorem L2.put (l : L1 w p a z g s W) {b0 b1 b2 b3 b4 : Value} (hb : Bk W h 28 [b0, b1, b2, b3, b4]) (hg : g < h) (k r i x n : Int) :
    L2 w p a z g s h ⟨k, r, i, x, n⟩ (((((W.setCell ⟨h, 0, none⟩ (.int .i64 k)).setCell ⟨h, 1, none⟩ (.int .i64 r)).setCell ⟨h, 2, none⟩ (.int .i64 i)).setCell ⟨h, 3, none⟩ (.int .u32 x)).setCell ⟨h, 4, none⟩ (.int .i64 n)) := by
  have h1 := l.lt
  have h2 := l.le
  exact ⟨⟨((((l.opr.far (by omega) 0 _).far (by omega) 1 _).far (by omega) 2 _).far (by omega) 3 _).far (by omega) 4 _, ((((l.var.far (by omega) 0 _).far (by omega) 1 _).far (by omega) 2 _).far (by omega) 3 _).far (by omega) 4 _, by
    iterate 5 refine Below.setCell ?_ (by simp; omega) _
    exact l.bel, h2, h1⟩, ((((hb.set 0 _).set 1 _).set 2 _).set 3 _).set 4 _, hg⟩
end

/-- noughts in a variable -/
abbrev nil5 : List Value := [.int .i64 0, .int .i64 0, .int .i64 0, .int .u32 0, .int .i64 0]
theorem Bk.five {w : World} {g T : Nat} {b0 b1 b2 b3 b4 : Value} (h : Bk w g T [b0, b1, b2, b3, b4]) :
    w.cell? ⟨g, 0, none⟩ = some b0 ∧ w.cell? ⟨g, 1, none⟩ = some b1 ∧ w.cell? ⟨g, 2, none⟩ = some b2 ∧ w.cell? ⟨g, 3, none⟩ = some b3 ∧ w.cell? ⟨g, 4, none⟩ = some b4 ∧ (∀ i, w.frozen? ⟨g, i, none⟩ = false) ∧ g < w.heap.size :=
  ⟨h.cell 0 _ rfl, h.cell 1 _ rfl, h.cell 2 _ rfl, h.cell 3 _ rfl, h.cell 4 _ rfl, h.free, h.lt⟩

end Go.Proofs.Ytmhdhffpndiodaa.Cs
