/- The document's own reckoning of layer 10: Same, of two that are the same. -/
import Derived.Test.YtppkpfkoggnbmaaGreatDoorIDoc8
import Derived.Deep.QuietTactic
import Derived.BigQuiet
namespace Go.Proofs.YtppkpfkoggnbmaaGreatDoor.Cs.Ia
open Go.RowKit

theorem ro_at {w : World} {r n c : Nat} {xs : List (Int × Int)} (h : Ro w (.slice (some ⟨r, 0, none⟩) n c) xs) (k : Nat) (hk : k < xs.length) :
    w.cell? ⟨r, k * 2, none⟩ = some (.int .u8 (opn xs k).1) ∧ w.cell? ⟨r, k * 2 + 1, none⟩ = some (.int .i64 (opn xs k).2) := by
  rcases own_shape h with ⟨h, _⟩ | ⟨r', cap', e1, _, _, _, hc, _⟩
  · cases h
  · injection e1 with e1 _ _
    injection e1 with e1
    injection e1 with e1
    subst e1
    exact ⟨hc _ _ (cop_get0 xs k hk), hc _ _ (cop_get1 xs k hk)⟩
/-- A slice of operands: none, or at a block. -/
theorem ro_some {w : World} {u : Value} {xs : List (Int × Int)} (h : Ro w u xs) (h0 : xs.length ≠ 0) : ∃ r c, u = .slice (some ⟨r, 0, none⟩) xs.length c ∧ r < w.heap.size := by
  rcases own_shape h with ⟨_, h1⟩ | ⟨r, cap, e, hr⟩
  · exact absurd h1 h0
  · refine ⟨r, cap, e, ?_⟩
    have := own_lo h r (by rw [e]; simp [Bl, Value.ownBlock])
    exact this

/-- Two instructions, boxed. -/
structure Sa (w : World) (x : Oq) (u v : Value) (W : World) : Prop where
  one : Bk W w.heap.size 41 (x.cells u)
  two : Bk W (w.heap.size + 1) 41 (x.cells v)
  ou : Ro W u x.ops
  ov : Ro W v x.ops
  bel : Below w.heap.size w W
theorem Sa.first {w : World} {x : Oq} {u v : Value} (hu : Ro w u x.ops) (hv : Ro w v x.ops) : Sa w x u v ((w.alloc (.cells (x.cells u).toArray 41)).alloc (.cells (x.cells v).toArray 41)) := by
  have b1 : Below w.heap.size w (w.alloc (.cells (x.cells u).toArray 41)) := (Below.refl _ _).alloc (Nat.le_refl _) _
  have b2 : ∀ (W : World) o, Below W.heap.size W (W.alloc o) := fun W o => (Below.refl _ _).alloc (Nat.le_refl _) _
  have hs : (w.alloc (.cells (x.cells u).toArray 41)).heap.size = w.heap.size + 1 := by show (w.heap.push _).size = _; rw [Array.size_push]
  refine ⟨(Bk.new w _ _).below (b2 _ _), ?_, own_below (own_below hu b1) (b2 _ _), own_below (own_below hv b1) (b2 _ _), bel2 b1 (b2 _ _)⟩
  have := Bk.new (w.alloc (.cells (x.cells u).toArray 41)) 41 (x.cells v)
  rw [hs] at this
  exact this
theorem Sa.drew {w W : World} {x : Oq} {u v : Value} (h : Sa w x u v W) : Sa w x u v W.drew :=
  ⟨h.one.drew, h.two.drew, own_below h.ou ((Below.refl _ _).drew), own_below h.ov ((Below.refl _ _).drew), h.bel.drew⟩

end Go.Proofs.YtppkpfkoggnbmaaGreatDoor.Cs.Ia
