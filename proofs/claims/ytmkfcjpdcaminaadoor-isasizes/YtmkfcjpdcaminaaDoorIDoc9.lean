/- The document's own reckoning of layer 10: Same, of two that are the same. -/
import Derived.Test.YtmkfcjpdcaminaaDoorIDoc8
import Derived.Deep.QuietTactic
import Derived.BigQuiet
namespace Go.Proofs.YtmkfcjpdcaminaaDoor.Cs
open Go.RowKit

theorem ro_at {w : World} {r n c : Nat} {xs : List (Int × Int)} (h : Ro w (.slice (some ⟨r, 0, none⟩) n c) xs) (k : Nat) (hk : k < xs.length) :
    w.cell? ⟨r, k * 2, none⟩ = some (.int .u8 (opn xs k).1) ∧ w.cell? ⟨r, k * 2 + 1, none⟩ = some (.int .i64 (opn xs k).2) := by
  rcases own_shape h with ⟨h, _⟩ | ⟨r', cap', e1, _, _, _, hc, _⟩
  · cases h
  · injection e1 with e1 _ _
    injection e1 with e1
    injection e1 with e1
    subst e1
    exact ⟨hc _ _ (cop_get0 xs k hk), hc _ _ (cop_get1 xs k hk)⟩
/-- A slice of operands: none, or at a block. -/
theorem ro_some {w : World} {u : Value} {xs : List (Int × Int)} (h : Ro w u xs) (h0 : xs.length ≠ 0) : ∃ r c, u = .slice (some ⟨r, 0, none⟩) xs.length c ∧ r < w.heap.size := by
  rcases own_shape h with ⟨_, h1⟩ | ⟨r, cap, e, hr⟩
  · exact absurd h1 h0
  · refine ⟨r, cap, e, ?_⟩
    have := own_lo h r (by rw [e]; simp [Bl, Value.ownBlock])
    exact this

/-- Two instructions, boxed. -/
structure Sa (w : World) (x : Oq) (u v : Value) (W : World) : Prop where
  one : Bk W w.heap.size 25 (x.cells u)
  two : Bk W (w.heap.size + 1) 25 (x.cells v)
  ou : Ro W u x.ops
  ov : Ro W v x.ops
  bel : Below w.heap.size w W
theorem Sa.first {w : World} {x : Oq} {u v : Value} (hu : Ro w u x.ops) (hv : Ro w v x.ops) : Sa w x u v ((w.alloc (.cells (x.cells u).toArray 25)).alloc (.cells (x.cells v).toArray 25)) := by
  have b1 : Below w.heap.size w (w.alloc (.cells (x.cells u).toArray 25)) := (Below.refl _ _).alloc (Nat.le_refl _) _
  have b2 : ∀ (W : World) o, Below W.heap.size W (W.alloc o) := fun W o => (Below.refl _ _).alloc (Nat.le_refl _) _
  have hs : (w.alloc (.cells (x.cells u).toArray 25)).heap.size = w.heap.size + 1 := by show (w.heap.push _).size = _; rw [Array.size_push]
  refine ⟨(Bk.new w _ _).below (b2 _ _), ?_, own_below (own_below hu b1) (b2 _ _), own_below (own_below hv b1) (b2 _ _), bel2 b1 (b2 _ _)⟩
  have := Bk.new (w.alloc (.cells (x.cells u).toArray 25)) 25 (x.cells v)
  rw [hs] at this
  exact this
theorem Sa.drew {w W : World} {x : Oq} {u v : Value} (h : Sa w x u v W) : Sa w x u v W.drew :=
  ⟨h.one.drew, h.two.drew, own_below h.ou ((Below.refl _ _).drew), own_below h.ov ((Below.refl _ _).drew), h.bel.drew⟩

set_option maxHeartbeats 3200000 in
set_option maxRecDepth 20000 in
theorem same_any (x : Oq) (u v : Value) (w : World) (hl : x.ops.length ≤ 1000000) (hu : Ro w u x.ops) (hv : Ro w v x.ops) :
    Calls Tryd.prog 11 #[x.val u, x.val v] w fun e w' => e = .returned (.bool true) ∧ Below w.heap.size w w' := by
  have HS := Lib.hid (Sa.first hu hv)
  by_cases h0 : x.ops.length = 0
  · obtain ⟨A, c, rfl⟩ := ro_slice hu
    obtain ⟨B, d, rfl⟩ := ro_slice hv
    clear hu hv
    rw [h0] at *
    clear h0
    go_enter Tryd.func11, Tryd.ntmps11
    go_wp2
    go_loopw [44] (fun i wr => i = .int .i64 0 ∧ Below w.heap.size w wr) (fun _ _ => 0)
    case atStart => exact ⟨rfl, HS.out.bel⟩
    case round =>
      obtain ⟨rfl, hb⟩ := hrel
      go_wp2
      go_ret
      exact ⟨rfl, hb⟩
  · obtain ⟨r, c, rfl, hr⟩ := ro_some hu h0
    obtain ⟨s, d, rfl, hs⟩ := ro_some hv h0
    have HU := Lib.hid hu
    clear hu hv
    generalize hn : x.ops.length = n at *
    have HN := Lib.hid hn
    clear hn
    go_enter Tryd.func11, Tryd.ntmps11
    go_wp2
    go_loopw [44] (fun i wr => ∃ k : Nat, k ≤ n ∧ i = .int .i64 k ∧ Sa w x (.slice (some ⟨r, 0, none⟩) n c) (.slice (some ⟨s, 0, none⟩) n d) wr) (fun i _ => n - (intOf i).toNat)
    case atStart => exact ⟨0, Nat.zero_le _, rfl, HS.out⟩
    case round =>
      clear HS
      obtain ⟨k, hk, rfl, hS⟩ := hrel
      have HS := Lib.hid hS
      by_cases hlt : k < n
      · have hkl : k < x.ops.length := by rw [HN.out]; exact hlt
        obtain ⟨a0, a1⟩ := ro_at hS.ou k hkl
        obtain ⟨b0, b1⟩ := ro_at hS.ov k hkl
        have c4 := hS.one.cell 4 _ rfl
        have e4 := hS.two.cell 4 _ rfl
        clear hS hkl
        generalize (opn x.ops k) = o at *
        obtain ⟨oa, os⟩ := o
        simp only at a0 a1 b0 b1
        go_wp2
        go_region
        go_wp2
        go_roundw
        case rel => exact ⟨k + 1, by omega, by go_num, HS.out.drew⟩
        case measure => first | (simp [intOf]; done) | (simp [intOf]; omega)
      · clear hS
        go_wp2
        go_ret
        exact ⟨rfl, HS.out.bel⟩

end Go.Proofs.YtmkfcjpdcaminaaDoor.Cs
