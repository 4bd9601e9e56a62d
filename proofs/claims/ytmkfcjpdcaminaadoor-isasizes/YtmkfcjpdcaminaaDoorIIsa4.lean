/- Contracts of package isa: Find; what each statement asks first. -/
import Derived.Test.YtmkfcjpdcaminaaDoorIIsa3
namespace Go.Proofs.YtmkfcjpdcaminaaDoor.Cs
open Go.RowKit

/-- The tables, and a variable for what is answered. -/
structure Fn (w : World) (W : World) : Prop where
  res : Bk W w.heap.size 25 [.int .i64 0, .string ⟨#[]⟩, .int .i64 0, .int .i64 0, .slice none 0 0]
  gl : Gl W
  bel : Below w.heap.size w W
theorem Fn.below {w W W' : World} (h : Fn w W) (b : Below W.heap.size W W') : Fn w W' := ⟨h.res.below b, h.gl.below b, bel_trans h.bel b h.bel.size⟩
theorem Fn.fin {w W W' : World} (h : Fn w W) {u : Value} {x : Oq} (ho : Op1 W.heap.size W' x u) (hb : Below W.heap.size W W') (a0 a1 a2 a3 a4 : Value) :
    Op1 w.heap.size (((((W'.setCell ⟨w.heap.size, 0, none⟩ a0).setCell ⟨w.heap.size, 1, none⟩ a1).setCell ⟨w.heap.size, 2, none⟩ a2).setCell ⟨w.heap.size, 3, none⟩ a3).setCell ⟨w.heap.size, 4, none⟩ a4) x u ∧
      Below w.heap.size w (((((W'.setCell ⟨w.heap.size, 0, none⟩ a0).setCell ⟨w.heap.size, 1, none⟩ a1).setCell ⟨w.heap.size, 2, none⟩ a2).setCell ⟨w.heap.size, 3, none⟩ a3).setCell ⟨w.heap.size, 4, none⟩ a4) := by
  have hs := h.res.lt
  have hn : ¬ Bl u w.heap.size := fun k => by have := ho.2 _ k; omega
  have b := bel_trans h.bel hb h.bel.size
  exact ⟨⟨own_set (own_set (own_set (own_set (own_set ho.1 hn _ _) hn _ _) hn _ _) hn _ _) hn _ _, fun k hk => by have := ho.2 k hk; omega⟩,
   ((((b.setCell (Nat.le_refl _) _).setCell (Nat.le_refl _) _).setCell (Nat.le_refl _) _).setCell (Nat.le_refl _) _).setCell (Nat.le_refl _) _⟩
theorem Fn.fin2 {w W : World} (h : Fn w W) (a0 a1 a2 a3 a4 : Value) :
    Below w.heap.size w (((((W.setCell ⟨w.heap.size, 0, none⟩ a0).setCell ⟨w.heap.size, 1, none⟩ a1).setCell ⟨w.heap.size, 2, none⟩ a2).setCell ⟨w.heap.size, 3, none⟩ a3).setCell ⟨w.heap.size, 4, none⟩ a4) :=
  ((((h.bel.setCell (Nat.le_refl _) _).setCell (Nat.le_refl _) _).setCell (Nat.le_refl _) _).setCell (Nat.le_refl _) _).setCell (Nat.le_refl _) _

set_option maxHeartbeats 3200000 in
set_option maxRecDepth 20000 in
theorem find_any (n : List UInt8) (w : World) (hg : Gl w) : Calls Tryd.prog 13 #[.string (sb n)] w (FoundE w (fnd (docs.find? fun x => x.name == n))) := by
  have HF : Hid (Fn w (w.alloc (.cells #[.int .i64 0, .string ⟨#[]⟩, .int .i64 0, .int .i64 0, .slice none 0 0] 25))) := ⟨oq0 w, hg.below (al1 _ _), al1 _ _⟩
  clear hg
  by_cases h0 : n = []
  · have HP := Lib.hid (name_not n (.inl h0))
    subst h0
    generalize fnd (docs.find? fun x => x.name == []) = p at *
    go_enter Tryd.func13, Tryd.ntmps13
    go_wp2
    refine bodyPost_ret (v := .tuple #[zq.val (.slice none 0 0), .bool false]) (by simp [results, Tryd.results13, go_sem, zq]) rfl ?_
    show FoundE _ _ _ _
    rw [HP.out]
    exact ⟨_, rfl, op_none _ _ _ rfl, al1 _ _⟩
  · have he : (n == []) = false := by simpa using h0
    have HE := Lib.hid h0
    have HQ : Hid (∀ k : Nat, k < 256 → nm (k : Int) = n → fnd (docs.find? fun x => x.name == n) = prg k) := fun k hk h => by
      subst h
      exact name_at k hk h0
    have HR : Hid ((∀ j : Nat, j < 256 → nm (j : Int) ≠ n) → fnd (docs.find? fun x => x.name == n) = (zq, false)) := fun h => name_not n (.inr h)
    clear h0
    generalize fnd (docs.find? fun x => x.name == n) = p at *
    obtain ⟨x, b⟩ := p
    go_enter Tryd.func13, Tryd.ntmps13
    go_wp2
    generalize w.alloc (Obj.cells #[Value.int IntKind.i64 0, Value.string ⟨#[]⟩, Value.int IntKind.i64 0, Value.int IntKind.i64 0, Value.slice none 0 0] 25) = W at *
    go_loopw [8] (fun i wr => ∃ k : Nat, k ≤ 256 ∧ i = .int .i64 k ∧ Fn w wr ∧ ∀ j : Nat, j < k → nm (j : Int) ≠ n) (fun i _ => 256 - (intOf i).toNat)
    case atStart => exact ⟨0, Nat.zero_le _, rfl, HF.out, fun j hj => absurd hj (by omega)⟩
    case round =>
      clear HF
      obtain ⟨k, hk, rfl, hF, hN⟩ := hrel
      have HF := Lib.hid hF
      have HN := Lib.hid hN
      clear hF hN
      by_cases hlt : k < 256
      · have HA := Lib.hid (fun W' h => nameOf_any (k : Int) W' h)
        by_cases hm : nm (k : Int) = n
        · have HO := Lib.hid (fun W' h => of_any (k : Int) W' h)
          rw [← HQ.out k hlt hm] at HO
          rw [hm] at HA
          clear hm HQ HR HN
          go_wp2_with (first
            | (go_at_call 15; refine (HA.out _ HF.out.gl).mono ?_; rintro e w1 ⟨rfl, m, hw1⟩; have hb1 := drewN_bel wr m; rw [← hw1] at hb1; have HF1 := Lib.hid (HF.out.below hb1); clear hb1 hw1)
            | (go_at_call 9; refine (HO.out _ HF1.out.gl).mono ?_; rintro e w2 ⟨u, rfl, ho, hb⟩; obtain ⟨A, c, rfl⟩ := ro_slice ho.1; have HX := Lib.hid (HF1.out.fin ho hb); have hr := HF1.out.res.below hb; have y0 := hr.cell 0 _ rfl; have y1 := hr.cell 1 _ rfl; have y2 := hr.cell 2 _ rfl; have y3 := hr.cell 3 _ rfl; have y4 := hr.cell 4 _ rfl; have yf := hr.free; clear hr ho hb HF1))
          refine bodyPost_ret (v := .tuple #[x.val (.slice A x.ops.length c), .bool b]) (by simp [results, Tryd.results13, go_sem, y0, y1, y2, y3, y4]) rfl ?_
          exact ⟨_, rfl, HX.out _ _ _ _ _⟩
        · have hb1 : (nm (k : Int) == n) = false := by simpa using hm
          have HT : Hid (∀ j : Nat, j < k + 1 → nm (j : Int) ≠ n) := fun j hj => by
            rcases Nat.lt_succ_iff_lt_or_eq.1 hj with h | h
            · exact HN.out j h
            · rw [h]; exact hm
          clear hm HN HQ HR
          generalize nm (k : Int) = l at *
          go_wp2_with (go_at_call 15; refine (HA.out _ HF.out.gl).mono ?_; rintro e w1 ⟨rfl, m, hw1⟩; have hb2 := drewN_bel wr m; rw [← hw1] at hb2; have HF1 := Lib.hid (HF.out.below hb2); clear hb2 hw1)
          go_roundw
          case rel => exact ⟨k + 1, by omega, by go_num, HF1.out, HT.out⟩
          case measure => first | (simp [intOf]; done) | (simp [intOf]; omega)
      · have HP := Lib.hid (HR.out (fun j hj => HN.out j (by omega)))
        have hr := HF.out.res
        have y0 := hr.cell 0 _ rfl
        have y1 := hr.cell 1 _ rfl
        have y2 := hr.cell 2 _ rfl
        have y3 := hr.cell 3 _ rfl
        have y4 := hr.cell 4 _ rfl
        have yf := hr.free
        clear hr HQ HR HN
        go_wp2
        refine bodyPost_ret (v := .tuple #[zq.val (.slice none 0 0), .bool false]) (by simp [results, Tryd.results13, go_sem, y0, y1, y2, y3, y4, zq]) rfl ?_
        show FoundE _ _ _ _
        rw [HP.out]
        exact ⟨_, rfl, op_none _ _ _ rfl, HF.out.fin2 _ _ _ _ _⟩

end Go.Proofs.YtmkfcjpdcaminaaDoor.Cs
