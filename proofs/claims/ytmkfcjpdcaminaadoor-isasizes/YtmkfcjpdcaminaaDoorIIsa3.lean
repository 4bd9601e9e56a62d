/- Contracts of package isa: Of. -/
import Derived.Test.YtmkfcjpdcaminaaDoorIIsa2
import Derived.Test.YtmkfcjpdcaminaaDoorIOps
namespace Go.Proofs.YtmkfcjpdcaminaaDoor.Cs
open Go.RowKit

/-- A variable for what is answered, and a shape in another. -/
structure Of9 (w : World) (g : Nat) (c al : Int) (o : List UInt8) (W : World) : Prop where
  res : Bk W w.heap.size 25 [.int .i64 0, .string ⟨#[]⟩, .int .i64 0, .int .i64 0, .slice none 0 0]
  var : Bk W g 37 [.int .i64 c, .int .i64 al, .string (sb o)]
  g0 : w.heap.size < g
  bel : Below w.heap.size w W
theorem Of9.below {w W W' : World} {g : Nat} {c al : Int} {o : List UInt8} (h : Of9 w g c al o W) (b : Below W.heap.size W W') : Of9 w g c al o W' := ⟨h.res.below b, h.var.below b, h.g0, bel_trans h.bel b h.bel.size⟩
theorem oq0 (w : World) : Bk (w.alloc (.cells #[.int .i64 0, .string ⟨#[]⟩, .int .i64 0, .int .i64 0, .slice none 0 0] 25)) w.heap.size 25 [.int .i64 0, .string ⟨#[]⟩, .int .i64 0, .int .i64 0, .slice none 0 0] := Bk.new w _ [.int .i64 0, .string ⟨#[]⟩, .int .i64 0, .int .i64 0, .slice none 0 0]
theorem Of9.fin {w W W' : World} {g : Nat} {c al : Int} {o : List UInt8} (h : Of9 w g c al o W) {u : Value} {x : Oq} (hr : Ro W' u x.ops) (ha : Ab W.heap.size (Bl u)) (hb : Below W.heap.size W W') (a0 a1 a2 a3 a4 : Value) :
    Op1 w.heap.size (((((W'.setCell ⟨w.heap.size, 0, none⟩ a0).setCell ⟨w.heap.size, 1, none⟩ a1).setCell ⟨w.heap.size, 2, none⟩ a2).setCell ⟨w.heap.size, 3, none⟩ a3).setCell ⟨w.heap.size, 4, none⟩ a4) x u ∧
      Below w.heap.size w (((((W'.setCell ⟨w.heap.size, 0, none⟩ a0).setCell ⟨w.heap.size, 1, none⟩ a1).setCell ⟨w.heap.size, 2, none⟩ a2).setCell ⟨w.heap.size, 3, none⟩ a3).setCell ⟨w.heap.size, 4, none⟩ a4) := by
  have hs := h.res.lt
  have hn : ¬ Bl u w.heap.size := fun k => by have := ha _ k; omega
  have b := bel_trans h.bel hb h.bel.size
  exact ⟨⟨own_set (own_set (own_set (own_set (own_set hr hn _ _) hn _ _) hn _ _) hn _ _) hn _ _, fun k hk => by have := ha k hk; omega⟩,
   ((((b.setCell (Nat.le_refl _) _).setCell (Nat.le_refl _) _).setCell (Nat.le_refl _) _).setCell (Nat.le_refl _) _).setCell (Nat.le_refl _) _⟩
theorem far5 {W : World} {g q j : Nat} {v a0 a1 a2 a3 a4 : Value} (hne : g ≠ q) (h : W.cell? ⟨g, j, none⟩ = some v) :
    (((((W.setCell ⟨q, 0, none⟩ a0).setCell ⟨q, 1, none⟩ a1).setCell ⟨q, 2, none⟩ a2).setCell ⟨q, 3, none⟩ a3).setCell ⟨q, 4, none⟩ a4).cell? ⟨g, j, none⟩ = some v := by
  simp only [World.cell?, World.setCell] at h ⊢
  simp only [Array.getElem?_modify]
  simp only [if_neg (show ¬ q = g from fun e => hne e.symm)]
  exact h
theorem drewN_bel (W : World) (n : Nat) : Below W.heap.size W (W.drewN n) := by
  induction n with
  | zero => exact Below.refl _ _
  | succ n ih => exact ih.drew

theorem shs_len : upto 256 (fun k => Nat.ble (shs.getD k (0, 0, [])).2.2.length 1000) = true := by kernel_rfl

set_option maxHeartbeats 3200000 in
set_option maxRecDepth 20000 in
theorem of_any (code : Int) (w : World) (hg : Gl w) : Calls Tryd.prog 9 #[.int .i64 code] w (FoundE w (prg code)) := by
  have HN := Lib.hid (fun W h => nameOf_any code W h)
  have HG := Lib.hid hg
  clear hg
  by_cases h0 : nm code = []
  · have HP : Hid (prg code = (zq, false)) := by show prg code = _; unfold prg; rw [if_pos h0]
    rw [h0] at HN
    clear h0
    have HG1 := Lib.hid (HG.out.below (al1 w (.cells #[.int .i64 0, .string ⟨#[]⟩, .int .i64 0, .int .i64 0, .slice none 0 0] 25)))
    go_enter Tryd.func9, Tryd.ntmps9
    go_wp2_with (go_at_call 15; refine (HN.out _ HG1.out).mono ?_; rintro e w1 ⟨rfl, n, hw1⟩; have hb := drewN_bel (w.alloc (.cells #[.int .i64 0, .string ⟨#[]⟩, .int .i64 0, .int .i64 0, .slice none 0 0] 25)) n; rw [← hw1] at hb; have hB := (oq0 w).below hb; have d0 := hB.cell 0 _ rfl; have d1 := hB.cell 1 _ rfl; have d2 := hB.cell 2 _ rfl; have d3 := hB.cell 3 _ rfl; have d4 := hB.cell 4 _ rfl; have dz := hB.free; have HB := Lib.hid hb; clear hb hB hw1)
    refine bodyPost_ret (v := .tuple #[zq.val (.slice none 0 0), .bool false]) (by simp [results, Tryd.results9, go_sem, d0, d1, d2, d3, d4, zq]) rfl ?_
    show FoundE _ _ _ _
    rw [HP.out]
    exact ⟨_, rfl, op_none _ _ _ rfl, ((((((bel2 (al1 _ _) HB.out).setCell (Nat.le_refl _) _).setCell (Nat.le_refl _) _).setCell (Nat.le_refl _) _).setCell (Nat.le_refl _) _).setCell (Nat.le_refl _) _)⟩
  · have hc : 0 ≤ code ∧ code < 256 := by
      rcases Classical.em (0 ≤ code ∧ code < 256) with h | h
      · exact h
      · exact absurd (show nm code = [] by unfold nm; rw [if_neg h]) h0
    obtain ⟨k, rfl⟩ : ∃ k : Nat, code = k := ⟨code.toNat, by omega⟩
    have hk : k < 256 := by omega
    have hn : nms.getD k [] ≠ [] := by rw [← nm_at k hk]; exact h0
    have HP : Hid (prg (k : Int) = (⟨k, nm k, (sh k).1, (sh k).2.1, opl (sh k).2.2⟩, true)) := by show prg (k : Int) = _; unfold prg; rw [if_neg h0]
    have HS := Lib.hid (fun W h => shapeOf_any k hk hn W h)
    have hsl : (sh (k : Int)).2.2.length ≤ 1000 := by have := upto_at shs_len k hk; rwa [Nat.ble_eq] at this
    have he : (nm (k : Int) == []) = false := by simpa using h0
    have HG1 := Lib.hid (HG.out.below (al1 w (.cells #[.int .i64 0, .string ⟨#[]⟩, .int .i64 0, .int .i64 0, .slice none 0 0] 25)))
    clear hc hn h0 hk
    generalize sh (k : Int) = s at *
    obtain ⟨c, al, o⟩ := s
    have HO := Lib.hid (fun W => operands_any o hsl W)
    clear hsl
    generalize nm (k : Int) = l at *
    go_enter Tryd.func9, Tryd.ntmps9
    go_wp2_with (first
      | (go_at_call 15; refine (HN.out _ HG1.out).mono ?_; rintro e w1 ⟨rfl, n, hw1⟩; have hb1 := drewN_bel (w.alloc (.cells #[.int .i64 0, .string ⟨#[]⟩, .int .i64 0, .int .i64 0, .slice none 0 0] 25)) n; rw [← hw1] at hb1; have HB1 := Lib.hid hb1; have HB0 := Lib.hid ((oq0 w).below hb1); clear hb1 hw1)
      | (go_at_call 16; refine (HS.out _ (HG1.out.below HB1.out)).mono ?_; rintro e w2 ⟨rfl, hb2⟩; have HX : Hid (Of9 w w2.heap.size c al o (w2.alloc (.cells #[.int .i64 c, .int .i64 al, .string (sb o)] 37))) := ⟨(HB0.out.below hb2).below (al1 _ _), Bk.new w2 _ [.int .i64 c, .int .i64 al, .string (sb o)], (HB0.out.below hb2).lt, bel2 (bel2 (bel2 (al1 _ _) HB1.out) hb2) (al1 _ _)⟩; clear hb2 HB0 HB1))
    clear HN HS HG1
    generalize w2.alloc (Obj.cells #[Value.int IntKind.i64 c, Value.int IntKind.i64 al, Value.string (sb o)] 37) = W at *
    generalize w2.heap.size = g at *
    have x0 := HX.out.var.cell 0 _ rfl
    have x1 := HX.out.var.cell 1 _ rfl
    have x2 := HX.out.var.cell 2 _ rfl
    have hgl := HX.out.var.lt
    have hq := HX.out.res.lt
    have hgq := HX.out.g0
    have hne : g ≠ w.heap.size := by omega
    have xd0 : W.drew.cell? ⟨g, 0, none⟩ = some (.int .i64 c) := x0
    have xd1 : W.drew.cell? ⟨g, 1, none⟩ = some (.int .i64 al) := x1
    have xd2 : W.drew.cell? ⟨g, 2, none⟩ = some (.string (sb o)) := x2
    have HXd := Lib.hid (HX.out.below ((Below.refl _ _).drew))
    have HPF : Hid (∀ (w3 : World) (A : Option Addr) (n cc : Nat), Ro w3 (.slice A n cc) (opl o) → Ab W.drew.heap.size (Bl (.slice A n cc)) → Below W.drew.heap.size W.drew w3 → _) := Lib.hid fun (w3 : World) (A : Option Addr) (n cc : Nat) hr ha hb => HXd.out.fin (W' := w3) (u := .slice A n cc) (x := ⟨k, l, c, al, opl o⟩) hr ha hb
    go_region_held3 (fun w' => w'.cell? ⟨g, 0, none⟩ = some (.int .i64 c) ∧ w'.cell? ⟨g, 1, none⟩ = some (.int .i64 al) ∧ w'.cell? ⟨g, 2, none⟩ = some (.string (sb o)))
      (first | (with_reducible exact ⟨z0, z1, z2⟩) | (with_reducible exact ⟨xd0, xd1, xd2⟩) | (with_reducible exact ⟨x0, x1, x2⟩) | (exact ⟨far5 hne z0, far5 hne z1, far5 hne z2⟩))
      ((go_at_call 17; refine (HO.out _).mono ?_; rintro e w3 ⟨A, n, cc, rfl, hr, ha, hb⟩; have HF := Lib.hid (HPF.out w3 A n cc hr ha hb); have hX3 := HXd.out.below hb; have z0 := hX3.var.cell 0 _ rfl; have z1 := hX3.var.cell 1 _ rfl; have z2 := hX3.var.cell 2 _ rfl; have y0 := hX3.res.cell 0 _ rfl; have y1 := hX3.res.cell 1 _ rfl; have y2 := hX3.res.cell 2 _ rfl; have y3 := hX3.res.cell 3 _ rfl; have y4 := hX3.res.cell 4 _ rfl; have yf := hX3.res.free; clear hX3 hr ha hb))
    all_goals
      go_wp2
      refine bodyPost_ret (v := .tuple #[(⟨k, l, c, al, opl o⟩ : Oq).val (.slice A n cc), .bool true]) (by simp [results, Tryd.results9, go_sem, y0, y1, y2, y3, y4]) rfl ?_
      show FoundE _ _ _ _
      rw [HP.out]
      exact ⟨_, rfl, HF.out _ _ _ _ _⟩

end Go.Proofs.YtmkfcjpdcaminaaDoor.Cs
