/- The document's own reckoning of layer 10: All. -/
import Derived.Test.YtppkpfkoggnbmaaGreatDoorIDoc5
namespace Go.Proofs.YtppkpfkoggnbmaaGreatDoor.Cs.Ia
open Go.RowKit

/-- Instructions that rounds of All have laid, beside the lines that they go by. -/
structure Al (w : World) (L : Value) (ls : List (List UInt8)) (xs : List Oq) (v : Value) (W : World) : Prop where
  row : Rq w.heap.size W v xs
  lin : Rs W L ls
  ap : Apart (Bl v) (Bl L)
  bel : Below w.heap.size w W
theorem rq_lo {B : Nat} {W : World} {v : Value} {xs : List Oq} (h : Rq B W v xs) : Lo W.heap.size (Bl v) := by
  obtain ⟨ys, _, h2, _, _⟩ := h
  exact own_lo h2
theorem rq_ab {B : Nat} {W : World} {v : Value} {xs : List Oq} (h : Rq B W v xs) : Ab B (Bl v) := by
  obtain ⟨ys, _, _, h3, _⟩ := h
  exact h3
theorem Al.next {w W W1 : World} {L v u : Value} {ls : List (List UInt8)} {xs : List Oq} (h : Al w L ls xs v W) (x : Oq) (ho : Op1 W.heap.size W1 x u) (hb : Below W.heap.size W W1) (hl : xs.length ≤ 1000000) :
    ∃ r' cap' w', (Builtin.append_ #[76, 76] 76 #[v, .slice (some ⟨W1.heap.size, 0, none⟩) 1 1]).run Tryz.prog (W1.alloc (.cells (x.cells u).toArray 41)) = .ok (.slice (some ⟨r', 0, none⟩) (xs.length + 1) cap') w' ∧
      Hid (Al w L ls (xs ++ [x]) (.slice (some ⟨r', 0, none⟩) (xs.length + 1) cap') w') := by
  have hw := h.bel.size
  have hlo := rq_lo h.row
  have hW := hb.size
  obtain ⟨r', cap', w', hrun, hr, hst⟩ := run_appq w.heap.size W1 v xs x u (h.row.below hb) ⟨ho.1, fun k hk => Nat.le_trans hw (ho.2 k hk)⟩ (Apart.of hlo ho.2) (by omega) hl
  exact ⟨r', cap', w', hrun, hr, own_mods (own_below h.lin hb) hst.mods h.ap, hst.apart h.ap (own_lo (own_below h.lin hb)), hst.below (bel_trans h.bel hb hw) (rq_ab h.row) (by omega)⟩
/-- Other lines, laid since. -/
theorem Al.lines {w W W1 : World} {L L1 v : Value} {ls ls1 : List (List UInt8)} {xs : List Oq} (h : Al w L ls xs v W) (c : Ctd W ls1 L1 W1) : Al w L1 ls1 xs v W1 :=
  ⟨h.row.below c.bel, c.row, Apart.of (rq_lo h.row) c.ab, bel_trans h.bel c.bel h.bel.size⟩
theorem Al.first {w W1 : World} {L1 : Value} {ls1 : List (List UInt8)} (c : Ctd w ls1 L1 W1) : Al w L1 ls1 [] (.slice none 0 0) W1 := by
  have nb : ∀ k, ¬ Bl (.slice none 0 0) k := fun k hk => by simp [Bl, Value.ownBlock] at hk
  exact ⟨⟨[], rfl, ⟨by simp [cqs], .inl ⟨rfl, rfl⟩⟩, fun k hk => absurd hk (nb k), fun y hy => by simp at hy⟩, c.row, fun k hk => absurd hk (nb k), c.bel⟩
/-- A line. -/
theorem Al.line {w W : World} {r n c : Nat} {v : Value} {ls : List (List UInt8)} {xs : List Oq} (h : Al w (.slice (some ⟨r, 0, none⟩) n c) ls xs v W) (k : Nat) (hk : k < ls.length) :
    W.cell? ⟨r, k, none⟩ = some (.string (sb (ls.getD k []))) := by
  rcases own_shape h.lin with ⟨h, _⟩ | ⟨r', cap', e1, _, _, _, hc, _⟩
  · cases h
  · injection e1 with e1 _ _
    injection e1 with e1
    injection e1 with e1
    subst e1
    exact hc k _ (cst_get ls k hk)

theorem all_at {p : List UInt8 → Bool} {l : List (List UInt8)} (h : l.all p = true) (k : Nat) (hk : k < l.length) : p (l.getD k []) = true := by
  rw [List.all_eq_true] at h
  exact h _ (by simp [List.getD, hk])
theorem map_take {α β : Type} (f : α → β) (l : List α) (d : α) (k : Nat) (hk : k < l.length) : (l.take (k + 1)).map f = (l.take k).map f ++ [f (l.getD k d)] := by
  rw [List.take_succ_eq_append_getElem hk, List.map_append]
  simp [List.getD, hk]

/-- The size's letters. -/
def sml (i : Nat) : UInt8 := if i = 0 then 98 else if i = 1 then 119 else 108
def lrg (i : Nat) : UInt8 := if i = 0 then 66 else if i = 1 then 87 else 76
/-- Those of the first i sizes. -/
def szs : Nat → List Oq
  | 0 => lns.map (rdl 0 0 0)
  | i + 1 => szs i ++ szd.map (rdl (128 + 32 * i) (sml i) (lrg i))
theorem szs_docs : szs 3 = docs := by
  simp only [szs, docs]
  rfl
theorem szs_len (i : Nat) : (szs i).length = 70 + 23 * i := by
  induction i with
  | zero => simp [szs, lns_len]
  | succ i ih => simp only [szs, List.length_append, ih, List.length_map, szd_len]; omega

end Go.Proofs.YtppkpfkoggnbmaaGreatDoor.Cs.Ia
