/- The document's own reckoning of layer 10: read. -/
import Derived.Test.YtppkpfkoggnbmaaGreatDoorIDoc2
import Derived.Deep.RegionHeld3
namespace Go.Proofs.YtppkpfkoggnbmaaGreatDoor.Cs.Ia
open Go.RowKit

/-- a block of cells of one type -/
def Bk (W : World) (b t : Nat) (l : List Value) : Prop := W.heap[b]? = some (.cells l.toArray t (0, 0))
section
variable {W W' : World} {b b' t : Nat} {l : List Value}
theorem Bk.lt (h : Bk W b t l) : b < W.heap.size := lt_of_heap h
theorem Bk.cell (h : Bk W b t l) (i : Nat) (v : Value) (hv : l[i]? = some v) : W.cell? ⟨b, i, none⟩ = some v := by
  unfold Bk at h; simp [World.cell?, h, hv]
theorem Bk.free (h : Bk W b t l) (i : Nat) : W.frozen? ⟨b, i, none⟩ = false := by
  unfold Bk at h; simp [World.frozen?, h]
theorem Bk.set (h : Bk W b t l) (i : Nat) (v : Value) : Bk (W.setCell ⟨b, i, none⟩ v) b t (l.set i v) := by
  unfold Bk at h ⊢
  simp [World.setCell, Array.getElem?_modify, h]
theorem Bk.other (h : Bk W b t l) (hb : b ≠ b') (i : Nat) (v : Value) : Bk (W.setCell ⟨b', i, none⟩ v) b t l := by
  unfold Bk at h ⊢
  rw [Below.heap_setCell _ _ _ _ hb]; exact h
theorem Bk.drew (h : Bk W b t l) : Bk W.drew b t l := h
theorem Bk.new (W : World) (t : Nat) (l : List Value) : Bk (W.alloc (.cells l.toArray t)) W.heap.size t l := by
  unfold Bk
  show (W.heap.push _)[W.heap.size]? = _
  simp
theorem Bk.mods {S : Nat → Prop} (h : Bk W b t l) (m : Mods S W W') (hs : ¬ S b) : Bk W' b t l := (m.block b h.lt hs).trans h
theorem Bk.below (h : Bk W b t l) (m : Below W.heap.size W W') : Bk W' b t l := (m.block b h.lt).trans h
end

theorem step_append_run {P : Program} {w : World} {ops : Array Oper} {o : Oper} {a : Act} {K : Act → World → Prop} {Q : Exit → Act → World → Prop} {E : Prop} (hgd : o.guard = none) (d s : Operand) (t t' : TypeId)
    (ho : o.op = .call { callee := .builtin .append, args := #[d, s], argTypes := #[t, t'] }) (v u : Value) (hd : a.eval d = v) (hs : a.eval s = u) {v' : Value} {w' : World}
    (hr : (Builtin.append_ #[t, t'] o.type #[v, u]).run P w = .ok v' w') (h : K (a.put o.dst v') w') : if Region.wanted o (yielded ops a.tmps) = true then Oper.wp P o a w K Q else E := by
  have hw : Region.wanted o (yielded ops a.tmps) = true := by simp [Region.wanted, hgd]
  rw [if_pos hw]
  unfold Oper.wp execOp
  simp only [ho, resolve, invoke, builtin, Sem.run_bind, Sem.run_pure, Result.andThen_ok, List.map_toArray, List.map_cons, List.map_nil, hd, hs, hr]
  exact h

/-- The last large x among the first k signs is g. -/
def lx (l : List UInt8) (g : UInt8) : Nat → List UInt8
  | 0 => l
  | k + 1 => if l.getD k 0 = 88 then l.set k g else lx l g k
/-- It stands at p. -/
structure Lx (l : List UInt8) (p : Nat) : Prop where
  lt : p < l.length
  at_ : l.getD p 0 = 88
  no : ∀ j, p < j → j < l.length → l.getD j 0 ≠ 88
theorem lx_at (l : List UInt8) (g : UInt8) (p : Nat) (h : Lx l p) : lx l g l.length = l.set p g := by
  have key : ∀ k, p < k → k ≤ l.length → lx l g k = l.set p g := by
    intro k
    induction k with
    | zero => intro h; omega
    | succ k ih =>
      intro h1 h2
      simp only [lx]
      by_cases e : k = p
      · subst e; rw [if_pos h.at_]
      · rw [if_neg (h.no k (by omega) (by omega))]; exact ih (by omega) (by omega)
  exact key _ h.lt (Nat.le_refl _)
theorem lx_some (l : List UInt8) (h : l.contains 88 = true) : ∃ p, Lx l p := by
  have key : ∀ k, k ≤ l.length → (∀ j, k ≤ j → j < l.length → l.getD j 0 ≠ 88) → (∃ p, Lx l p) ∨ ∀ j, j < l.length → l.getD j 0 ≠ 88 := by
    intro k
    induction k with
    | zero => intro _ h; exact .inr fun j hj => h j (Nat.zero_le _) hj
    | succ k ih =>
      intro h1 h2
      by_cases e : l.getD k 0 = 88
      · exact .inl ⟨k, by omega, e, fun j hj hl => h2 j (by omega) hl⟩
      · refine ih (by omega) (fun j hj hl => ?_)
        by_cases ej : j = k
        · subst ej; exact e
        · exact h2 j (by omega) hl
  rcases key l.length (Nat.le_refl _) (fun j h1 h2 => absurd h2 (by omega)) with h' | h'
  · exact h'
  · exfalso
    rw [List.contains_iff_mem] at h
    obtain ⟨j, hj, e⟩ := List.mem_iff_getElem.1 h
    exact h' j hj (by simp [List.getD, hj, e])
/-- How many bytes a letter tells. -/
def sz (c : UInt8) : Int := if c = 108 then 4 else if c = 119 then 2 else 1
/-- An operand's text, of a size. -/
def ot (s g : UInt8) (o : List UInt8) : List UInt8 := if s = 0 then o else o.map (pu s g)
def opt (s g : UInt8) (o : List UInt8) : Int × Int := (((ot s g o).getD 0 0).toNat, sz ((ot s g o).getD 1 0))
/-- The instruction of a line's five words. -/
def rd (base : Int) (s g : UInt8) (a b c d e : List UInt8) : Oq :=
  ⟨base + dg a a.length, if s = 0 then b else lx b g b.length, dg c c.length, dg e e.length, if d = [45] then [] else (cut d 44).map (opt s g)⟩

/-- An instruction in a variable of read's own, another variable for what it answers, and the line's words. -/
structure Rx (w : World) (v : Value) (ws : List (List UInt8)) (q g : Nat) (x : Oq) (u : Value) (W : World) : Prop where
  res : Bk W q 41 [.int .i64 0, .string ⟨#[]⟩, .int .i64 0, .int .i64 0, .slice none 0 0]
  var : Bk W g 41 (x.cells u)
  ne : q ≠ g
  ops : Op1 w.heap.size W x u
  nq : ¬ Bl u q
  ng : ¬ Bl u g
  wds : Rs W v ws
  vg : ¬ Bl v g
  uv : Apart (Bl u) (Bl v)
  q0 : w.heap.size ≤ q
  g0 : w.heap.size ≤ g
  bel : Below w.heap.size w W
section
variable {w W W' : World} {v u : Value} {ws : List (List UInt8)} {q g : Nat} {x : Oq}
theorem Rx.below (h : Rx w v ws q g x u W) (b : Below W.heap.size W W') : Rx w v ws q g x u W' :=
  ⟨h.res.below b, h.var.below b, h.ne, h.ops.below b, h.nq, h.ng, own_below h.wds b, h.vg, h.uv, h.q0, h.g0, bel_trans h.bel b h.bel.size⟩
theorem own_set {e k n : Nat} {cs : List Value} (h : W.ownsRow 0 e k v n cs) (hg : ¬ Bl v g) (i : Nat) (y : Value) : (W.setCell ⟨g, i, none⟩ y).ownsRow 0 e k v n cs :=
  own_mods h ((Mods.refl (fun k => k = g) W).set (p := ⟨g, i, none⟩) y (.inl rfl)) (fun _ hk hb => hg (hk ▸ hb))
theorem Rx.name (h : Rx w v ws q g x u W) (l : List UInt8) : Rx w v ws q g { x with name := l } u (W.setCell ⟨g, 1, none⟩ (.string (sb l))) :=
  ⟨h.res.other h.ne _ _, h.var.set 1 _, h.ne, ⟨own_set h.ops.1 h.ng _ _, h.ops.2⟩, h.nq, h.ng, own_set h.wds h.vg _ _, h.vg, h.uv, h.q0, h.g0, h.bel.setCell h.g0 _⟩
theorem Rx.drew (h : Rx w v ws q g x u W) : Rx w v ws q g x u W.drew := h.below ((Below.refl _ _).drew)
/-- Other words, laid since. -/
theorem Rx.words {v' : Value} {ws' : List (List UInt8)} (h : Rx w v ws q g x u W) (c : Ctd W ws' v' W') : Rx w v' ws' q g x u W' :=
  ⟨h.res.below c.bel, h.var.below c.bel, h.ne, h.ops.below c.bel, h.nq, h.ng, c.row, fun hb => by have := c.ab g hb; have := h.var.lt; omega,
   fun k hu hv => by have := c.ab k hv; have := own_lo h.ops.1 k hu; omega, h.q0, h.g0, bel_trans h.bel c.bel h.bel.size⟩
/-- One operand more. -/
theorem Rx.app (h : Rx w v ws q g x u W) (a s : Int) (hl : x.ops.length ≤ 1000000) :
    ∃ r' cap' w', (Builtin.append_ #[39, 39] 39 #[u, .slice (some ⟨W.heap.size, 0, none⟩) 1 1]).run Tryz.prog (W.alloc (.cells #[.int .u8 a, .int .i64 s] 45)) = .ok (.slice (some ⟨r', 0, none⟩) (x.ops.length + 1) cap') w' ∧
      w'.cell? ⟨g, 4, none⟩ = some u ∧ w'.frozen? ⟨g, 4, none⟩ = false ∧
      Hid (Rx w v ws q g { x with ops := x.ops ++ [(a, s)] } (.slice (some ⟨r', 0, none⟩) (x.ops.length + 1) cap') (w'.setCell ⟨g, 4, none⟩ (.slice (some ⟨r', 0, none⟩) (x.ops.length + 1) cap'))) := by
  obtain ⟨r', cap', w', hrun, hro, hst⟩ := run_appo W u x.ops a s h.ops.1 hl
  have hg := h.var.mods hst.mods h.ng
  have nb : ∀ k, k < W.heap.size → ¬ Bl u k → ¬ Bl (.slice (some ⟨r', 0, none⟩) (x.ops.length + 1) cap') k := fun k hk hu hb => by
    rcases hst.grow k hb with e | e
    · exact hu e
    · omega
  have ng := nb g h.var.lt h.ng
  have hb := hst.below h.bel h.ops.2 h.bel.size
  refine ⟨r', cap', w', hrun, hg.cell 4 _ rfl, hg.free 4, ?_⟩
  exact ⟨(h.res.mods hst.mods h.nq).other h.ne _ _, hg.set 4 _, h.ne, ⟨own_set hro ng _ _, hst.ab h.ops.2 h.bel.size⟩, nb q h.res.lt h.nq, ng,
    own_set (own_mods h.wds hst.mods h.uv) h.vg _ _, h.vg, hst.apart h.uv (own_lo h.wds), h.q0, h.g0, hb.setCell h.g0 _⟩
end

theorem cut_pos (l : List UInt8) (c : Int) : 0 < (cut l c).length := by
  unfold cut
  rw [ct_yes l c l.length (.inl rfl)]
  simp
theorem cut_at (l : List UInt8) (c : Int) (w : World) (hl : l.length ≤ 1000) :
    Calls Tryz.prog 88 #[.string (sb l), .int .u8 c] w fun e w' => ∃ r2 c2, e = .returned (.slice (some ⟨r2, 0, none⟩) (cut l c).length c2) ∧ Ctd w (cut l c) (.slice (some ⟨r2, 0, none⟩) (cut l c).length c2) w' :=
  (cut_any l c w hl).mono fun e w' ⟨v, he, hc⟩ => by
    have := cut_pos l c
    rcases own_shape hc.row with ⟨_, h0⟩ | ⟨r2, c2, rfl, _⟩
    · omega
    · exact ⟨r2, c2, he, hc⟩

end Go.Proofs.YtppkpfkoggnbmaaGreatDoor.Cs.Ia
