/- append of bytes at a step of a region that draws, and elsewhere; what a call made of bytes. -/
import Derived.Test.YtppkpfkoggnbmaaGreatDoorEDec2
import Derived.Deep.CutRange
import Derived.Deep.DeepCutAuto
import Derived.Deep.RegionLaw
namespace Go.Proofs.YtppkpfkoggnbmaaGreatDoor.Cs.Es
open Go.RowKit

theorem step_append_run {P : Program} {w : World} {ops : Array Oper} {o : Oper} {a : Act} {K : Act → World → Prop} {Q : Exit → Act → World → Prop} {E : Prop} (hgd : o.guard = none) (d s : Operand) (t t' : TypeId)
    (ho : o.op = .call { callee := .builtin .append, args := #[d, s], argTypes := #[t, t'] }) (v u : Value) (hd : a.eval d = v) (hs : a.eval s = u) {v' : Value} {w' : World}
    (hr : (Builtin.append_ #[t, t'] o.type #[v, u]).run P w = .ok v' w') (h : K (a.put o.dst v') w') : if Region.wanted o (yielded ops a.tmps) = true then Oper.wp P o a w K Q else E := by
  have hw : Region.wanted o (yielded ops a.tmps) = true := by simp [Region.wanted, hgd]
  rw [if_pos hw]
  unfold Oper.wp execOp
  simp only [ho, resolve, invoke, builtin, Sem.run_bind, Sem.run_pure, Result.andThen_ok, List.map_toArray, List.map_cons, List.map_nil, hd, hs, hr]
  exact h

/-- A row of bytes that this call made, all from block B on; what was there is as it was. -/
structure Mk (B : Nat) (w : World) (v : Value) (ys : List Int) (W : World) : Prop where
  row : R8 W v ys
  ab : Ab B (Bl v)
  bel : Below B w W
  le : B ≤ W.heap.size
section
variable {B : Nat} {w W V : World} {v : Value} {ys zs : List Int} {A : Option Addr} {n c : Nat}
theorem Mk.below (h : Mk B w v ys W) (b : Below W.heap.size W V) : Mk B w v ys V := ⟨own_below h.row b, h.ab, bel_trans h.bel b h.le, Nat.le_trans h.le b.size⟩
theorem Mk.lit (w : World) (b : Below B w W) (hB : B ≤ W.heap.size) (ys : List Int) (hn : ys.length = n) (hm : n ≤ 1000) : Mk B w (.slice (some ⟨W.heap.size, 0, none⟩) n n) ys (W.alloc (.cells (cel ys).toArray 5)) :=
  ⟨R8.lit W ys n hn hm, fun k hk => by
    have : k = W.heap.size := by simpa [Bl, Value.ownBlock, eq_comm] using hk
    omega, bel_trans b (al1 _ _) hB, by simp; omega⟩
theorem Mk.app {A' : Option Addr} {n' c' : Nat} (h : Mk B w v ys W) (hR : R8 V (.slice A' n' c') zs) (hS : Step (Bl v) (Bl (.slice A' n' c')) W V) : Mk B w (.slice A' n' c') zs V :=
  ⟨hR, hS.ab h.ab h.le, hS.below h.bel h.ab h.le, Nat.le_trans h.le hS.mods.size⟩
theorem Mk.by (h : Mk B w (.slice A n c) ys W) (hn : ys.length = n) (hb : Byt ys) : By W A n c ys := h.row.by hn hb
end
theorem Bk.mods {w W : World} {g T : Nat} {cs : List Value} {S : Nat → Prop} (h : Bk w g T cs) (m : Mods S w W) (hs : ¬ S g) : Bk W g T cs := (m.block g h.lt hs).trans h

/-- .. at a step of a region that draws. -/
theorem step_app8 {ops : Array Oper} {o : Oper} {a : Act} {K : Act → World → Prop} {Q : Exit → Act → World → Prop} {E : Prop} {W : World} (hgd : o.guard = none) (d s : Operand)
    (ho : o.op = .call { callee := .builtin .append, args := #[d, s], argTypes := #[22, 22] }) (hty : o.type = 22) (B : Nat) (w : World) (v : Value) (ys zs : List Int) (A : Option Addr) (m c k : Nat) (hk : ys.length + m = k)
    (hd : a.eval d = v) (hs : a.eval s = .slice A m c) (h : Mk B w v ys W) (hz : By W A m c zs) (hl : k ≤ 1000000000)
    (hK : ∀ A' c' w', Mk B w (.slice A' k c') (ys ++ zs) w' → Below B W w' → Mods (Bl v) W w' → K (a.put o.dst (.slice A' k c')) w') :
    if Region.wanted o (yielded ops a.tmps) = true then Oper.wp Tryz.prog o a W K Q else E := by
  subst hk
  obtain ⟨A', c', w', hrun, hR, hS⟩ := run_app8 W v ys zs A m c h.row hz hl
  exact step_append_run hgd d s _ _ ho v _ hd hs (by rw [hty]; exact hrun) (hK A' c' w' (h.app hR hS) (hS.below (Below.refl _ _) h.ab h.le) hS.mods)

end Go.Proofs.YtppkpfkoggnbmaaGreatDoor.Cs.Es
