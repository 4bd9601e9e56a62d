/- States in variables of the call's own: read, kept, compared. -/
import Derived.Test.YtgljkadelkglbaaHAlive
import Derived.Test.YtgljkadelkglbaaHState
import Derived.Deep.WholeRow
namespace Go.Proofs.Ytgljkadelkglbaa.Cs
open Go.RowKit Ps Tl

section
variable {w W W' : World} {b : Nat} {s : Re} {x : Xs} {S : Nat → Prop}
theorem Sb.mods (h : Sb W b s x) (m : Mods S W W') (hs : ¬ S b) : Sb W' b s x := ⟨h.bk.mods m hs, h.ok⟩
theorem Sb.below (h : Sb W b s x) (m : Below W.heap.size W W') : Sb W' b s x := ⟨h.bk.below m, h.ok⟩
theorem Sb.size (h : Sb W b s x) : (Try.prog.info? 28).map (·.size) = some (s.cells x.l).length := by
  rw [Re.length h.ok, st_size]; rfl
theorem Sb.load (h : Sb W b s x) : (loadVar 28 ⟨b, 0, none⟩).run Try.prog W = .ok (sv s x) W :=
  run_loadVar_mid W b 0 _ (s.cells x.l) _ (h.bk.range 0 _ (by simp)) Try.underlying28 rfl h.size
theorem Sb.lt (h : Sb W b s x) : b < W.heap.size := h.bk.lt
theorem Sb.loadAt (h : Sb W b s x) : (Instr.loadAt 28 (.pointer (some ⟨b, 0, none⟩))).run Try.prog W = .ok (sv s x) W := by
  simp only [Instr.loadAt, Instr.sureAddr, Sem.run_bind, Sem.run_pure, Result.andThen_ok, h.load]
end
section
variable {ops : Array Oper} {rest : List Oper} {op : Oper} {a : Act} {w : World} {Q : Exit → Act → World → Prop}
/-- a state out of a variable -/
theorem wl_state (hgd : op.guard = none) (q : Operand) (ho : op.op = .load 28 q) (b : Nat) (hq : a.eval q = .pointer (some ⟨b, 0, none⟩)) (s : Re) (x : Xs) (hs : Sb w b s x)
    (h : wpList Try.prog ops Q rest (a.put op.dst (sv s x)) w) : wpList Try.prog ops Q (op :: rest) a w :=
  wpList_plain hgd fun _ hK => by
    unfold Oper.wp execOp
    simp only [ho, hq, Sem.run_bind, Sem.run_pure, Result.andThen_ok, hs.loadAt]
    exact hK _ _ h
/-- a state into a variable that was made just now -/
theorem wl_keep (hgd : op.guard = none) (q r : Operand) (ho : op.op = .store 28 q r) (W : World) (hw : w = W.alloc (.cells z26.toArray 28)) (hq : a.eval q = .pointer (some ⟨W.heap.size, 0, none⟩))
    (s : Re) (x : Xs) (hs : s.Ok) (hr : a.eval r = sv s x) (h : wpList Try.prog ops Q rest (a.put op.dst undef) (W.alloc (.cells (s.cells x.l).toArray 28))) : wpList Try.prog ops Q (op :: rest) a w :=
  wpList_plain hgd fun _ hK => by
    have e := run_storeAt_new (P := Try.prog) W 28 z26.toArray (s.cells x.l).toArray (by rw [List.size_toArray, Re.length hs, st_size]; rfl) (by rw [List.size_toArray, List.size_toArray, Re.length hs]; rfl) (all_oneCell_toArray (one_cells x.one))
    unfold Oper.wp execOp
    simp only [ho, hq, hr, hw, Sem.run_bind, Sem.run_pure, sv, e, Result.andThen_ok]
    exact hK _ _ h
theorem wl_bin (hgd : op.guard = none) (o : BinOp) (t t' : TypeId) (q r : Operand) (ho : op.op = .binOp o t q r t') (u v z : Value) (hq : a.eval q = u) (hr : a.eval r = v)
    (hg : (eqGuard o t q r u v).run Try.prog w = .ok () w) (hb : (binOp o t u v).run Try.prog w = .ok z w) (h : wpList Try.prog ops Q rest (a.put op.dst z) w) : wpList Try.prog ops Q (op :: rest) a w :=
  wpList_plain hgd fun _ hK => by
    unfold Oper.wp execOp
    simp only [ho, hq, hr, Sem.run_bind, Sem.run_pure, hg, hb, Result.andThen_ok]
    exact hK _ _ h
end

/-- the end of a stack -/
def ks (e : Re) (u : Bool) : Int := e.at (pe e.p u)
theorem to_p {e : Re} {i : Nat} {x : Int} (hi : i ≠ 16) : (e.to i x).p = e.p := by
  unfold Re.to
  rw [if_neg hi]
  split
  · rfl
  · split <;> rfl
theorem pe_ne (p : Int) (u : Bool) : pe p u ≠ 16 := by
  unfold pe pb; split
  · omega
  · split <;> omega
theorem ks_to {e : Re} (h : e.Ok) (u : Bool) (x : Int) : ks (e.to (pe e.p u) x) u = x := by
  unfold ks
  rw [to_p (pe_ne _ _)]
  unfold pe pb
  cases u <;> cases bi e.p 24 <;> simp [Re.to, Re.at, Re.reg, h.len]
theorem ks_else {e : Re} (h : e.Ok) (u : Bool) (x : Int) : ks (e.to (pe e.p u) x) (!u) = ks e (!u) := by
  unfold ks
  rw [to_p (pe_ne _ _)]
  unfold pe pb
  cases u <;> cases bi e.p 24 <;> simp [Re.to, Re.at, Re.reg, h.len]
theorem pt_p (e : Re) (x : Int) : (pt e x).p = x := by
  unfold pt; split
  · rfl
  · split <;> rfl
theorem ks_pt {e : Re} (h : e.Ok) (x : Int) (u : Bool) : ks (pt e x) u = ks e u := by
  unfold ks
  rw [pt_p]
  unfold pt pe pb
  cases u <;> cases bi e.p 24 <;> cases bi x 24 <;> simp [Re.at, h.len]
theorem pt_len {e : Re} (x : Int) : (pt e x).r.length = e.r.length := by
  unfold pt; split
  · rfl
  · split <;> simp
theorem pt_else {e : Re} (x : Int) (j : Nat) (hj : j ≠ 14) : (pt e x).r.getD j 0 = e.r.getD j 0 := by
  unfold pt; split
  · rfl
  · split <;> (simp only [getD_set]; rw [if_neg (by omega)])
theorem ks_sp (e : Re) : ks e (bi e.p 24) = e.r.getD 14 0 := by simp [ks, pe, Re.at]
theorem pt_ok {e : Re} (h : e.Ok) {x : Int} (hx : U x) : (pt e x).Ok := by
  refine ⟨by rw [pt_len, h.len], fun j => ?_, by rw [pt_p]; exact hx, ?_, ?_⟩
  · by_cases hj : j = 14
    · subst hj
      unfold pt; split
      · exact h.num 14
      · split <;> (simp only [getD_set]; split)
        · exact h.k
        · exact h.num 14
        · exact h.u
        · exact h.num 14
    · rw [pt_else x j hj]; exact h.num j
  · unfold pt; split
    · exact h.k
    · split
      · exact h.k
      · exact h.num 14
  · unfold pt; split
    · exact h.u
    · split
      · exact h.num 14
      · exact h.u
theorem list_same {a b : List Int} (h : a.length = b.length) (k : ∀ i, a.getD i 0 = b.getD i 0) : a = b := by
  apply List.ext_getElem?
  intro i
  by_cases hi : i < a.length
  · have := k i
    simp only [List.getD, List.getElem?_eq_getElem hi, List.getElem?_eq_getElem (h ▸ hi), Option.getD_some] at this
    rw [List.getElem?_eq_getElem hi, List.getElem?_eq_getElem (h ▸ hi), this]
  · rw [List.getElem?_eq_none (by omega), List.getElem?_eq_none (by omega)]
/-- Put and back -/
theorem pt_back {e : Re} (h : e.Ok) {a b : Int} (ha : U a) (hb : U b) : (pt (pt (pt e a) b) e.p).r = e.r := by
  have o1 := pt_ok h ha
  have o2 := pt_ok o1 hb
  have o3 := pt_ok o2 h.p
  refine list_same (by rw [pt_len, pt_len, pt_len]) (fun j => ?_)
  by_cases hj : j = 14
  · subst hj
    have e1 := ks_sp (pt (pt (pt e a) b) e.p)
    rw [pt_p, ks_pt o2, ks_pt o1, ks_pt h, ks_sp] at e1
    exact e1.symm
  · rw [pt_else _ j hj, pt_else _ j hj, pt_else _ j hj]
theorem to_ok {e : Re} (h : e.Ok) (u : Bool) {x : Int} (hx : U x) : (e.to (pe e.p u) x).Ok := by
  unfold Re.to pe pb
  cases u <;> cases bi e.p 24 <;> simp
  · exact Re.reg_ok h hx
  · exact ⟨h.len, h.num, h.p, hx, h.u⟩
  · exact ⟨h.len, h.num, h.p, h.k, hx⟩
  · exact Re.reg_ok h hx
end Go.Proofs.Ytgljkadelkglbaa.Cs
