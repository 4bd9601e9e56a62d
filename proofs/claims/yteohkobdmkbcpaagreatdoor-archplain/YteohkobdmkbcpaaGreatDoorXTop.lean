/- What a row that lists the package's tables gives the walks of layer 10: the tables' cells, and some number in the library's own variable. -/
import Derived.Test.YteohkobdmkbcpaaGreatDoorXAlv
import Derived.Test.YteohkobdmkbcpaaGreatDoorRows
import Derived.ProofKit
import Derived.OpenShut
import Derived.LaidMore
import Derived.Lay
import Derived.Stop.Joined
import Derived.HandedShaped
import Derived.Shelf.Vars
namespace Go.Proofs.YteohkobdmkbcpaaGreatDoor.Cs
open Go.RowKit Go.ChangeShapes Go.WideShapes Go.ChangeAt Tl Tl.Ia

/-- The row's step where it lists variables, the world's shape kept. -/
theorem returns_shaped {H : Type} {enc : TypeId × Value → H} {a : Assume} {C : Checked} {os : Os} {f : FuncId} {fn : Func} {s : ChangeSpec} {conds : List PathCond} {apart fresh handsOn again : Bool} {X : World → Array Value → Prop}
    (hX : ∀ (w w' : World) (args : Array Value), w.heap = w'.heap → X w args → X w' args) (own : ownKnob C.prog.godebug = none) (started : os.Started) (noInit : C.prog.inits.idxOf? f = none) (hfn : C.prog.funcs[f]? = some fn)
    (witness : ∃ (w : World) (tape : Tape) (i : Input), w.os = os ∧ (w.forCall tape i).Shaped C.prog ∧ i.vars = [] ∧ Input.okWide C.prog (w.forCall tape i) .any w.heap.size f i ∧
      ((s.pre enc C.prog fn conds apart (w.forCall tape i).memory i.args ∧ X (w.forCall tape i).memory i.args) ∧ sizedMet enc C.prog fn (OpenSpec.ofChange s) apart (w.forCall tape i).memory i.args) ∧ a.holds C.prog (lone (Frame.enter C.prog f i.args .normal) [] (w.forCall tape i)))
    (contract : ∀ (W : World) (base : Nat) (args : Array Value) (ds gs : List (DataW H)) (before : List MemPlace), (∀ (j : Nat) t v, fn.params[j]? = some t → args[j]? = some v → Value.okWide C.prog W .any base t v) →
      DataW.Whole enc C.prog fn.params.toList s.vars apart W args.toList ds gs before → X W args → W.ShapedOpen C.prog → Calls C.prog f args W fun e W' => ∃ v, e = .returned v ∧ s.post enc C.prog fn apart fresh handsOn again W args v W') :
    ReturnsInHanded a C os f .any (fun w args => (s.pre enc C.prog fn conds apart w args ∧ X w args) ∧ sizedMet enc C.prog fn (OpenSpec.ofChange s) apart w args) (s.post enc C.prog fn apart fresh handsOn again) := by
  refine returnsInHanded_of_calls own started noInit witness fun w tape i _ hsh _ hok hpre _ => ?_
  obtain ⟨_, _, _, fn', hfn', _, _, _, _, hval⟩ := hok
  obtain rfl : fn' = fn := Option.some.inj (hfn'.symm.trans hfn)
  obtain ⟨⟨⟨ds, gs, before, hw, _⟩, hx⟩, _⟩ := hpre
  exact (contract _ w.heap.size i.args ds gs before hval (DataW.Whole.of_heap (w' := w.forCall tape i) (by rfl) hw) (hX _ _ _ (by rfl) hx) hsh).mono fun _ _ ⟨_, he, hp⟩ => by
    subst he
    exact ChangeSpec.post_blind hp

/-- An array of texts that reads as a list: its cells. -/
theorem texts_at {H : Type} {enc : TypeId × Value → H} {P : Program} {w : World} {base : Nat} {sp : Nat → Bool} {held : Bool} {fuel : Nat} {t e : TypeId} {n : Nat} {cs : List Value} {ds : List (DataW H)} {p : List MemPlace}
    (ht : P.underlying t = some (.array n e)) (he : P.underlying e = some .string) (h1 : P.cellsOf e = 1) (h : DataW.trod enc P w base sp held fuel t cs = some (.agg ds, p)) (i : Nat) (hi : i < n) (l : List UInt8) (hd : ds[i]? = some (.lit (.string l))) :
    cs[i]? = some (.string (Tl.Ia.sb l)) := by
  obtain ⟨xs, m, _, hx, _, hl, hel⟩ := DataW.trod_array ht h
  have hE := hel i hi
  rw [h1, Nat.mul_one, List.getElem?_eq_getElem (by omega)] at hE
  obtain ⟨s, e1, e2, _⟩ := DataW.trod_string he hE
  simp only [Prod.mk.injEq, DataW.agg.injEq] at hx
  rw [hx.1, List.getElem?_map, List.getElem?_eq_getElem (by omega), e2] at hd
  simp only [Option.map_some, Option.some.injEq, DataW.lit.injEq, Lit.string.injEq] at hd
  have h0 : ((cs.drop i).take 1)[0]? = some (.string s) := by rw [e1]; rfl
  rw [sb_of s, hd] at h0
  simpa using h0

theorem gSz : Tryz.prog.globals.size = 7 := by kernel_rfl
theorem tstr : Tryz.prog.underlying 9 = some .string := by kernel_rfl
theorem cstr : Tryz.prog.cellsOf 9 = 1 := by kernel_rfl

/-- Texts of a listed array, by a test. -/
def txb (ds : List (DataW Unit)) (n : Nat) (f : Nat → List UInt8) : Bool := upto n fun i => match ds[i]? with
  | some (.lit (.string l)) => decide (l = f i)
  | _ => false
theorem txb_at {ds : List (DataW Unit)} {n : Nat} {f : Nat → List UInt8} (h : txb ds n f = true) (i : Nat) (hi : i < n) : ds[i]? = some (.lit (.string (f i))) := by
  have := upto_at h i hi
  split at this
  · next l e => rw [e, of_decide_eq_true this]
  · cases this

def inn (d : DataW Unit) : List (DataW Unit) := match d with
  | .agg ds => ds
  | _ => []
theorem ea_txb : txb (inn Rows.laid_camshaft_isa_earlyNames) 64 (fun i => nms.getD i []) = true := by kernel_rfl
theorem la_txb : txb (inn Rows.laid_camshaft_isa_lateNames) 32 (fun i => nms.getD (224 + i) []) = true := by kernel_rfl
theorem fa_txb : txb (inn Rows.laid_camshaft_isa_familyNames) 24 (fun i => fam.getD i []) = true := by kernel_rfl
theorem od_txb : upto 4 (fun i => txb (inn ((inn Rows.laid_camshaft_isa_oddNames).getD i .nil)) 8 (fun j => nms.getD (120 + 32 * i + j) [])) = true := by kernel_rfl
theorem gEa : Tryz.prog.globalNamed "camshaft/isa.earlyNames" = some 0 := by kernel_rfl
theorem tEa : (Tryz.prog.globals[0]?).map (·.type) = some 169 := by kernel_rfl
theorem gLa : Tryz.prog.globalNamed "camshaft/isa.lateNames" = some 1 := by kernel_rfl
theorem tLa : (Tryz.prog.globals[1]?).map (·.type) = some 170 := by kernel_rfl
theorem gOd : Tryz.prog.globalNamed "camshaft/isa.oddNames" = some 2 := by kernel_rfl
theorem tOd : (Tryz.prog.globals[2]?).map (·.type) = some 174 := by kernel_rfl
theorem gFa : Tryz.prog.globalNamed "camshaft/isa.familyNames" = some 3 := by kernel_rfl
theorem tFa : (Tryz.prog.globals[3]?).map (·.type) = some 176 := by kernel_rfl
theorem uEa : Tryz.prog.underlying 169 = some (.array 64 9) := by kernel_rfl
theorem uLa : Tryz.prog.underlying 170 = some (.array 32 9) := by kernel_rfl
theorem uOd : Tryz.prog.underlying 174 = some (.array 4 173) := by kernel_rfl
theorem uOe : Tryz.prog.underlying 173 = some (.array 8 9) := by kernel_rfl
theorem cOe : Tryz.prog.cellsOf 173 = 8 := by kernel_rfl
theorem uFa : Tryz.prog.underlying 176 = some (.array 24 9) := by kernel_rfl

/-- What the rows' condition gives the walks. -/
theorem of_laid {W : World} (h : laidMetH Tryz.prog Rows.archLevelsRow.laid W) (hs : W.ShapedOpen Tryz.prog) : 7 ≤ W.heap.size ∧ Gl W := by
  have hml : ∃ m, W.cell? ⟨4, 0, none⟩ = some (.int .i64 m) :=
    cell_of_shapedOpen_int (t := 3) (zero := #[.int .i64 0]) hs (by rw [gSz]; decide) (by kernel_rfl) rfl (by kernel_rfl) (by kernel_rfl) (by kernel_rfl)
  rw [MakeChecks.laidMetH_plain _ _ _ (by kernel_rfl)] at h
  obtain ⟨ps, ⟨_, _, _, _, _, _, _, _, _, _, ⟨g1, t1, cs1, f1, p1, q1, hg1, ht1, hv1, hd1, ⟨g2, t2, cs2, f2, p2, q2, hg2, ht2, hv2, hd2, ⟨g3, t3, cs3, f3, p3, q3, hg3, ht3, hv3, hd3, ⟨g4, t4, cs4, f4, p4, q4, hg4, ht4, hv4, hd4, _, _⟩, _⟩, _⟩, _⟩, _⟩, _, _⟩ := h
  obtain rfl := Option.some.inj (gEa.symm.trans hg1)
  obtain rfl := Option.some.inj (gOd.symm.trans hg2)
  obtain rfl := Option.some.inj (gLa.symm.trans hg3)
  obtain rfl := Option.some.inj (gFa.symm.trans hg4)
  obtain rfl := Option.some.inj (tEa.symm.trans ht1)
  obtain rfl := Option.some.inj (tOd.symm.trans ht2)
  obtain rfl := Option.some.inj (tLa.symm.trans ht3)
  obtain rfl := Option.some.inj (tFa.symm.trans ht4)
  refine ⟨?_, fun i hi => ?_, fun i hi => ?_, fun i j hi hj => ?_, fun i hi => ?_, hml⟩
  · have h12 : (((begin Tryz.prog (fun _ _ => 0) default).world.heap[6]?).bind Obj.row?).isSome = true := by kernel_rfl
    obtain ⟨⟨z, t⟩, hz⟩ := Option.isSome_iff_exists.1 h12
    obtain ⟨cs, hh, _, _⟩ := hs.1 6 z t (by rw [gSz]; decide) hz
    have := Tl.lt_of_heap hh
    omega
  · rw [World.var?_cell hg1 hv1 i, ← Array.getElem?_toList]
    exact texts_at uEa tstr cstr (ds := inn Rows.laid_camshaft_isa_earlyNames) hd1 i hi _ (txb_at ea_txb i hi)
  · rw [World.var?_cell hg3 hv3 i, ← Array.getElem?_toList]
    exact texts_at uLa tstr cstr (ds := inn Rows.laid_camshaft_isa_lateNames) hd3 i hi _ (txb_at la_txb i hi)
  · rw [World.var?_cell hg2 hv2 (i * 8 + j), ← Array.getElem?_toList]
    obtain ⟨xs, m, _, hx, _, hl, hel⟩ := DataW.trod_array uOd hd2
    have hE := hel i hi
    rw [cOe, List.getElem?_eq_getElem (by omega)] at hE
    obtain ⟨ys, m', _, hy, _, _, _⟩ := DataW.trod_array uOe hE
    rw [hy] at hE
    have ht := upto_at od_txb i hi
    have e : (inn Rows.laid_camshaft_isa_oddNames).getD i .nil = .agg (ys.map (·.1)) := by
      have e1 : Rows.laid_camshaft_isa_oddNames = .agg (xs.map (·.1)) := (Prod.mk.inj hx).1
      rw [e1]
      show (xs.map (·.1)).getD i .nil = _
      rw [List.getD, List.getElem?_map, List.getElem?_eq_getElem (by omega), hy]
      rfl
    rw [e] at ht
    have := texts_at uOe tstr cstr hE j hj _ (txb_at ht j hj)
    rw [List.getElem?_take, if_pos hj, List.getElem?_drop] at this
    exact this
  · rw [World.var?_cell hg4 hv4 i, ← Array.getElem?_toList]
    exact texts_at uFa tstr cstr (ds := inn Rows.laid_camshaft_isa_familyNames) hd4 i hi _ (txb_at fa_txb i hi)

end Go.Proofs.YteohkobdmkbcpaaGreatDoor.Cs
