/- What a row that lists the table of fields gives the walks of layer 14; a word that comes in. -/
import Derived.Test.YtdchaalmjhjejaaDoorYLaw
import Derived.Test.YtdchaalmjhjejaaDoorRows
import Derived.ProofKit
import Derived.OpenShut
import Derived.ChangeSame
import Derived.LaidMore
import Derived.Lay
import Derived.Stop.Joined
import Derived.HandedShaped
namespace Go.Proofs.YtdchaalmjhjejaaDoor.Cs
open Go.RowKit Go.ChangeShapes Go.WideShapes Go.ChangeAt Tl Tl.Ia

/-- The row's step where it lists variables, the world's shape kept. -/
theorem returns_shaped {H : Type} {enc : TypeId × Value → H} {a : Assume} {C : Checked} {os : Os} {f : FuncId} {fn : Func} {s : ChangeSpec} {conds : List PathCond} {apart fresh handsOn again : Bool} {X : World → Array Value → Prop}
    (hX : ∀ (w w' : World) (args : Array Value), w.heap = w'.heap → X w args → X w' args) (own : ownKnob C.prog.godebug = none) (started : os.Started) (noInit : C.prog.inits.idxOf? f = none) (hfn : C.prog.funcs[f]? = some fn)
    (witness : ∃ (w : World) (tape : Tape) (i : Input), w.os = os ∧ (w.forCall tape i).Shaped C.prog ∧ i.vars = [] ∧ Input.okWide C.prog (w.forCall tape i) .any w.heap.size f i ∧
      ((s.pre enc C.prog fn conds apart (w.forCall tape i).memory i.args ∧ X (w.forCall tape i).memory i.args) ∧ sizedMet enc C.prog fn (OpenSpec.ofChange s) apart (w.forCall tape i).memory i.args) ∧ a.holds C.prog (lone (Frame.enter C.prog f i.args .normal) [] (w.forCall tape i)))
    (contract : ∀ (W : World) (base : Nat) (args : Array Value) (ds gs : List (DataW H)) (before : List MemPlace), (∀ (j : Nat) t v, fn.params[j]? = some t → args[j]? = some v → Value.okWide C.prog W .any base t v) →
      DataW.Whole enc C.prog fn.params.toList s.vars apart W args.toList ds gs before → X W args → W.ShapedOpen C.prog → Calls C.prog f args W fun e W' => ∃ v, e = .returned v ∧ s.post enc C.prog fn apart fresh handsOn again W args v W') :
    ReturnsInHanded a C os f .any (fun w args => (s.pre enc C.prog fn conds apart w args ∧ X w args) ∧ sizedMet enc C.prog fn (OpenSpec.ofChange s) apart w args) (s.post enc C.prog fn apart fresh handsOn again) := by
  refine returnsInHanded_of_calls own started noInit witness fun w tape i _ hsh _ hok hpre _ => ?_
  obtain ⟨_, _, _, fn', hfn', _, _, _, _, hval⟩ := hok
  obtain rfl : fn' = fn := Option.some.inj (hfn'.symm.trans hfn)
  obtain ⟨⟨⟨ds, gs, before, hw, _⟩, hx⟩, _⟩ := hpre
  exact (contract _ w.heap.size i.args ds gs before hval (DataW.Whole.of_heap (w' := w.forCall tape i) (by rfl) hw) (hX _ _ _ (by rfl) hx) hsh).mono fun _ _ ⟨_, he, hp⟩ => by
    subst he
    exact ChangeSpec.post_blind hp

theorem cells_int : Tryd.prog.cellsOf 3 = 1 := by kernel_rfl
theorem cells_word : Tryd.prog.cellsOf 23 = 12 := by kernel_rfl
section
variable {H : Type} {enc : TypeId × Value → H} {w : World} {base : Nat} {spare : Nat → Bool} {held : Bool} {fuel : Nat} {cs : List Value} {x : DataW H × List MemPlace}
set_option maxRecDepth 100000 in
theorem word_cells (h : DataW.trod enc Tryd.prog w base spare held fuel 23 cs = some x) : ∃ p : Nat → Int, cs = cw p := by
  obtain ⟨ys, n', _, _, hl, hyl, hf⟩ := DataW.trod_struct Tryd.underlying23 h
  rw [cells_word] at hl
  match cs, hl, ys, hyl with
  | [v0, v1, v2, v3, v4, v5, v6, v7, v8, v9, v10, v11], _, [y0, y1, y2, y3, y4, y5, y6, y7, y8, y9, y10, y11], _ =>
    have g0 := hf 0 _ rfl
    have g1 := hf 1 _ rfl
    have g2 := hf 2 _ rfl
    have g3 := hf 3 _ rfl
    have g4 := hf 4 _ rfl
    have g5 := hf 5 _ rfl
    have g6 := hf 6 _ rfl
    have g7 := hf 7 _ rfl
    have g8 := hf 8 _ rfl
    have g9 := hf 9 _ rfl
    have g10 := hf 10 _ rfl
    have g11 := hf 11 _ rfl
    simp [cells_int] at g0 g1 g2 g3 g4 g5 g6 g7 g8 g9 g10 g11
    obtain ⟨a0, e0, _, _⟩ := DataW.trod_int Tryd.underlying3 g0
    obtain ⟨a1, e1, _, _⟩ := DataW.trod_int Tryd.underlying3 g1
    obtain ⟨a2, e2, _, _⟩ := DataW.trod_int Tryd.underlying3 g2
    obtain ⟨a3, e3, _, _⟩ := DataW.trod_int Tryd.underlying3 g3
    obtain ⟨a4, e4, _, _⟩ := DataW.trod_int Tryd.underlying3 g4
    obtain ⟨a5, e5, _, _⟩ := DataW.trod_int Tryd.underlying3 g5
    obtain ⟨a6, e6, _, _⟩ := DataW.trod_int Tryd.underlying3 g6
    obtain ⟨a7, e7, _, _⟩ := DataW.trod_int Tryd.underlying3 g7
    obtain ⟨a8, e8, _, _⟩ := DataW.trod_int Tryd.underlying3 g8
    obtain ⟨a9, e9, _, _⟩ := DataW.trod_int Tryd.underlying3 g9
    obtain ⟨a10, e10, _, _⟩ := DataW.trod_int Tryd.underlying3 g10
    obtain ⟨a11, e11, _, _⟩ := DataW.trod_int Tryd.underlying3 g11
    simp at e0 e1 e2 e3 e4 e5 e6 e7 e8 e9 e10 e11
    subst e0 e1 e2 e3 e4 e5 e6 e7 e8 e9 e10 e11
    exact ⟨fun k => [a0, a1, a2, a3, a4, a5, a6, a7, a8, a9, a10, a11].getD k 0, rfl⟩
end
theorem word_of {H : Type} {enc : TypeId × Value → H} {w : World} {base b0 : Nat} {r : Reach} {spare : Nat → Bool} {held : Bool} {v : Value} {d : DataW H} {ps : List MemPlace}
    (hval : Value.okWide Tryd.prog w r b0 23 v) (hd : DataW.Trod enc Tryd.prog w base spare held 23 v d ps) : ∃ p : Nat → Int, v = .agg (cw p).toArray := by
  obtain ⟨cs, rfl, _⟩ := okWide_struct Tryd.underlying23 hval
  obtain ⟨fuel, hf⟩ := hd
  obtain ⟨p, he⟩ := word_cells hf
  refine ⟨p, ?_⟩
  rw [← he]; rfl

theorem gFi : Tryd.prog.globalNamed "camshaft/uword.fields" = some 0 := by kernel_rfl
theorem tFi : (Tryd.prog.globals[0]?).map (·.type) = some 51 := by kernel_rfl
theorem cFe : Tryd.prog.cellsOf 28 = 2 := by kernel_rfl
theorem cFs : Tryd.prog.cellsOf 9 = 1 := by kernel_rfl
theorem tstr : Tryd.prog.underlying 9 = some .string := by kernel_rfl

theorem field_at {H : Type} {enc : TypeId × Value → H} {w : World} {base : Nat} {sp : Nat → Bool} {held : Bool} {fuel : Nat} {cs : List Value} {l : List UInt8} {n : Int} {p : List MemPlace}
    (h : DataW.trod enc Tryd.prog w base sp held fuel 28 cs = some (.agg [.lit (.string l), .lit (.int .i64 n)], p)) : cs = [.string (sb l), .int .i64 n] := by
  obtain ⟨ys, n', _, hx, hl, hyl, hf⟩ := DataW.trod_struct Tryd.underlying28 h
  rw [cFe] at hl
  match cs, hl, ys, hyl with
  | [v0, v1], _, [y0, y1], _ =>
    have g0 := hf 0 _ rfl
    have g1 := hf 1 _ rfl
    simp [cFs, cells_int] at g0 g1
    obtain ⟨s, e0, k0, _⟩ := DataW.trod_string tstr g0
    obtain ⟨a, e1, k1, _⟩ := DataW.trod_int Tryd.underlying3 g1
    simp only [Prod.mk.injEq, DataW.agg.injEq] at hx
    have h1 := hx.1
    simp only [List.map_cons, List.map_nil, List.cons.injEq, and_true] at h1
    rw [k0, k1] at h1
    simp only [DataW.lit.injEq, Lit.string.injEq, Lit.int.injEq, true_and] at h1
    simp at e0 e1
    subst e0 e1
    rw [h1.1, h1.2, ← sb_of s]
def inn (d : DataW Unit) : List (DataW Unit) := match d with
  | .agg ds => ds
  | _ => []
theorem laid_at (i : Nat) (hi : i < 12) : (inn Rows.laid_camshaft_uword_fields)[i]? = some (.agg [.lit (.string (nmk i)), .lit (.int .i64 (wd i))]) :=
  k12 (P := fun i => (inn Rows.laid_camshaft_uword_fields)[i]? = some (.agg [.lit (.string (nmk i)), .lit (.int .i64 (wd i))])) rfl rfl rfl rfl rfl rfl rfl rfl rfl rfl rfl rfl i hi

/-- What the rows' condition gives the walks. -/
theorem of_laid {W : World} (h : laidMetH Tryd.prog Rows.uwordPacksRow.laid W) (_ : W.ShapedOpen Tryd.prog) : Gl W := by
  rw [MakeChecks.laidMetH_plain _ _ _ (by kernel_rfl)] at h
  obtain ⟨ps, ⟨g1, t1, cs1, f1, p1, q1, hg1, ht1, hv1, hd1, _, _⟩, _, _⟩ := h
  obtain rfl := Option.some.inj (gFi.symm.trans hg1)
  obtain rfl := Option.some.inj (tFi.symm.trans ht1)
  obtain ⟨xs, m, _, hx, _, hl, hel⟩ := DataW.trod_array fa_under hd1
  have hxs : xs.map (·.1) = inn Rows.laid_camshaft_uword_fields := by
    have := (Prod.mk.inj hx).1
    rw [this]; rfl
  have key : ∀ i, i < 12 → (cs1.toList.drop (i * 2)).take 2 = [.string (sb (nmk i)), .int .i64 (wd i)] := fun i hi => by
    have hE := hel i hi
    rw [cFe, List.getElem?_eq_getElem (by omega)] at hE
    have hx1 : xs[i].1 = .agg [.lit (.string (nmk i)), .lit (.int .i64 (wd i))] := by
      have := laid_at i hi
      rw [← hxs, List.getElem?_map, List.getElem?_eq_getElem (by omega)] at this
      exact Option.some.inj this
    refine field_at (p := xs[i].2) (hE.trans ?_)
    rw [← hx1]
  refine ⟨fun j v hv => ?_⟩
  have hj : j < 24 := (List.getElem?_eq_some_iff.1 hv).1
  rw [Nat.zero_add, World.var?_cell hg1 hv1 j, ← Array.getElem?_toList]
  have h2 := key (j / 2) (by omega)
  rcases Nat.mod_two_eq_zero_or_one j with e | e
  · have ej : j = j / 2 * 2 := by omega
    have h3 : ((cs1.toList.drop (j / 2 * 2)).take 2)[0]? = cs1.toList[j]? := by
      rw [List.getElem?_take, if_pos (by omega), List.getElem?_drop, ← ej]; rfl
    rw [← h3, h2, ← hv, ej, fc_get0 _ (by omega)]
    simp
  · have ej : j = j / 2 * 2 + 1 := by omega
    have h3 : ((cs1.toList.drop (j / 2 * 2)).take 2)[1]? = cs1.toList[j]? := by
      rw [List.getElem?_take, if_pos (by omega), List.getElem?_drop, ← ej]
    rw [← h3, h2, ← hv, ej, fc_get1 _ (by omega)]
    have : (j / 2 * 2 + 1) / 2 = j / 2 := by omega
    rw [this]
    rfl
end Go.Proofs.YtdchaalmjhjejaaDoor.Cs
