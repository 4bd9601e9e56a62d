/- The walks of IsaNames and IsaOperands. -/
import Derived.Test.YtmkfcjpdcaminaaDoorIWOf
namespace Go.Proofs.YtmkfcjpdcaminaaDoor.Cs
open Go.RowKit

/-- What IsaNames asks of operands. -/
def okN (xs : List (Int × Int)) : Bool := upto xs.length fun i => (!((opn xs i).1 == 98) || Nat.ble xs.length (i + 1)) && ((opn xs i).2 == 1 || ((opn xs i).2 == 2 || (opn xs i).2 == 4))
/-- What IsaOperands asks of them. -/
def okO (xs : List (Int × Int)) : Bool := upto xs.length fun i => ((opn xs i).1 == 114 || ((opn xs i).1 == 119 || ((opn xs i).1 == 109 || ((opn xs i).1 == 97 || ((opn xs i).1 == 118 || (opn xs i).1 == 98))))) &&
  (!((opn xs i).1 == 119 || (opn xs i).1 == 109) || (Nat.ble xs.length (i + 1) || (opn xs (i + 1)).1 == 98))
/-- How many are written, among the first k. -/
def wc (xs : List (Int × Int)) : Nat → Nat
  | 0 => 0
  | k + 1 => wc xs k + if (opn xs k).1 == 119 || (opn xs k).1 == 109 then 1 else 0
def okX (x : Oq) : Bool := okN x.ops && (okO x.ops && (Nat.ble (wc x.ops x.ops.length) 1 && (decide (1 ≤ x.cls) && (decide (x.cls ≤ 45) && (x.alu == 0 || ((decide (12 ≤ x.cls) && decide (x.cls ≤ 17)) || (decide (25 ≤ x.cls) && decide (x.cls ≤ 29))))))))
theorem okX_all : upto 256 (fun k => decide (nm (k : Int) = []) || okX (prg (k : Int)).1) = true := by kernel_rfl
theorem nm_in {code : Int} (h : nm code ≠ []) : ∃ k : Nat, code = k ∧ k < 256 := by
  have hc : 0 ≤ code ∧ code < 256 := by
    rcases Classical.em (0 ≤ code ∧ code < 256) with h' | h'
    · exact h'
    · exact absurd (show nm code = [] by unfold nm; rw [if_neg h']) h
  exact ⟨code.toNat, by omega, by omega⟩
theorem prg_yes {code : Int} (h : nm code ≠ []) : (prg code).2 = true ∧ (prg code).1.code = code ∧ (prg code).1.name = nm code := by
  unfold prg
  rw [if_neg h]
  exact ⟨rfl, rfl, rfl⟩

/-- Two variables that hold the same instruction, each with operands of its own. -/
structure L2 (w : World) (g h : Nat) (x : Oq) (u v : Value) (W : World) : Prop where
  one : Bx W g x u
  two : Bx W h x v
  bel : Below w.heap.size w W
theorem L2.below {w W W' : World} {g h : Nat} {x : Oq} {u v : Value} (l : L2 w g h x u v W) (b : Below W.heap.size W W') : L2 w g h x u v W' := ⟨l.one.below b, l.two.below b, bel_trans l.bel b l.bel.size⟩

set_option maxHeartbeats 6400000 in
set_option maxRecDepth 100000 in
theorem isanames_walk (code : Int) (w : World) (hg : Gl w) : Calls Tryd.prog 5 #[.int .i64 code] w fun e w' => e = .returned (.bool true) ∧ Below w.heap.size w w' := by
  have HA := Lib.hid (fun W h => alive_any W h)
  have HO := Lib.hid (fun W h => of_any code W h)
  have HG := Lib.hid hg
  clear hg
  by_cases h0 : nm code = []
  · have e : prg code = (zq, false) := by unfold prg; rw [if_pos h0]
    rw [e] at HO
    clear e h0
    go_enter Tryd.func5, Tryd.ntmps5
    go_wp2_with (first
      | (go_at_call 8; refine (HA.out _ HG.out).mono ?_; rintro e w1 ⟨rfl, hb⟩; have HB1 := Lib.hid hb; have HG1 := Lib.hid (HG.out.below hb); clear hb)
      | (go_at_call 9; refine (HO.out _ HG1.out).mono ?_; rintro e w2 ⟨u, rfl, ho, hb⟩; obtain ⟨A, c, rfl⟩ := ro_slice ho.1; have HB2 := Lib.hid (bel2 HB1.out hb); clear ho hb HB1)
      | fail)
    go_ret
    exact ⟨rfl, bel2 HB2.out (al1 _ _)⟩
  · obtain ⟨k, rfl, hk⟩ := nm_in h0
    obtain ⟨y2, yc, yn⟩ := prg_yes h0
    have hok : okX (prg (k : Int)).1 = true := by
      have := upto_at okX_all k hk
      rw [Bool.or_eq_true] at this
      rcases this with h | h
      · exact absurd (by simpa using h) h0
      · exact h
    have HF := Lib.hid (fun W h => find_any (nm (k : Int)) W h)
    rw [name_at k hk h0, ← yn] at HF
    have hl := prg_ops (k : Int)
    clear h0 yn hk
    generalize prg (k : Int) = p at *
    obtain ⟨x, b⟩ := p
    simp only at y2 yc hok hl HF
    subst y2
    have HM := Lib.hid (fun u v W h1 h2 => same_any x u v W (by omega) h1 h2)
    have HN : Hid (okN x.ops = true) := by show okN x.ops = true; unfold okX at hok; rw [Bool.and_eq_true] at hok; exact hok.1
    have hc1 : (x.code == (k : Int)) = true := by simpa using yc
    have HC := Lib.hid yc
    clear hok yc
    have hl6 : ((x.ops.length : Nat) : Int) ≤ 6 := by omega
    go_enter Tryd.func5, Tryd.ntmps5
    go_wp2_with (first
      | (go_at_call 8; refine (HA.out _ HG.out).mono ?_; rintro e w1 ⟨rfl, hb⟩; have HB1 := Lib.hid hb; have HG1 := Lib.hid (HG.out.below hb); clear hb)
      | (go_at_call 9; refine (HO.out _ HG1.out).mono ?_; rintro e w2 ⟨u, rfl, ho, hb⟩; obtain ⟨A, c, rfl⟩ := ro_slice ho.1; have HX := Lib.hid (Bx.new ho); have HB2 := Lib.hid (bel2 (bel2 HB1.out hb) (al1 w2 (.cells (x.cells (.slice A x.ops.length c)).toArray 25))); have HG2 := Lib.hid ((HG1.out.below hb).below (al1 w2 (.cells (x.cells (.slice A x.ops.length c)).toArray 25))); clear ho hb HB1 HG1)
      | (go_at_call 13; refine (HF.out _ HG2.out).mono ?_; rintro e w3 ⟨v, rfl, ho, hb⟩; obtain ⟨A', c', rfl⟩ := ro_slice ho.1; have HL : Hid (L2 w w2.heap.size w3.heap.size x (.slice A x.ops.length c) (.slice A' x.ops.length c') (w3.alloc (.cells (x.cells (.slice A' x.ops.length c')).toArray 25))) := ⟨(HX.out.below hb).below (al1 _ _), Bx.new ho, bel2 (bel2 HB2.out hb) (al1 _ _)⟩; obtain ⟨x0, x1, x2, x3, x4⟩ := (HX.out.below hb).cells; have hlt := (HX.out.below hb).box.lt; clear ho hb HB2 HX HG2)
      | fail)
    clear HA HO HF HG x0 x1 x2 x3 x4
    generalize w3.alloc (Obj.cells #[Value.int IntKind.i64 x.code, Value.string (sb x.name), Value.int IntKind.i64 x.cls, Value.int IntKind.i64 x.alu, Value.slice A' x.ops.length c'] 25) = W0 at *
    generalize w2.heap.size = g at *
    generalize w3.heap.size = h at *
    generalize hn : x.ops.length = n at *
    have HN' := Lib.hid hn
    clear hn
    go_loopw [30] (fun i wr => ∃ j : Nat, j ≤ n ∧ i = .int .i64 j ∧ L2 w g h x (.slice A n c) (.slice A' n c') wr) (fun i _ => n - (intOf i).toNat)
    case atStart => exact ⟨0, Nat.zero_le _, rfl, HL.out⟩
    case round =>
      clear HL
      obtain ⟨j, hj, rfl, hL⟩ := hrel
      have HL := Lib.hid hL
      obtain ⟨x0, x1, x2, x3, x4⟩ := hL.one.cells
      have hgl := hL.one.box.lt
      by_cases hlt : j < n
      · have hjl : j < x.ops.length := by rw [HN'.out]; exact hlt
        obtain ⟨r, c2, e, hr⟩ := ro_some hL.one.ops (by omega)
        injection e with e1 e2 e3
        subst e1
        obtain ⟨a0, a1⟩ := ro_at hL.one.ops j hjl
        have hok := upto_at HN.out j hjl
        rw [HN'.out] at hok
        clear hL e2 e3 hjl
        generalize opn x.ops j = o at *
        obtain ⟨oa, os⟩ := o
        simp only [Bool.and_eq_true, Bool.or_eq_true, Bool.not_eq_true', Nat.ble_eq, beq_iff_eq, beq_eq_false_iff_ne] at hok a0 a1
        obtain ⟨hb, hs⟩ := hok
        have hbb : (oa == 98) = false ∨ ((oa == 98) = true ∧ n ≤ j + 1) := by
          by_cases e : oa = 98
          · exact .inr ⟨by simpa using e, by rcases hb with h | h; · exact absurd e h
                                             · exact h⟩
          · exact .inl (by simpa using e)
        clear hb
        rcases hs with rfl | rfl | rfl
        all_goals
          rcases hbb with hbb | ⟨hbb, hn1⟩
        all_goals
          go_wp2
          go_roundw
          case rel => exact ⟨j + 1, by omega, by go_num, HL.out.below (al1 _ _)⟩
          case measure => first | (simp [intOf]; done) | (simp [intOf]; omega)
      · obtain ⟨y0, y1, y2, y3, y4⟩ := hL.two.cells
        have hhl := hL.two.box.lt
        clear hL
        go_wp2_with (go_at_call 11; refine (HM.out _ _ _ HL.out.one.ops HL.out.two.ops).mono ?_; rintro e w4 ⟨rfl, hb⟩; have HB4 := Lib.hid (bel_trans HL.out.bel hb HL.out.bel.size); obtain ⟨x0, x1, x2, x3, x4⟩ := (HL.out.one.below hb).cells; clear hb)
        go_ret
        exact ⟨rfl, HB4.out⟩

end Go.Proofs.YtmkfcjpdcaminaaDoor.Cs
