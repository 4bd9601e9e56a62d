/- The walk of IsaOperands. -/
import Derived.Test.YtmkfcjpdcaminaaDoorIWNam
namespace Go.Proofs.YtmkfcjpdcaminaaDoor.Cs
open Go.RowKit

/-- A variable that holds an instruction. -/
structure L1 (w : World) (g : Nat) (x : Oq) (u : Value) (W : World) : Prop where
  one : Bx W g x u
  bel : Below w.heap.size w W
theorem L1.below {w W W' : World} {g : Nat} {x : Oq} {u : Value} (l : L1 w g x u W) (b : Below W.heap.size W W') : L1 w g x u W' := ⟨l.one.below b, bel_trans l.bel b l.bel.size⟩
theorem wc_le (xs : List (Int × Int)) (k : Nat) : wc xs k ≤ k := by
  induction k with
  | zero => exact Nat.le_refl _
  | succ k ih => simp only [wc]; split <;> omega
theorem wc_yes {xs : List (Int × Int)} {k : Nat} (h : (opn xs k).1 = 119 ∨ (opn xs k).1 = 109) : wc xs (k + 1) = wc xs k + 1 := by
  simp only [wc]
  rw [if_pos (by simpa using h)]
theorem wc_not {xs : List (Int × Int)} {k : Nat} (h : ¬ ((opn xs k).1 = 119 ∨ (opn xs k).1 = 109)) : wc xs (k + 1) = wc xs k := by
  simp only [wc]
  rw [if_neg (by simpa using h)]
  rfl

set_option maxHeartbeats 6400000 in
set_option maxRecDepth 100000 in
theorem isaoperands_walk (code : Int) (w : World) (hg : Gl w) : Calls Tryd.prog 6 #[.int .i64 code] w fun e w' => e = .returned (.bool true) ∧ Below w.heap.size w w' := by
  have HA := Lib.hid (fun W h => alive_any W h)
  have HO := Lib.hid (fun W h => of_any code W h)
  have HG := Lib.hid hg
  clear hg
  by_cases h0 : nm code = []
  · have e : prg code = (zq, false) := by unfold prg; rw [if_pos h0]
    rw [e] at HO
    clear e h0
    go_enter Tryd.func6, Tryd.ntmps6
    go_wp2_with (first
      | (go_at_call 8; refine (HA.out _ HG.out).mono ?_; rintro e w1 ⟨rfl, hb⟩; have HB1 := Lib.hid hb; have HG1 := Lib.hid (HG.out.below hb); clear hb)
      | (go_at_call 9; refine (HO.out _ HG1.out).mono ?_; rintro e w2 ⟨u, rfl, ho, hb⟩; obtain ⟨A, c, rfl⟩ := ro_slice ho.1; have HB2 := Lib.hid (bel2 HB1.out hb); clear ho hb HB1)
      | fail)
    go_ret
    exact ⟨rfl, bel2 HB2.out (al1 _ _)⟩
  · obtain ⟨k, rfl, hk⟩ := nm_in h0
    obtain ⟨y2, yc, yn⟩ := prg_yes h0
    have hok : okX (prg (k : Int)).1 = true := by
      have := upto_at okX_all k hk
      rw [Bool.or_eq_true] at this
      rcases this with h | h
      · exact absurd (by simpa using h) h0
      · exact h
    have hl := prg_ops (k : Int)
    clear h0 yn hk yc
    generalize prg (k : Int) = p at *
    obtain ⟨x, b⟩ := p
    simp only at y2 hok hl
    subst y2
    unfold okX at hok
    simp only [Bool.and_eq_true, Bool.or_eq_true, Nat.ble_eq, decide_eq_true_eq, beq_iff_eq] at hok
    obtain ⟨_, hO, hW, c1, c45, hal⟩ := hok
    have HN := Lib.hid hO
    have HW := Lib.hid hW
    have HAL := Lib.hid hal
    clear hO hW hal
    go_enter Tryd.func6, Tryd.ntmps6
    go_wp2_with (first
      | (go_at_call 8; refine (HA.out _ HG.out).mono ?_; rintro e w1 ⟨rfl, hb⟩; have HB1 := Lib.hid hb; have HG1 := Lib.hid (HG.out.below hb); clear hb)
      | (go_at_call 9; refine (HO.out _ HG1.out).mono ?_; rintro e w2 ⟨u, rfl, ho, hb⟩; obtain ⟨A, c, rfl⟩ := ro_slice ho.1; have HL : Hid (L1 w w2.heap.size x (.slice A x.ops.length c) (w2.alloc (.cells (x.cells (.slice A x.ops.length c)).toArray 25))) := ⟨Bx.new ho, bel2 (bel2 HB1.out hb) (al1 _ _)⟩; clear ho hb HB1 HG1)
      | fail)
    clear HA HO HG
    generalize w2.alloc (Obj.cells #[Value.int IntKind.i64 x.code, Value.string (sb x.name), Value.int IntKind.i64 x.cls, Value.int IntKind.i64 x.alu, Value.slice A x.ops.length c] 25) = W0 at *
    generalize w2.heap.size = g at *
    generalize hn : x.ops.length = n at *
    have HN' := Lib.hid hn
    clear hn
    go_loopw [5, 30] (fun q i wr => ∃ j : Nat, j ≤ n ∧ i = .int .i64 j ∧ q = .int .i64 (wc x.ops j : Nat) ∧ L1 w g x (.slice A n c) wr) (fun _ i _ => n - (intOf i).toNat)
    case atStart => exact ⟨0, Nat.zero_le _, rfl, rfl, HL.out⟩
    case round =>
      clear HL
      obtain ⟨j, hj, rfl, rfl, hL⟩ := hrel
      have HL := Lib.hid hL
      obtain ⟨x0, x1, x2, x3, x4⟩ := hL.one.cells
      have hgl := hL.one.box.lt
      have hwc := wc_le x.ops j
      by_cases hlt : j < n
      · have hjl : j < x.ops.length := by rw [HN'.out]; exact hlt
        obtain ⟨r, c2, e, hr⟩ := ro_some hL.one.ops (by omega)
        injection e with e1 e2 e3
        subst e1
        obtain ⟨a0, a1⟩ := ro_at hL.one.ops j hjl
        have hnx : j + 1 < n → wr.cell? ⟨r, (j + 1) * 2, none⟩ = some (.int .u8 (opn x.ops (j + 1)).1) := fun h => (ro_at hL.one.ops (j + 1) (by rw [HN'.out]; exact h)).1
        have hok := upto_at HN.out j hjl
        rw [HN'.out] at hok
        have HY := Lib.hid (wc_yes (xs := x.ops) (k := j))
        have HZ := Lib.hid (wc_not (xs := x.ops) (k := j))
        clear hL e2 e3 hjl
        generalize opn x.ops j = o at *
        generalize opn x.ops (j + 1) = o2 at *
        generalize wc x.ops j = m1 at *
        obtain ⟨oa, os⟩ := o
        obtain ⟨oa2, os2⟩ := o2
        simp only [Bool.and_eq_true, Bool.or_eq_true, Bool.not_eq_true', Nat.ble_eq, beq_iff_eq, Bool.or_eq_false_iff, beq_eq_false_iff_ne] at hok a0 a1 hnx
        obtain ⟨hs, hb⟩ := hok
        simp only at HY HZ
        have i1 : IntKind.i64.wrap ((j : Int) + 1) = ((j + 1 : Nat) : Int) := by unfold IntKind.wrap; simp [IntKind.signed, IntKind.bits]; omega
        have HI := Lib.hid i1
        clear i1
        rcases hs with rfl | rfl | rfl | rfl | rfl | rfl
        · have e := HZ.out (by decide)
          have HE := Lib.hid e
          clear hnx hb e HY HZ HI
          go_wp2
          go_roundw
          case rel => exact ⟨j + 1, by omega, by go_num, by rw [HE.out], HL.out.below (al1 _ _)⟩
          case measure => first | (simp [intOf]; done) | (simp [intOf]; omega)
        · have e := HY.out (by decide)
          have HE := Lib.hid e
          clear e HY HZ HI
          by_cases h1 : j + 1 < n
          · have a2 := hnx h1
            have e98 : oa2 = 98 := by
              rcases hb with ⟨h, _⟩ | h | h
              · exact absurd rfl h
              · omega
              · exact h
            subst e98
            clear hnx hb
            go_wp2
            go_roundw
            case rel => exact ⟨j + 1, by omega, by go_num, by rw [HE.out]; go_num, HL.out.below (al1 _ _)⟩
            case measure => first | (simp [intOf]; done) | (simp [intOf]; omega)
          · have h1' : n ≤ j + 1 := by omega
            clear hnx hb h1
            go_wp2
            go_roundw
            case rel => exact ⟨j + 1, by omega, by go_num, by rw [HE.out]; go_num, HL.out.below (al1 _ _)⟩
            case measure => first | (simp [intOf]; done) | (simp [intOf]; omega)
        · have e := HY.out (by decide)
          have HE := Lib.hid e
          clear e HY HZ HI
          by_cases h1 : j + 1 < n
          · have a2 := hnx h1
            have e98 : oa2 = 98 := by
              rcases hb with ⟨_, h⟩ | h | h
              · exact absurd rfl h
              · omega
              · exact h
            subst e98
            clear hnx hb
            go_wp2
            go_roundw
            case rel => exact ⟨j + 1, by omega, by go_num, by rw [HE.out]; go_num, HL.out.below (al1 _ _)⟩
            case measure => first | (simp [intOf]; done) | (simp [intOf]; omega)
          · have h1' : n ≤ j + 1 := by omega
            clear hnx hb h1
            go_wp2
            go_roundw
            case rel => exact ⟨j + 1, by omega, by go_num, by rw [HE.out]; go_num, HL.out.below (al1 _ _)⟩
            case measure => first | (simp [intOf]; done) | (simp [intOf]; omega)
        · have e := HZ.out (by decide)
          have HE := Lib.hid e
          clear hnx hb e HY HZ HI
          go_wp2
          go_roundw
          case rel => exact ⟨j + 1, by omega, by go_num, by rw [HE.out], HL.out.below (al1 _ _)⟩
          case measure => first | (simp [intOf]; done) | (simp [intOf]; omega)
        · have e := HZ.out (by decide)
          have HE := Lib.hid e
          clear hnx hb e HY HZ HI
          go_wp2
          go_roundw
          case rel => exact ⟨j + 1, by omega, by go_num, by rw [HE.out], HL.out.below (al1 _ _)⟩
          case measure => first | (simp [intOf]; done) | (simp [intOf]; omega)
        · have e := HZ.out (by decide)
          have HE := Lib.hid e
          clear hnx hb e HY HZ HI
          go_wp2
          go_roundw
          case rel => exact ⟨j + 1, by omega, by go_num, by rw [HE.out], HL.out.below (al1 _ _)⟩
          case measure => first | (simp [intOf]; done) | (simp [intOf]; omega)
      · have hw1 : ((wc x.ops j : Nat) : Int) ≤ 1 := by
          have e : j = n := by omega
          rw [e]
          have := HW.out
          omega
        have HB := Lib.hid hL.bel
        have hal : (x.alu == 0) = true ∨ ((x.alu == 0) = false ∧ 12 ≤ x.cls ∧ x.cls ≤ 17) ∨ ((x.alu == 0) = false ∧ 17 < x.cls ∧ 25 ≤ x.cls ∧ x.cls ≤ 29) := by
          by_cases e : x.alu = 0
          · exact .inl (by simpa using e)
          · have e' : (x.alu == 0) = false := by simpa using e
            rcases HAL.out with h | h | h
            · exact absurd h e
            · exact .inr (.inl ⟨e', h⟩)
            · exact .inr (.inr ⟨e', by omega, h⟩)
        clear hL HAL
        generalize wc x.ops j = m at *
        rcases hal with h | ⟨h, h12, h17⟩ | ⟨h, h17, h25, h29⟩
        · go_wp2
          go_ret
          exact ⟨rfl, HB.out⟩
        · go_wp2
          go_ret
          exact ⟨rfl, HB.out⟩
        · go_wp2
          go_ret
          exact ⟨rfl, HB.out⟩

end Go.Proofs.YtmkfcjpdcaminaaDoor.Cs
