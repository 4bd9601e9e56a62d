/- The walk of IsaSizes. -/
import Derived.Test.YtmkfcjpdcaminaaDoorIWNam
import Derived.Lib.OthersKept
import Derived.Deep.RegionWith
import Derived.Deep.QuietTactic
import Derived.BigQuiet
namespace Go.Proofs.YtmkfcjpdcaminaaDoor.Cs
open Go.RowKit

/-- At how many of the first k places two names differ. -/
def dif (a b : List UInt8) : Nat → Nat
  | 0 => 0
  | k + 1 => dif a b k + if a.getD k 0 = b.getD k 0 then 0 else 1
theorem dif_le (a b : List UInt8) (k : Nat) : dif a b k ≤ k := by
  induction k with
  | zero => exact Nat.le_refl _
  | succ k ih => simp only [dif]; split <;> omega
/-- What IsaSizes asks of three instructions. -/
def okT (x y z : Oq) : Bool := Nat.beq x.ops.length y.ops.length && (Nat.beq x.ops.length z.ops.length && (Nat.beq x.name.length y.name.length && (Nat.beq (dif x.name y.name x.name.length) 1 && (decide (x.cls = y.cls) && (decide (x.cls = z.cls) && (decide (x.alu = y.alu) && (decide (x.alu = z.alu) &&
  (Nat.ble x.name.length 100 && (Nat.ble x.ops.length 6 && (upto x.name.length (fun i => Nat.blt (x.name.getD i 0).toNat 128) && upto x.ops.length (fun i => decide (opn y.ops i = ((opn x.ops i).1, 2)) && (decide (opn z.ops i = ((opn x.ops i).1, 4)) && decide ((opn x.ops i).2 = 1)))))))))))))
def okZ (k : Nat) : Bool := okT (prg ((128 + k : Nat) : Int)).1 (prg ((160 + k : Nat) : Int)).1 (prg ((192 + k : Nat) : Int)).1 && ((prg ((128 + k : Nat) : Int)).2 && ((prg ((160 + k : Nat) : Int)).2 && (prg ((192 + k : Nat) : Int)).2))
theorem okZ_all : upto 24 (fun k => Nat.beq k 15 || okZ k) = true := by kernel_rfl

/-- Three variables that hold instructions. -/
structure L3 (w : World) (g h i : Nat) (x y z : Oq) (u v t : Value) (W : World) : Prop where
  one : Bx W g x u
  two : Bx W h y v
  thr : Bx W i z t
  bel : Below w.heap.size w W
theorem L3.below {w W W' : World} {g h i : Nat} {x y z : Oq} {u v t : Value} (l : L3 w g h i x y z u v t W) (b : Below W.heap.size W W') : L3 w g h i x y z u v t W' := ⟨l.one.below b, l.two.below b, l.thr.below b, bel_trans l.bel b l.bel.size⟩

set_option maxHeartbeats 1600000 in
set_option maxRecDepth 100000 in
theorem isasizes_out (low : Int) (w : World) (hg : Gl w) (h : low < 0 ∨ 23 < low ∨ low = 15) : Calls Tryd.prog 7 #[.int .i64 low] w fun e w' => e = .returned (.bool true) ∧ Below w.heap.size w w' := by
  have HA := Lib.hid (fun W h => alive_any W h)
  have HG := Lib.hid hg
  clear hg
  have h3 : low < 0 ∨ (0 ≤ low ∧ 23 < low) ∨ low = 15 := by omega
  clear h
  rcases h3 with h | ⟨h0, h⟩ | rfl
  all_goals
    go_enter Tryd.func7, Tryd.ntmps7
    go_wp2_with (go_at_call 8; refine (HA.out _ HG.out).mono ?_; rintro e w1 ⟨rfl, hb⟩; have HB1 := Lib.hid hb; clear hb)
    go_ret
    exact ⟨rfl, HB1.out⟩

set_option maxHeartbeats 6400000 in
set_option maxRecDepth 100000 in
theorem isasizes_in (k : Nat) (hk : k < 24) (h15 : k ≠ 15) (w : World) (hg : Gl w) : Calls Tryd.prog 7 #[.int .i64 k] w fun e w' => e = .returned (.bool true) ∧ Below w.heap.size w w' := by
  have HA := Lib.hid (fun W h => alive_any W h)
  have HX := Lib.hid (fun W h => of_any ((128 + k : Nat) : Int) W h)
  have HY := Lib.hid (fun W h => of_any ((160 + k : Nat) : Int) W h)
  have HZ := Lib.hid (fun W h => of_any ((192 + k : Nat) : Int) W h)
  have hok : okZ k = true := by
    have := upto_at okZ_all k hk
    rw [Bool.or_eq_true] at this
    rcases this with h | h
    · exact absurd (Nat.eq_of_beq_eq_true h) h15
    · exact h
  have HG := Lib.hid hg
  clear hg
  unfold okZ at hok
  generalize prg ((128 + k : Nat) : Int) = p at *
  generalize prg ((160 + k : Nat) : Int) = q at *
  generalize prg ((192 + k : Nat) : Int) = s at *
  obtain ⟨⟨xc, xn, xl, xa, xo⟩, xb⟩ := p
  obtain ⟨⟨yc, yn, yl, ya, yo⟩, yb⟩ := q
  obtain ⟨⟨zc, zn, zl, za, zo⟩, zb⟩ := s
  simp only [okT, Bool.and_eq_true, decide_eq_true_eq] at hok
  obtain ⟨⟨e1, e2, e3, e4, rfl, rfl, rfl, rfl, e5, e6, e7, e8⟩, rfl, rfl, rfl⟩ := hok
  have e1 := Nat.eq_of_beq_eq_true e1
  have e2 := Nat.eq_of_beq_eq_true e2
  have e3 := Nat.eq_of_beq_eq_true e3
  have E4 := Lib.hid (Nat.eq_of_beq_eq_true e4)
  have e5 := Nat.le_of_ble_eq_true e5
  have e6 := Nat.le_of_ble_eq_true e6
  have E7 := Lib.hid e7
  have E8 := Lib.hid e8
  clear e4 e7 e8
  have k1 : IntKind.i64.wrap (128 + (k : Int)) = ((128 + k : Nat) : Int) := by unfold IntKind.wrap; simp [IntKind.signed, IntKind.bits]; omega
  have kb0 : decide ((k : Int) < 0) = false := by simp
  have kb1 : decide (23 < (k : Int)) = false := by simp; omega
  have b15 : ((k : Int) == 15) = false := by simp; omega
  obtain ⟨n, hn⟩ : ∃ n, xo.length = n := ⟨_, rfl⟩
  obtain ⟨m, hm⟩ : ∃ m, xn.length = m := ⟨_, rfl⟩
  have hsx : (sb xn).size = m := by rw [sb_size, hm]
  have hsy : (sb yn).size = m := by rw [sb_size, ← e3, hm]
  have hgx : ∀ i (h : i < (sb xn).size), (sb xn)[i] = xn.getD i 0 := sb_get xn
  have hgy : ∀ i (h : i < (sb yn).size), (sb yn)[i] = yn.getD i 0 := sb_get yn
  have E1 : Hid (yo.length = n) := by show yo.length = n; omega
  have E2 : Hid (zo.length = n) := by show zo.length = n; omega
  have E0 := Lib.hid hn
  have EM := Lib.hid hm
  rw [hm] at e5 E4 E7
  rw [hn] at e6 E8
  have GX := Lib.hid hgx
  have GY := Lib.hid hgy
  clear e1 e2 e3 hgx hgy hn hm k1 h15
  have c128 : (128 : Int) + (k : Int) = ((128 + k : Nat) : Int) := by omega
  have c160 : (160 : Int) + (k : Int) = ((160 + k : Nat) : Int) := by omega
  have c192 : (192 : Int) + (k : Int) = ((192 + k : Nat) : Int) := by omega
  generalize ((128 + k : Nat) : Int) = i1 at *
  generalize ((160 + k : Nat) : Int) = i2 at *
  generalize ((192 + k : Nat) : Int) = i3 at *
  go_enter Tryd.func7, Tryd.ntmps7
  go_wp2_with (first
    | (go_at_call 8; refine (HA.out _ HG.out).mono ?_; rintro e w1 ⟨rfl, hb⟩; have HB1 := Lib.hid hb; have HG1 := Lib.hid (HG.out.below hb); clear hb)
    | (go_at_call_of 9 (Value.int .i64 i1); refine (HX.out _ HG1.out).mono ?_; rintro e w2 ⟨u, rfl, ho, hb⟩; obtain ⟨A, c, rfl⟩ := ro_slice ho.1; simp only [E0.out] at *; have HX2 := Lib.hid (Bx.new ho); have HB2 := Lib.hid (bel2 (bel2 HB1.out hb) (al1 w2 (.cells (Oq.cells (⟨xc, xn, xl, xa, xo⟩ : Oq) (.slice A n c)).toArray 25))); have HG2 := Lib.hid ((HG1.out.below hb).below (al1 w2 (.cells (Oq.cells (⟨xc, xn, xl, xa, xo⟩ : Oq) (.slice A n c)).toArray 25))); clear ho hb HB1 HG1)
    | (go_at_call_of 9 (Value.int .i64 i2); refine (HY.out _ HG2.out).mono ?_; rintro e w3 ⟨v, rfl, ho, hb⟩; obtain ⟨A', c', rfl⟩ := ro_slice ho.1; simp only [E1.out] at *; have HX3 := Lib.hid ((HX2.out.below hb).below (al1 w3 (.cells (Oq.cells (⟨yc, yn, xl, xa, yo⟩ : Oq) (.slice A' n c')).toArray 25))); have HY3 := Lib.hid (Bx.new ho); have HB3 := Lib.hid (bel2 (bel2 HB2.out hb) (al1 w3 (.cells (Oq.cells (⟨yc, yn, xl, xa, yo⟩ : Oq) (.slice A' n c')).toArray 25))); have HG3 := Lib.hid ((HG2.out.below hb).below (al1 w3 (.cells (Oq.cells (⟨yc, yn, xl, xa, yo⟩ : Oq) (.slice A' n c')).toArray 25))); have l23 := (HX2.out.below hb).box.lt; clear ho hb HB2 HG2 HX2)
    | (go_at_call_of 9 (Value.int .i64 i3); refine (HZ.out _ HG3.out).mono ?_; rintro e w4 ⟨t, rfl, ho, hb⟩; obtain ⟨A'', c'', rfl⟩ := ro_slice ho.1; simp only [E2.out] at *; have HL : Hid (L3 w w2.heap.size w3.heap.size w4.heap.size (⟨xc, xn, xl, xa, xo⟩ : Oq) (⟨yc, yn, xl, xa, yo⟩ : Oq) (⟨zc, zn, xl, xa, zo⟩ : Oq) (.slice A n c) (.slice A' n c') (.slice A'' n c'') (w4.alloc (.cells (Oq.cells (⟨zc, zn, xl, xa, zo⟩ : Oq) (.slice A'' n c'')).toArray 25))) := ⟨(HX3.out.below hb).below (al1 _ _), (HY3.out.below hb).below (al1 _ _), Bx.new ho, bel2 (bel2 HB3.out hb) (al1 _ _)⟩; obtain ⟨x0, x1, x2, x3, x4⟩ := (HX3.out.below hb).cells; obtain ⟨y0, y1, y2, y3, y4⟩ := (HY3.out.below hb).cells; have l24 := (HX3.out.below hb).box.lt; have l34 := (HY3.out.below hb).box.lt; clear ho hb HB3 HG3 HX3 HY3)
    | fail)
  clear HA HX HY HZ HG x0 x1 x2 x3 x4 y0 y1 y2 y3 y4
  generalize w4.alloc (Obj.cells #[Value.int IntKind.i64 zc, Value.string (sb zn), Value.int IntKind.i64 xl, Value.int IntKind.i64 xa, Value.slice A'' n c''] 25) = W0 at *
  generalize w2.heap.size = g at *
  generalize w3.heap.size = h at *
  generalize w4.heap.size = gi at *
  go_loopw [110] (fun i wr => ∃ j : Nat, j ≤ n ∧ i = .int .i64 j ∧ L3 w g h gi (⟨xc, xn, xl, xa, xo⟩ : Oq) (⟨yc, yn, xl, xa, yo⟩ : Oq) (⟨zc, zn, xl, xa, zo⟩ : Oq) (.slice A n c) (.slice A' n c') (.slice A'' n c'') wr) (fun i _ => n - (intOf i).toNat)
  case atStart => exact ⟨0, Nat.zero_le _, rfl, HL.out⟩
  case round =>
    clear HL
    obtain ⟨j, hj, rfl, hL⟩ := hrel
    have HL := Lib.hid hL
    by_cases hlt : j < n
    · have x4 := hL.one.box.cell 4 _ rfl
      have y4 := hL.two.box.cell 4 _ rfl
      have z4 := hL.thr.box.cell 4 _ rfl
      have f0 : xo.length = n := by obtain ⟨_, _, e⟩ := ro_slice hL.one.ops; injection e with _ e _; exact e.symm
      have f1 : yo.length = n := by obtain ⟨_, _, e⟩ := ro_slice hL.two.ops; injection e with _ e _; exact e.symm
      have f2 : zo.length = n := by obtain ⟨_, _, e⟩ := ro_slice hL.thr.ops; injection e with _ e _; exact e.symm
      obtain ⟨r1, q1, e, _⟩ := ro_some hL.one.ops (by show xo.length ≠ 0; omega)
      injection e with e1 e2 e3
      subst e1
      obtain ⟨r2, q2, e, _⟩ := ro_some hL.two.ops (by show yo.length ≠ 0; omega)
      injection e with e1 e4 e5
      subst e1
      obtain ⟨r3, q3, e, _⟩ := ro_some hL.thr.ops (by show zo.length ≠ 0; omega)
      injection e with e1 e6' e7'
      subst e1
      obtain ⟨a0, a1⟩ := ro_at hL.one.ops j (by show j < xo.length; omega)
      obtain ⟨b0, b1⟩ := ro_at hL.two.ops j (by show j < yo.length; omega)
      obtain ⟨d0, d1⟩ := ro_at hL.thr.ops j (by show j < zo.length; omega)
      have hok := upto_at E8.out j hlt
      simp only [Bool.and_eq_true, decide_eq_true_eq] at hok a0 a1 b0 b1 d0 d1
      obtain ⟨k1, k2, k3⟩ := hok
      rw [k1] at b0 b1
      rw [k2] at d0 d1
      rw [k3] at a1
      simp only at b0 b1 d0 d1
      clear hL e2 e3 e4 e5 e6' e7' k1 k2 k3 f0 f1 f2
      generalize (opn xo j).1 = oa at *
      go_wp2
      go_quiet (fail)
      go_wp2
      go_roundw
      case rel => exact ⟨j + 1, by omega, by go_num, HL.out.below (drewN_bel _ _)⟩
      case measure => first | (simp [intOf]; done) | (simp [intOf]; omega)
    · obtain ⟨x0, x1, x2, x3, x4⟩ := hL.one.cells
      clear hL E8
      generalize wr = V at *
      go_wp2
      go_loopw [10] (fun q wq => ∃ j : Nat, j ≤ m ∧ q = .int .i64 (dif xn yn j : Nat) ∧ Below V.heap.size V wq ∧ wq.heap[V.heap.size]? = some (.stringIter (sb xn) j)) (fun _ wq => m - wq.iterPos V.heap.size)
      case atStart => exact ⟨0, Nat.zero_le _, rfl, al1 _ _, heap_alloc_new V _⟩
      case round =>
        obtain ⟨j2, hj2, rfl, hb, hi⟩ := hrel
        have HB := Lib.hid hb
        have HI := Lib.hid hi
        have hdl := dif_le xn yn j2
        have hpos : ∀ W : World, ∀ p : Nat, W.heap[V.heap.size]? = some (.stringIter (sb xn) p) → W.iterPos V.heap.size = p := fun W p h => by simp [World.iterPos, h]
        have HPS := Lib.hid hpos
        clear hpos
        by_cases hlt2 : j2 < m
        · have hjx : j2 < (sb xn).size := by rw [hsx]; exact hlt2
          have hjy : j2 < (sb yn).size := by rw [hsy]; exact hlt2
          have ha : ((sb xn)[j2]'hjx).toNat < 128 := by
            have := upto_at E7.out j2 hlt2
            rw [GX.out j2 hjx]
            exact Nat.lt_succ_of_le (by simpa [Nat.blt] using this)
          have hnx := fun ty => Lib.run_next_ascii_at (P := Tryd.prog) wr V.heap.size (sb xn) j2 ty hi hjx ha
          have HBi := Lib.hid (Lib.below_iterAt hb (Nat.le_refl _) (sb xn) (j2 + 1))
          have HIi := Lib.hid (Lib.iterAt_heap wr V.heap.size (sb xn) j2 (j2 + 1) hi)
          clear hb hi
          have hS2 := HL.out.below HBi.out
          have x1' := hS2.one.box.cell 1 _ rfl
          have y1' := hS2.two.box.cell 1 _ rfl
          have gx := GX.out j2 hjx
          have gy := GY.out j2 hjy
          have HD : Hid (dif xn yn (j2 + 1) = dif xn yn j2 + if xn.getD j2 0 = yn.getD j2 0 then 0 else 1) := rfl
          have HNX := Lib.hid hnx
          clear hS2 x0 x1 x2 x3 x4
          by_cases hc : xn.getD j2 0 = yn.getD j2 0
          · rw [if_pos hc] at HD
            have hcb : ((((sb xn)[j2]'hjx).toNat : Int) != (((sb yn)[j2]'hjy).toNat : Int)) = false := by rw [gx, gy, hc]; simp
            clear hc gx gy hnx
            have hnx := HNX.out
            generalize wr.iterAt V.heap.size (sb xn) (j2 + 1) = W2 at *
            go_wp2
            clear hnx
            go_region
            go_wp2
            go_roundw
            case rel => exact ⟨j2 + 1, by omega, by rw [HD.out]; simp, HBi.out.drew, HIi.out⟩
            case measure => rw [HPS.out wr j2 HI.out, HPS.out W2.drew (j2 + 1) HIi.out]; omega
          · rw [if_neg hc] at HD
            have hcb : ((((sb xn)[j2]'hjx).toNat : Int) != (((sb yn)[j2]'hjy).toNat : Int)) = true := by
              rw [gx, gy]
              simp only [bne_iff_ne, ne_eq]
              intro e
              exact hc (by rw [← UInt8.toNat_inj]; omega)
            clear hc gx gy hnx
            have hnx := HNX.out
            generalize wr.iterAt V.heap.size (sb xn) (j2 + 1) = W2 at *
            go_wp2
            clear hnx
            go_region
            go_wp2
            go_roundw
            case rel => exact ⟨j2 + 1, by omega, by rw [HD.out]; go_num, HBi.out.drew, HIi.out⟩
            case measure => rw [HPS.out wr j2 HI.out, HPS.out W2.drew (j2 + 1) HIi.out]; omega
        · have e2 : j2 = m := by omega
          have hnx := fun ty => Lib.run_next_end_at (P := Tryd.prog) wr V.heap.size (sb xn) j2 ty hi (by rw [hsx]; omega)
          have h1 : dif xn yn j2 = 1 := by rw [e2]; exact E4.out
          have hbb := Lib.hid (bel_trans HL.out.bel HB.out HL.out.bel.size)
          rw [h1]
          clear hb hi h1 hdl
          go_wp2
          go_ret
          exact ⟨rfl, hbb.out⟩

theorem isasizes_walk (low : Int) (w : World) (hg : Gl w) : Calls Tryd.prog 7 #[.int .i64 low] w fun e w' => e = .returned (.bool true) ∧ Below w.heap.size w w' := by
  by_cases h : low < 0 ∨ 23 < low ∨ low = 15
  · exact isasizes_out low w hg h
  · obtain ⟨k, rfl⟩ : ∃ k : Nat, low = k := ⟨low.toNat, by omega⟩
    exact isasizes_in k (by omega) (by omega) w hg

end Go.Proofs.YtmkfcjpdcaminaaDoor.Cs
