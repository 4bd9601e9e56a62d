/- The document's Extract and Insert. -/
import Derived.Test.YtfhhlieacmkheaaSRow
namespace Go.Proofs.Ytfhhlieacmkheaa.Cs
open Go.RowKit

theorem below2 {w w1 w2 : World} (h : Below w.heap.size w w1) (k : Below w1.heap.size w1 w2) : Below w.heap.size w w2 := h.trans (k.mono h.size)

/-- a row in a variable of the call's own -/
structure Iv (w : World) (b : Nat) (f : Nat → Bool) (W : World) : Prop where
  own : Rb W b f
  bel : Below w.heap.size w W
/-- two of them -/
structure Ev (w : World) (b : Nat) (f g : Nat → Bool) (W : World) : Prop where
  row : Rb W b f
  own : Rb W (b + 1) g
  bel : Below w.heap.size w W
theorem Iv.new {w w1 : World} (h : Below w.heap.size w w1) (f : Nat → Bool) :
    Iv w w1.heap.size f ((w1.alloc (.cells (cl fun _ => false).toArray 35)).setCells w1.heap.size 0 (cl f)) :=
  ⟨(Rb.new w1 _).all f, below_setCells _ _ (h.alloc h.size _) h.size⟩
theorem size_alloc (w : World) (o : Obj) : (w.alloc o).heap.size = w.heap.size + 1 := by simp
theorem size_setCells {b : Nat} : ∀ (cs : List Value) (o : Nat) {W : World}, (W.setCells b o cs).heap.size = W.heap.size
  | [], _, _ => rfl
  | v :: r, o, W => by rw [World.setCells, size_setCells r (o + 1)]; simp
theorem Ev.new {w w1 : World} (h : Below w.heap.size w w1) (f : Nat → Bool) :
    Ev w w1.heap.size f (fun _ => false) (((w1.alloc (.cells (cl fun _ => false).toArray 35)).setCells w1.heap.size 0 (cl f)).alloc (.cells (cl fun _ => false).toArray 35)) := by
  have k := Iv.new h f
  have e : ((w1.alloc (.cells (cl fun _ => false).toArray 35)).setCells w1.heap.size 0 (cl f)).heap.size = w1.heap.size + 1 := by
    rw [size_setCells]; simp
  refine ⟨k.own.alloc _, ?_, k.bel.alloc (by rw [e]; have := h.size; omega) _⟩
  have := Rb.new ((w1.alloc (.cells (cl fun _ => false).toArray 35)).setCells w1.heap.size 0 (cl f)) (fun _ => false)
  rw [e] at this; exact this
theorem Iv.step {w W : World} {b n : Nat} {r x : Int} {a : Nat} (h : Iv w b (ib r a n x) W) (hb : w.heap.size ≤ b) : Iv w b (ib r a (n + 1) x) (W.setCell ⟨b, a + n, none⟩ (.bool (bi x n))) := by
  refine ⟨(h.own.set (a + n) _).congr fun i _ => ?_, h.bel.setCell (by simpa using hb) _⟩
  unfold ib
  by_cases hi : i = a + n
  · subst hi
    rw [if_pos rfl, if_pos ⟨by omega, by omega⟩, Nat.add_sub_cancel_left]
  · rw [if_neg hi]
    by_cases h2 : a ≤ i ∧ i < a + n
    · rw [if_pos h2, if_pos ⟨h2.1, by omega⟩]
    · rw [if_neg h2, if_neg (by omega)]
/-- the first k bits of a field -/
def fx (r : Int) (a s : Nat) (g : Bool) (k i : Nat) : Bool := decide (i < k) && xb r a s g i
theorem Ev.step {w W : World} {b : Nat} {f : Nat → Bool} {r : Int} {a s k : Nat} {g v : Bool} (h : Ev w b f (fx r a s g k) W) (hb : w.heap.size ≤ b) (hv : xb r a s g k = v) : Ev w b f (fx r a s g (k + 1)) (W.setCell ⟨b + 1, k, none⟩ (.bool v)) := by
  refine ⟨h.row.other (by omega) _ _, (h.own.set k _).congr fun i _ => ?_, h.bel.setCell (Nat.le_trans hb (Nat.le_succ b)) _⟩
  unfold fx
  by_cases hi : i = k
  · subst hi; simp [hv]
  · simp only [hi, if_false]
    congr 1
    rw [decide_eq_decide]; omega

set_option maxHeartbeats 1000000 in
theorem rins_any (r t s x : Int) (hr : V r) (hx : U x) (ht0 : 0 ≤ t) (hs0 : 0 ≤ s) (hs : s ≤ 32) (w : World) :
    Calls Try.prog 19 #[.int .u64 r, .int .i64 t, .int .i64 s, .int .u32 x] w fun e w' => e = .returned (.int .u64 (iv r (t % 32).toNat s.toNat x)) ∧ Below w.heap.size w w' := by
  obtain ⟨n, rfl⟩ := Int.eq_ofNat_of_zero_le hs0
  rw [Int.toNat_natCast]
  have ha : t % 32 = ((t % 32).toNat : Int) := by omega
  have ha2 : (t % 32).toNat < 32 := by omega
  have KR := fun w => Lib.hid (row_any r hr w)
  have HX := Lib.hid hx
  generalize (t % 32).toNat = a at *
  have hn : n ≤ 32 := by omega
  have KN := fun w => Lib.hid (number_any (ib r a n x) w)
  clear hr hx hs0
  go_enter Try.func19, Try.ntmps19
  go_wp2_with fail
  refine (KR _).out.mono ?_
  rintro e w1 ⟨rfl, hb1⟩
  have HT := Lib.hid ((Rb.new w1 (fun _ => false)).there (bi r))
  have HJ := Lib.hid (ar_ofA (bi r))
  have HO := Lib.hid (cl_one (bi r))
  have HN := Lib.hid (Iv.new hb1 (bi r))
  have HB := Lib.hid hb1.size
  clear hb1 KR
  generalize hl : cl (bi r) = l at *
  clear hl
  go_wp2_with (refine wpList_store_mid rfl 35 _ _ rfl w1.heap.size 0 l.toArray rfl rfl HT.out HJ.out HO.out ?_)
  rw [ha]
  clear ha ht0
  go_loopw [10] (fun i W => ∃ k : Nat, k ≤ n ∧ i = .int .i64 k ∧ Iv w w1.heap.size (ib r a k x) W) (fun i _ => n - (intOf i).toNat)
  case atStart =>
    refine ⟨0, by omega, rfl, ?_⟩
    have := HN.out
    exact ⟨this.own.congr fun i _ => by unfold ib; rw [if_neg (by omega)], this.bel⟩
  case round =>
    obtain ⟨k, hk, rfl, hM⟩ := hrel
    have HM := Lib.hid hM
    by_cases hlt : k < n
    · have hj : (a : Int) + k = ((a + k : Nat) : Int) := by omega
      have hj2 : a + k < 64 := by omega
      have c := hM.own.cell hj2
      have f := hM.own.free (a + k)
      have KS := Lib.hid (HM.out.step HB.out)
      have kB := rbit_any x k HX.out (by omega)
      rw [Int.toNat_natCast] at kB
      have KB := fun w => Lib.hid (kB w)
      clear hM kB
      generalize bi x k = q at *
      generalize a + k = j at *
      go_wp2_with fail
      refine (KB _).out.mono ?_
      rintro e w' ⟨rfl, rfl⟩
      go_wp2
      go_roundw
      case rel => exact ⟨k + 1, by omega, by go_num, KS.out⟩
      case measure => simp [intOf]; omega
    · obtain rfl : k = n := by omega
      clear hM
      have HR := Lib.hid HM.out.own.range
      have HI := Lib.hid (ar_of (ib r a k x))
      have HL := Lib.hid HM.out.bel
      clear HM HN HT HJ HO
      generalize cl (ib r a k x) = m at *
      go_wp2_with (first
        | refine wpList_load_mid rfl 35 _ rfl w1.heap.size 0 rfl m _ HR.out ar_under rfl HI.out ?_
        | fail)
      refine (KN _).out.mono ?_
      rintro e w2 ⟨rfl, hb2⟩
      go_wp2
      go_ret
      exact ⟨rfl, below2 HL.out hb2⟩

theorem xb_in {r : Int} {a s k : Nat} {g : Bool} (hk : k < 32) (h : k < s) : xb r a s g k = bi r (a + k) := by
  unfold xb; rw [if_pos h, decide_eq_true hk, Bool.true_and]
theorem xb_out {r : Int} {a s k : Nat} {g : Bool} (hk : k < 32) (h : ¬ k < s) : xb r a s g k = (g && decide (0 < s) && bi r (a + s - 1)) := by
  unfold xb; rw [if_neg h, decide_eq_true hk, Bool.true_and]

set_option maxHeartbeats 1000000 in
theorem rext_any (r t s : Int) (g : Bool) (hr : V r) (ht0 : 0 ≤ t) (hs0 : 0 ≤ s) (hs : s ≤ 32) (w : World) :
    Calls Try.prog 17 #[.int .u64 r, .int .i64 t, .int .i64 s, .bool g] w fun e w' => e = .returned (.int .u32 (ev r (t % 32).toNat s.toNat g)) ∧ Below w.heap.size w w' := by
  obtain ⟨n, rfl⟩ := Int.eq_ofNat_of_zero_le hs0
  rw [Int.toNat_natCast]
  have ha : t % 32 = ((t % 32).toNat : Int) := by omega
  have ha2 : (t % 32).toNat < 32 := by omega
  have KR := fun w => Lib.hid (row_any r hr w)
  generalize (t % 32).toNat = a at *
  have hn : n ≤ 32 := by omega
  have kN := number_any (xb r a n g)
  rw [show hi (xb r a n g) 0 64 = ev r a n g from rfl] at kN
  have KN := fun w => Lib.hid (kN w)
  obtain ⟨v0, v1⟩ := ev_U r a n g
  clear hr hs0 kN
  go_enter Try.func17, Try.ntmps17
  go_wp2_with fail
  refine (KR _).out.mono ?_
  rintro e w1 ⟨rfl, hb1⟩
  have HT := Lib.hid ((Rb.new w1 (fun _ => false)).there (bi r))
  have HJ := Lib.hid (ar_ofA (bi r))
  have HO := Lib.hid (cl_one (bi r))
  have HN := Lib.hid (Ev.new hb1 (bi r))
  have HB := Lib.hid hb1.size
  clear hb1 KR
  generalize hl : cl (bi r) = l at *
  clear hl
  go_wp2_with (refine wpList_store_mid rfl 35 _ _ rfl w1.heap.size 0 l.toArray rfl rfl HT.out HJ.out HO.out ?_)
  rw [ha, size_setCells, size_alloc]
  clear ha ht0
  go_loopw [11] (fun i W => ∃ k : Nat, k ≤ 32 ∧ i = .int .i64 k ∧ Ev w w1.heap.size (bi r) (fx r a n g k) W) (fun i _ => 32 - (intOf i).toNat)
  case atStart =>
    refine ⟨0, by omega, rfl, ?_⟩
    have := HN.out
    exact ⟨this.row, this.own.congr fun i _ => by simp [fx], this.bel⟩
  case round =>
    obtain ⟨k, hk, rfl, hM⟩ := hrel
    have HM := Lib.hid hM
    by_cases hlt : k < 32
    · have c := hM.own.cell (show k < 64 by omega)
      have f := hM.own.free k
      by_cases hkn : k < n
      · have hj : (a : Int) + k = ((a + k : Nat) : Int) := by omega
        have hj2 : a + k < 64 := by omega
        have d := hM.row.cell hj2
        clear hM
        cases hb : bi r (a + k)
        all_goals
          have KS := Lib.hid (HM.out.step HB.out ((xb_in hlt hkn).trans hb))
          rw [hb] at d
          clear hb
          generalize a + k = j at *
          go_wp2
          go_roundw
          case rel => exact ⟨k + 1, by omega, by go_num, KS.out⟩
          case measure => simp [intOf]; omega
      · have HX := fun g => Lib.hid (xb_out (r := r) (a := a) (g := g) hlt hkn)
        cases g
        · have KS := Lib.hid (HM.out.step HB.out ((HX false).out.trans (by rfl : _ = false)))
          clear hM
          go_wp2
          go_roundw
          case rel => exact ⟨k + 1, by omega, by go_num, KS.out⟩
          case measure => simp [intOf]; omega
        · by_cases h0 : 0 < n
          · have hj : (a : Int) + n - 1 = ((a + n - 1 : Nat) : Int) := by omega
            have hj2 : a + n - 1 < 64 := by omega
            have d := hM.row.cell hj2
            have KS := Lib.hid (HM.out.step HB.out ((HX true).out.trans (by simp [h0] : _ = bi r (a + n - 1))))
            clear hM
            generalize bi r (a + n - 1) = q at *
            generalize a + n - 1 = j at *
            go_wp2
            go_roundw
            case rel => exact ⟨k + 1, by omega, by go_num, KS.out⟩
            case measure => simp [intOf]; omega
          · have KS := Lib.hid (HM.out.step HB.out ((HX true).out.trans (by simp [h0] : _ = false)))
            clear hM
            go_wp2
            go_roundw
            case rel => exact ⟨k + 1, by omega, by go_num, KS.out⟩
            case measure => simp [intOf]; omega
    · obtain rfl : k = 32 := by omega
      have HQ : Hid (Rb wr (w1.heap.size + 1) (xb r a n g)) := hM.own.congr fun i _ => by
        unfold fx xb
        by_cases h : i < 32 <;> simp [h]
      clear hM
      have HR := Lib.hid HQ.out.range
      have HI := Lib.hid (ar_of (xb r a n g))
      have HL := Lib.hid HM.out.bel
      clear HM HN HT HJ HO HQ
      generalize cl (xb r a n g) = m at *
      go_wp2_with (first
        | refine wpList_load_mid rfl 35 _ rfl (w1.heap.size + 1) 0 rfl m _ HR.out ar_under rfl HI.out ?_
        | fail)
      refine (KN _).out.mono ?_
      rintro e w2 ⟨rfl, hb2⟩
      go_wp2
      go_ret
      exact ⟨rfl, below2 HL.out hb2⟩

end Go.Proofs.Ytfhhlieacmkheaa.Cs
