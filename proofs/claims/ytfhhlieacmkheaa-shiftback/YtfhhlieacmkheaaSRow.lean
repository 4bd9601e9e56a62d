/- The document's Row and Number. -/
import Derived.Test.YtfhhlieacmkheaaSMem
import Derived.Deep.RegionHeld3
namespace Go.Proofs.Ytfhhlieacmkheaa.Cs
open Go.RowKit

/-- the first k bits of a row -/
def fb (r : Int) (k i : Nat) : Bool := decide (i < k) && bi r i
/-- while a row is made -/
structure Rm (w : World) (f : Nat → Bool) (W : World) : Prop where
  res : Rb W w.heap.size (fun _ => false)
  own : Rb W (w.heap.size + 1) f
  bel : Below w.heap.size w W
theorem Rm.new (w : World) (r : Int) : Rm w (fb r 0) ((w.alloc (.cells (cl fun _ => false).toArray 35)).alloc (.cells (cl fun _ => false).toArray 35)) := by
  refine ⟨(Rb.new w _).alloc _, ?_, ((Below.refl _ _).alloc (Nat.le_refl _) _).alloc (by simp) _⟩
  have := Rb.new (w.alloc (.cells (cl fun _ => false).toArray 35)) (fun _ => false)
  rw [show (w.alloc (.cells (cl fun _ => false).toArray 35)).heap.size = w.heap.size + 1 by simp] at this
  exact this.congr fun i _ => by simp [fb]
theorem Rm.step {w W : World} {r : Int} {k : Nat} (h : Rm w (fb r k) W) : Rm w (fb r (k + 1)) (W.setCell ⟨w.heap.size + 1, k, none⟩ (.bool (bi r k))) := by
  refine ⟨h.res.other (by omega) _ _, (h.own.set k _).congr fun i _ => ?_, h.bel.setCell (by simp) _⟩
  unfold fb
  by_cases hi : i = k
  · subst hi; simp
  · simp only [hi, if_false]
    congr 1
    rw [decide_eq_decide]; omega

set_option maxHeartbeats 1000000 in
theorem row_any (r : Int) (hr : V r) (w : World) :
    Calls Try.prog 20 #[.int .u64 r] w fun e w' => e = .returned (.agg (cl (bi r)).toArray) ∧ Below w.heap.size w w' := by
  have r0 := hr.1
  have r1 := hr.2
  go_enter Try.func20, Try.ntmps20
  go_wp2
  go_loopw [5] (fun i W => ∃ k : Nat, k ≤ 64 ∧ i = .int .i64 k ∧ Rm w (fb r k) W) (fun i _ => 64 - (intOf i).toNat)
  case atStart => exact ⟨0, by omega, rfl, Rm.new w r⟩
  case round =>
    obtain ⟨k, hk, rfl, hM⟩ := hrel
    have HM := Lib.hid hM
    by_cases hlt : k < 64
    · have c := hM.own.cell hlt
      have f := hM.own.free k
      clear hM
      by_cases h32 : k < 32
      · have HQ := Lib.hid (show bi (r % 4294967296) k = bi r k by
          rw [show (4294967296 : Int) = 2 ^ 32 from rfl, bi_mod, decide_eq_true h32, Bool.true_and])
        have kB := rbit_any (r % 4294967296) k (U_mod _) (by omega)
        rw [Int.toNat_natCast, HQ.out] at kB
        have KB := fun w => Lib.hid (kB w)
        have KS := Lib.hid HM.out.step
        clear kB HQ
        generalize bi r k = q at *
        cases hp : bi (r / 4294967296) ((k : Int) - 32).toNat
        all_goals
          have KP := Lib.hid (rbit_as (r / 4294967296) (k - 32) _ ⟨by omega, by omega⟩ (by omega) hp)
          clear hp
          go_wp2_with fail
          refine (KP.out _).mono ?_
          rintro e w' ⟨rfl, rfl⟩
          go_wp2_with fail
          refine (KB _).out.mono ?_
          rintro e w' ⟨rfl, rfl⟩
          go_wp2
          go_roundw
          case rel =>
            refine ⟨k + 1, by omega, by go_num, ?_⟩
            first | exact KS.out | (rw [decide_eq_false (by omega : ¬ (32 : Int) ≤ k), Bool.false_or]; exact KS.out)
          case measure => simp [intOf]; omega
      · have HQ := Lib.hid (show bi (r / 4294967296) ((k : Int) - 32).toNat = bi r k by
          rw [show (4294967296 : Int) = 2 ^ 32 from rfl, bi_div, show 32 + ((k : Int) - 32).toNat = k by omega])
        have KS := Lib.hid HM.out.step
        cases hb : bi r k
        all_goals
          have KP := Lib.hid (rbit_as (r / 4294967296) (k - 32) _ ⟨by omega, by omega⟩ (by omega) (HQ.out.trans hb))
          rw [hb] at KS
          clear hb HQ
          go_wp2_with fail
          refine (KP.out _).mono ?_
          rintro e w' ⟨rfl, rfl⟩
          go_wp2
          go_roundw
          case rel => exact ⟨k + 1, by omega, by go_num, KS.out⟩
          case measure => simp [intOf]; omega
    · obtain rfl : k = 64 := by omega
      clear hM
      have HB : Hid (Rb wr (w.heap.size + 1) (bi r)) := HM.out.own.congr fun i hi => by simp [fb, hi]
      have HR := Lib.hid HB.out.range
      have HT := Lib.hid (HM.out.res.there (bi r))
      have HE := Lib.hid ((HM.out.res.all (bi r)).range)
      have HL := Lib.hid (below_setCells (b := w.heap.size) (cl (bi r)) 0 HM.out.bel (Nat.le_refl _))
      have HI := Lib.hid (ar_of (bi r))
      have HJ := Lib.hid (ar_ofA (bi r))
      have HO := Lib.hid (cl_one (bi r))
      clear HM
      generalize hl : cl (bi r) = l at *
      have HC := Lib.hid hl
      clear hl
      go_wp2_with (first
        | refine wpList_load_mid rfl 35 _ rfl (w.heap.size + 1) 0 rfl l _ HR.out ar_under rfl HI.out ?_
        | refine wpList_store_mid rfl 35 _ _ rfl w.heap.size 0 l.toArray rfl rfl HT.out HJ.out HO.out ?_)
      have hld := run_loadVar_mid (P := Try.prog) _ w.heap.size 0 35 l _ HE.out ar_under rfl HI.out
      refine bodyPost_ret (v := .agg l.toArray) ?_ rfl ⟨?_, HL.out⟩
      · simp [results, Try.results20, asAddr, Act.put, hld]
      · rw [HC.out]

set_option maxHeartbeats 1000000 in
theorem number_any (f : Nat → Bool) (w : World) :
    Calls Try.prog 29 #[.agg (cl f).toArray] w fun e w' => e = .returned (.int .u64 (hi f 0 64)) ∧ Below w.heap.size w w' := by
  have HB : Hid (Below w.heap.size w (w.alloc (.cells (cl f).toArray 35))) := (Below.refl _ _).alloc (Nat.le_refl _) _
  have HN : Hid (Rb (w.alloc (.cells (cl f).toArray 35)) w.heap.size f) := Rb.new w f
  generalize hl : cl f = l at *
  have HC := Lib.hid hl
  clear hl
  go_enter Try.func29, Try.ntmps29
  go_wp2_with (refine wl_box rfl _ _ rfl l rfl ?_)
  generalize w.alloc (.cells l.toArray 35) = W at *
  go_loop [3, 4] (fun v i => ∃ k : Nat, k ≤ 64 ∧ i = .int .i64 (k - 1) ∧ v = .int .u64 (hi f k (64 - k))) (fun _ i => ((intOf i) + 1).toNat)
  case atStart => exact ⟨64, by omega, by simp, by simp [hi]⟩
  case round =>
    obtain ⟨k, hk, rfl, rfl⟩ := hrel
    cases k with
    | zero =>
      go_wp2
      go_ret
      exact ⟨rfl, HB.out⟩
    | succ k =>
      have hk' : k < 64 := by omega
      have c := HN.out.cell hk'
      obtain ⟨u0, u1⟩ := hi_bound f (64 - (k + 1)) (k + 1)
      have u2 : hi f (k + 1) (64 - (k + 1)) < 9223372036854775808 := Int.lt_of_lt_of_le u1 (pw_le (by omega : 64 - (k + 1) ≤ 63))
      have HS := Lib.hid (show hi f k (64 - k) = bt (f k) + 2 * hi f (k + 1) (64 - (k + 1)) by
        rw [show 64 - k = 64 - (k + 1) + 1 by omega, hi_succ])
      clear u1
      rw [show ((k + 1 : Nat) : Int) - 1 = k by omega]
      generalize hi f (k + 1) (64 - (k + 1)) = u at *
      cases hf : f k
      all_goals
        rw [hf] at c HS
        clear hf
        go_wp2
        go_round
        case rel => exact ⟨k, by omega, by go_num, by rw [HS.out]; first | exact congrArg _ (by simp [bt]; omega) | simp [bt]⟩
        case measure => simp [intOf]

end Go.Proofs.Ytfhhlieacmkheaa.Cs
