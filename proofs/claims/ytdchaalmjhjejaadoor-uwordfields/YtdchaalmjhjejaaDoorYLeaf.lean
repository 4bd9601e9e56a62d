/- Contracts of package uword: index, fits, parts, Bits; of the document's: Names, Bits, Wide, Parts. -/
import Derived.Test.YtdchaalmjhjejaaDoorYMem
namespace Go.Proofs.YtdchaalmjhjejaaDoor.Cs
open Go.RowKit Tl Tl.Ia
set_option linter.unusedVariables false
set_option linter.unusedSimpArgs false

set_option maxHeartbeats 1600000 in
set_option maxRecDepth 100000 in
theorem index_any (l : List UInt8) (w : World) (hg : Gl w) : Calls Tryd.prog 26 #[.string (sb l)] w fun e w' => e = .returned (.int .i64 (ix l)) ∧ Below w.heap.size w w' := by
  have HR := Lib.hid hg.fl
  have BT := Lib.hid (fun (k : List UInt8) (h : l = k) => show (k == l) = true by simpa using h.symm)
  have BF := Lib.hid (fun (k : List UInt8) (h : ¬ l = k) => show (k == l) = false by simpa using fun e => h (Eq.symm e))
  clear hg
  go_enter Tryd.func26, Tryd.ntmps26
  go_wp2_with (refine wpList_load_mid rfl 51 _ rfl 0 0 rfl fc _ HR.out fa_under rfl fa_sz ?_)
  go_loopw [6] (fun i W => ∃ k : Nat, k ≤ 12 ∧ i = .int .i64 k ∧ ixg l (12 - k) k = ix l ∧ Below w.heap.size w W) (fun i _ => 12 - (intOf i).toNat)
  case atStart => exact ⟨0, by omega, rfl, rfl, Below.refl _ _⟩
  case round =>
    obtain ⟨k, hk, rfl, hA, hB⟩ := hrel
    have HB := Lib.hid hB
    clear hB
    by_cases hlt : k < 12
    · have hk' : (k : Int) < 12 := by omega
      have HI := Lib.hid (fidx wr k hlt)
      rw [show 12 - k = (12 - (k + 1)) + 1 by omega, ixg_step] at hA
      by_cases h5 : l = nmk k
      · rw [if_pos h5] at hA
        have b1 := BT.out _ h5
        have HA := Lib.hid hA
        clear hA h5
        generalize nmk k = m at *
        generalize ((wd k : Nat) : Int) = z at *
        go_wp2_with (refine wl_index rfl 51 _ _ rfl _ _ _ rfl rfl HI.out ?_)
        go_ret
        exact ⟨by rw [← HA.out]; rfl, bel2 HB.out (al1 wr _)⟩
      · rw [if_neg h5] at hA
        have b1 := BF.out _ h5
        have HA := Lib.hid hA
        clear hA h5
        generalize nmk k = m at *
        generalize ((wd k : Nat) : Int) = z at *
        go_wp2_with (refine wl_index rfl 51 _ _ rfl _ _ _ rfl rfl HI.out ?_)
        go_roundw
        case rel => exact ⟨k + 1, by omega, by go_num, HA.out, bel2 HB.out (al1 wr _)⟩
        case measure => simp [intOf]; omega
    · obtain rfl : k = 12 := by omega
      have HA := Lib.hid hA
      clear hA
      go_wp2
      go_ret
      exact ⟨by rw [← HA.out]; rfl, HB.out⟩

theorem wd_cases (k : Nat) (hk : k < 12) : wd k = 2 ∨ wd k = 3 ∨ wd k = 4 ∨ wd k = 5 ∨ wd k = 6 ∨ wd k = 8 ∨ wd k = 11 :=
  k12 (P := fun k => wd k = 2 ∨ wd k = 3 ∨ wd k = 4 ∨ wd k = 5 ∨ wd k = 6 ∨ wd k = 8 ∨ wd k = 11) (by decide) (by decide) (by decide) (by decide) (by decide) (by decide) (by decide) (by decide) (by decide) (by decide) (by decide) (by decide) k hk

set_option maxHeartbeats 1600000 in
set_option maxRecDepth 100000 in
theorem fits_any (x : Int) (k : Nat) (hk : k < 12) (w : World) : Calls Tryd.prog 27 #[.int .i64 x, .int .i64 (wd k)] w fun e w' => e = .returned (.bool (ft x (wd k))) ∧ w = w' := by
  have h := wd_cases k hk
  clear hk
  generalize wd k = b at *
  by_cases h0 : 0 ≤ x
  · have key : ∀ n : Nat, (x / 2 ^ n == 0) = ft x n := fun n => by
      have hp := pos2 n
      rw [Bool.eq_iff_iff, ft_iff, beq_iff_eq]
      constructor
      · intro e
        refine ⟨h0, ?_⟩
        have := Int.emod_add_mul_ediv x (2 ^ n)
        rw [e, Int.mul_zero] at this
        have := Int.emod_lt_of_pos x hp
        omega
      · rintro ⟨_, e⟩; exact Int.ediv_eq_zero_of_lt h0 e
    rcases h with rfl | rfl | rfl | rfl | rfl | rfl | rfl
    all_goals
      rw [← key]
      clear key
      go_enter Tryd.func27, Tryd.ntmps27
      go_wp2
      go_ret
      exact ⟨rfl, rfl⟩
  · have key : ft x b = false := by unfold ft; simp; omega
    rw [key]
    clear key
    rcases h with rfl | rfl | rfl | rfl | rfl | rfl | rfl
    all_goals
      go_enter Tryd.func27, Tryd.ntmps27
      go_wp2
      go_ret
      exact ⟨rfl, rfl⟩

theorem pa_sz (b : Nat) : (Tryd.prog.info? 54).map (·.size) = some (pa b).length := by kernel_rfl
theorem pa_one (b : Nat) : ∀ v ∈ pa b, v.oneCell' = true := by
  intro v hv
  simp only [pa, List.mem_cons, List.mem_nil_iff, or_false] at hv
  rcases hv with rfl | rfl | rfl | rfl | rfl | rfl | rfl | rfl | rfl | rfl | rfl | rfl <;> rfl
set_option maxHeartbeats 1600000 in
set_option maxRecDepth 100000 in
theorem parts_any (b : Nat) (w : World) : Calls Tryd.prog 28 #[.pointer (some ⟨b, 0, none⟩)] w fun e w' => e = .returned (.agg (pa b).toArray) ∧ Below w.heap.size w w' := by
  go_enter Tryd.func28, Tryd.ntmps28
  go_wp2
  go_region
  go_wp2
  refine bodyPost_ret (v := .agg (pa b).toArray) ?_ rfl ⟨rfl, ?_⟩
  · simp [results, Tryd.results28, go_sem]
    rfl
  · exact (al1 _ _).drew

/-! the document's -/
/-- a row of twelve, laid by a call -/
def Lr (T : Nat) (l : List Value) (w : World) (e : Ending) (w' : World) : Prop := ∃ r, e = .returned (.slice (some ⟨r, 0, none⟩) 12 12) ∧ w.heap.size ≤ r ∧ Bk w' r T l ∧ Below w.heap.size w w'
theorem Lr.new (T : Nat) (l : List Value) (w : World) : Lr T l w (.returned (.slice (some ⟨w.heap.size, 0, none⟩) 12 12)) (w.alloc (.cells l.toArray T)) := ⟨_, rfl, Nat.le_refl _, Bk.new _ _ _, al1 _ _⟩
def nc : List Value := [.string (sb (nmk 0)), .string (sb (nmk 1)), .string (sb (nmk 2)), .string (sb (nmk 3)), .string (sb (nmk 4)), .string (sb (nmk 5)), .string (sb (nmk 6)), .string (sb (nmk 7)), .string (sb (nmk 8)), .string (sb (nmk 9)), .string (sb (nmk 10)), .string (sb (nmk 11))]
theorem nc_get (k : Nat) (hk : k < 12) : nc[k]? = some (.string (sb (nmk k))) :=
  k12 (P := fun k => nc[k]? = some (.string (sb (nmk k)))) rfl rfl rfl rfl rfl rfl rfl rfl rfl rfl rfl rfl k hk
theorem names_any (w : World) : Calls Tryd.prog 11 #[] w (Lr 9 nc w) := by
  go_enter Tryd.func11, Tryd.ntmps11
  go_wp2
  go_ret
  exact Lr.new _ nc w
theorem bits_any (w : World) : Calls Tryd.prog 12 #[] w (Lr 3 (cw fun k => wd k) w) := by
  go_enter Tryd.func12, Tryd.ntmps12
  go_wp2
  go_ret
  exact Lr.new _ (cw fun k => wd k) w
theorem wide_any (w : World) : Calls Tryd.prog 25 #[] w (Lr 3 (cw fun k => 2 ^ wd k) w) := by
  go_enter Tryd.func25, Tryd.ntmps25
  go_wp2
  go_ret
  exact Lr.new _ (cw fun k => 2 ^ wd k) w
theorem rparts_any (p : Nat → Int) (w : World) : Calls Tryd.prog 14 #[.agg (cw p).toArray] w (Lr 3 (cw p) w) := by
  unfold cw
  go_enter Tryd.func14, Tryd.ntmps14
  go_wp2
  go_ret
  have hs : (w.alloc (.cells (cw p).toArray 23)).heap.size = w.heap.size + 1 := by simp
  refine ⟨w.heap.size + 1, ?_, by omega, ?_, bel2 (al1 w (.cells (cw p).toArray 23)) (al1 _ (.cells (cw p).toArray 3))⟩
  · first | rfl | simp
  · have := Bk.new (w.alloc (.cells (cw p).toArray 23)) 3 (cw p)
    rw [hs] at this
    exact this

set_option maxHeartbeats 1600000 in
set_option maxRecDepth 100000 in
theorem at_any (l : List UInt8) (w : World) : Calls Tryd.prog 13 #[.string (sb l)] w fun e w' => e = .returned (.int .i64 (ix l)) ∧ Below w.heap.size w w' := by
  have BT := Lib.hid (fun (k : List UInt8) (h : l = k) => show (k == l) = true by simpa using h.symm)
  have BF := Lib.hid (fun (k : List UInt8) (h : ¬ l = k) => show (k == l) = false by simpa using fun e => h (Eq.symm e))
  go_enter Tryd.func13, Tryd.ntmps13
  go_wp2_with (first | (go_at_call 11; refine (names_any _).mono ?_; rintro e w1 ⟨r, rfl, hr, hb, hB⟩; have HK := Lib.hid hb; have HB := Lib.hid hB; clear hb hB) | fail)
  go_loop [7] (fun i => ∃ k : Nat, k ≤ 12 ∧ i = .int .i64 k ∧ ixg l (12 - k) k = ix l) (fun i => 12 - (intOf i).toNat)
  case atStart => exact ⟨0, by omega, rfl, rfl⟩
  case round =>
    obtain ⟨k, hk, rfl, hA⟩ := hrel
    by_cases hlt : k < 12
    · have hk' : (k : Int) < 12 := by omega
      have c := HK.out.cell k _ (nc_get k hlt)
      rw [show 12 - k = (12 - (k + 1)) + 1 by omega, ixg_step] at hA
      by_cases h5 : l = nmk k
      · rw [if_pos h5] at hA
        have b1 := BT.out _ h5
        have HA := Lib.hid hA
        clear hA h5
        generalize nmk k = m at *
        go_wp2
        go_ret
        exact ⟨by rw [← HA.out]; rfl, HB.out⟩
      · rw [if_neg h5] at hA
        have b1 := BF.out _ h5
        have HA := Lib.hid hA
        clear hA h5
        generalize nmk k = m at *
        go_wp2
        go_round
        case rel => exact ⟨k + 1, by omega, by go_num, HA.out⟩
        case measure => simp [intOf]; omega
    · obtain rfl : k = 12 := by omega
      have HA := Lib.hid hA
      clear hA
      go_wp2
      go_ret
      exact ⟨by rw [← HA.out]; rfl, HB.out⟩

end Go.Proofs.YtdchaalmjhjejaaDoor.Cs
