/- Contracts of package tlb: Pages. -/
import Derived.Test.YtfpdemlcmfaieaaTOps
namespace Go.Proofs.Ytfpdemlcmfaieaa.Tl
open Go.RowKit

theorem pages_nil (w : World) :
    Calls Try.prog 53 #[.pointer none] w fun e w' => e = .returned (.slice none 0 0) ∧ w = w' := by
  go_enter Try.func53, Try.ntmps53
  go_wp2
  go_ret
  exact ⟨rfl, rfl⟩

theorem run_make32 (n : Nat) (hn : n ≤ 1000000) (w : World) :
    ∃ cs : Array Value, (Instr.makeSlice 58 (.int .i64 0) (.int .i64 (n : Int))).run Try.prog w = .ok (.slice (some ⟨w.heap.size, 0, none⟩) 0 n) (w.alloc (.cells cs 23)) ∧
      Hid (R1 (w.alloc (.cells cs 23)) (.slice (some ⟨w.heap.size, 0, none⟩) 0 n) []) := by
  obtain ⟨i, hi, hz, hs, hb⟩ := info_parts u32_info
  have hr := run_make (P := Try.prog) w _ _ i _ under_u32s hi hz .i64 .i64 0 n (by omega) (by omega) (by rw [hb]; omega) (by omega)
  rw [hs] at hr
  simp only [Int.toNat_natCast, Nat.mul_one] at hr
  exact ⟨_, hr, World.ownsRow_made (base := 0) w _ n (Nat.zero_le _) (by simp only [maxLen]; omega) (by simp [madeCells, Value.cells])⟩

theorem pages_take_length (xs : Rows) (k : Nat) (h : k ≤ xs.length) : (pages (xs.take k)).length = k := by rw [pages_length, List.length_take]; omega
theorem pages_take_succ (xs : Rows) (k : Nat) (h : k < xs.length) : pages (xs.take k) ++ [(row xs k).1] = pages (xs.take (k + 1)) := by
  rw [List.take_add_one, pages_app]
  simp [pages, row, List.getD, h]

/-- What stands behind rounds of Pages. -/
def Paged (w : World) (xs : Rows) (k : Nat) (v : Value) (wr : World) : Prop :=
  ∃ b cap, v = .slice (some ⟨b, 0, none⟩) k cap ∧ w.heap.size ≤ b ∧ R1 wr v (pages (xs.take k)) ∧ Below w.heap.size w wr

set_option maxHeartbeats 800000 in
theorem pages_any (g : Nat) (S : Nat → Prop) (xs : Rows) (n : Nat) (w : World) (h : Tb w g S xs) (hn : xs.length = n) :
    Calls Try.prog 53 #[.pointer (some ⟨g, 0, none⟩)] w fun e w' => ∃ b cap, e = .returned (.slice (some ⟨b, 0, none⟩) n cap) ∧ w.heap.size ≤ b ∧ R1 w' (.slice (some ⟨b, 0, none⟩) n cap) (pages xs) ∧ Below w.heap.size w w' := by
  have hl := h.fit.2.1
  rw [hn] at hl
  by_cases h0 : n = 0
  · subst h0
    obtain ⟨v, hb, hR, hS⟩ := h.ex
    have hc : w.cell? ⟨g, 0, none⟩ = some v := by rw [cell_of_row w g 0 _ _ _ hb]; rfl
    have hg := lt_of_heap hb
    obtain ⟨cs, hmk, HM⟩ := run_make32 0 (by omega) w
    have hgn : g ≠ w.heap.size := by omega
    obtain rfl : xs = [] := List.eq_nil_of_length_eq_zero hn
    obtain ⟨A, c, rfl⟩ : ∃ A c, v = .slice A 0 c := by
      rcases own_shape hR with ⟨rfl, _⟩ | ⟨r, cap, rfl, _⟩
      · exact ⟨none, 0, rfl⟩
      · exact ⟨_, _, rfl⟩
    clear hb hR hS h hn
    rw [show ((0 : Nat) : Int) = 0 from rfl] at hmk
    go_enter Try.func53, Try.ntmps53
    go_wp2
    go_loopw [3, 19] (fun v i wr => v = .slice (some ⟨w.heap.size, 0, none⟩) 0 0 ∧ i = .int .i64 0 ∧ wr = w.alloc (.cells cs 23)) (fun _ _ _ => 0)
    case atStart => exact ⟨rfl, rfl, rfl⟩
    case round =>
      obtain ⟨rfl, rfl, rfl⟩ := hrel
      go_wp2
      go_ret
      exact ⟨_, _, rfl, Nat.le_refl _, HM.out, (Below.refl _ _).alloc (Nat.le_refl _) _⟩
  · obtain ⟨r, cap, hc, hcap, hm, hb, hR, hne, hS⟩ := h.open_ (by omega)
    rw [hn] at hc hcap hb hR
    obtain ⟨cs, hmk, HM⟩ := run_make32 n (by omega) w
    have hg := lt_of_heap hb
    rcases own_shape hR with ⟨e, _⟩ | ⟨r', cap', e, _, _, hrl, hcs, _⟩
    · cases e
    · injection e with e1 e2 e3
      injection e1 with e1
      injection e1 with e1
      subst e1 e3
      have HC := Lib.hid hcs
      have HN := Lib.hid hn
      have hgn : g ≠ w.heap.size := by omega
      clear hb hR hS h hcs hn e2
      go_enter Try.func53, Try.ntmps53
      go_wp2
      go_loopw [3, 19] (fun v i wr => ∃ k : Nat, k ≤ n ∧ i = .int .i64 k ∧ Paged w xs k v wr) (fun _ i _ => n - (intOf i).toNat)
      case atStart => exact ⟨0, Nat.zero_le _, rfl, _, _, rfl, Nat.le_refl _, HM.out, (Below.refl _ _).alloc (Nat.le_refl _) _⟩
      case round =>
        obtain ⟨k, hk, rfl, b, cap2, rfl, hbl, hR, hB⟩ := hrel
        have HR := Lib.hid hR
        have HB := Lib.hid hB
        clear hR hB
        by_cases hlt : k < n
        · have hx : k < xs.length := by rw [HN.out]; exact hlt
          have h0 := (HB.out.cell (p := ⟨r, k * 2, none⟩) hrl).trans (HC.out _ _ (c2_get0 xs k hx))
          have h1 := (HB.out.cell (p := ⟨r, k * 2 + 1, none⟩) hrl).trans (HC.out _ _ (c2_get1 xs k hx))
          obtain ⟨r', cap', w2, hrun, H2⟩ := run_app1 (wr.alloc (.cells #[.int .u32 (row xs k).1, .int .u32 (row xs k).2] 113)) _ _ (row xs k).1 (HR.out.alloc _) (by rw [pages_take_length _ _ (by omega)]; omega)
          rw [pages_take_length _ _ (by omega), pages_take_succ _ _ hx] at H2
          rw [pages_take_length _ _ (by omega), show (wr.alloc (.cells #[.int .u32 (row xs k).1, .int .u32 (row xs k).2] 113)).heap.size = wr.heap.size + 1 by simp] at hrun
          have HE : Hid (Paged w xs (k + 1) (.slice (some ⟨r', 0, none⟩) (k + 1) cap') w2) := by
            have hba : Below w.heap.size w (wr.alloc (.cells #[.int .u32 (row xs k).1, .int .u32 (row xs k).2] 113)) := HB.out.alloc HB.out.size _
            have hab : Ab w.heap.size (Bl (.slice (some ⟨b, 0, none⟩) k cap2)) := fun i hi => by
              simp only [Bl, Value.ownBlock, Option.some.injEq] at hi
              omega
            exact ⟨r', cap', rfl, H2.out.2.ab hab hba.size r' rfl, H2.out.1, H2.out.2.below hba hab hba.size⟩
          have HRun := Lib.hid hrun
          clear hx hrun H2
          go_wp2_with (at_builtin; refine wpList_append_run _ rfl _ _ _ _ rfl _ _ rfl rfl HRun.out ?_)
          go_roundw
          case rel => exact ⟨k + 1, by omega, by go_num, HE.out⟩
          case measure => simp [intOf]; omega
        · obtain rfl : k = n := by omega
          have HX : Hid (xs.take k = xs) := List.take_of_length_le (by rw [HN.out]; omega)
          go_wp2
          go_ret
          refine ⟨b, cap2, rfl, hbl, ?_, HB.out⟩
          have := HR.out
          rw [HX.out] at this
          exact this

end Go.Proofs.Ytfpdemlcmfaieaa.Tl
