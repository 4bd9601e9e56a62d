/- Where a page stands: the closure, slices.IndexFunc, place. -/
import Derived.Test.YtfpdemlcmfaieaaTMem
import Derived.WalkKit
import Derived.Deep.LoopGhost
namespace Go.Proofs.Ytfpdemlcmfaieaa.Tl
open Go.RowKit

theorem hit_any (a b p : Int) (B : Nat) (w : World) (hc : w.cell? ⟨B, 0, none⟩ = some (.int .u32 p)) (hB : B < w.heap.size) :
    Calls Try.prog 72 #[.agg #[.int .u32 a, .int .u32 b], .pointer (some ⟨B, 0, none⟩)] w fun e w' => e = .returned (.bool (decide (a = p))) ∧ Below w.heap.size w w' := by
  have hne : B ≠ w.heap.size := by omega
  go_enter Try.func72, Try.ntmps72
  go_wp2
  all_goals (go_ret; exact ⟨by show _ = Ending.returned (Value.bool (decide (a = p))); by_cases e : a = p <;> simp [e], (Below.refl _ _).alloc (Nat.le_refl _) _⟩)

theorem hit_as (a b p : Int) (B : Nat) (t : Bool) (w : World) (hc : w.cell? ⟨B, 0, none⟩ = some (.int .u32 p)) (hB : B < w.heap.size) (ht : decide (a = p) = t) :
    Calls Try.prog 72 #[.agg #[.int .u32 a, .int .u32 b], .pointer (some ⟨B, 0, none⟩)] w fun e w' => e = .returned (.bool t) ∧ Below w.heap.size w w' := by
  subst ht
  exact hit_any a b p B w hc hB

theorem idx_none (A : Option Addr) (c : Nat) (f : Value) (w : World) :
    Calls Try.prog 71 #[.slice A 0 c, f] w fun e w' => e = .returned (.int .i64 (-1)) ∧ w' = w := by
  go_enter Try.func71, Try.ntmps71
  go_wp2
  go_loop [8] (fun i => i = .int .i64 0) (fun _ => 0)
  case atStart => rfl
  case round =>
    subst hrel
    go_wp2
    go_ret
    exact ⟨rfl, rfl⟩

set_option maxHeartbeats 1000000 in
theorem idx_some (r n c : Nat) (xs : Rows) (B : Nat) (p : Int) (w : World) (hn : xs.length = n) (hn8 : n ≤ 8) (hr : r < w.heap.size) (hc : ∀ j u, (c2 xs)[j]? = some u → w.cell? ⟨r, j, none⟩ = some u)
    (hp : w.cell? ⟨B, 0, none⟩ = some (.int .u32 p)) (hB : B < w.heap.size) :
    Calls Try.prog 71 #[.slice (some ⟨r, 0, none⟩) n c, .func (.func 72) #[] #[.pointer (some ⟨B, 0, none⟩)]] w fun e w' => e = .returned (.int .i64 (plc xs p)) ∧ Below w.heap.size w w' := by
  have HC := Lib.hid hc
  have HP := Lib.hid hp
  have HN := Lib.hid hn
  clear hc hp hn
  go_enter Try.func71, Try.ntmps71
  go_wp2
  go_loopw [8] (fun i wr => ∃ k : Nat, k ≤ n ∧ i = .int .i64 k ∧ k ≤ pos xs p ∧ Below w.heap.size w wr) (fun i _ => n - (intOf i).toNat)
  case atStart => exact ⟨0, Nat.zero_le _, rfl, Nat.zero_le _, Below.refl _ _⟩
  case round =>
    obtain ⟨k, hk, rfl, hpk, hb⟩ := hrel
    have HB := Lib.hid hb
    have HK := Lib.hid hpk
    clear hpk hb
    by_cases hlt : k < n
    · have hx : k < xs.length := by rw [HN.out]; exact hlt
      have h0 := (HB.out.cell (p := ⟨r, k * 2, none⟩) hr).trans (HC.out _ _ (c2_get0 xs k hx))
      have h1 := (HB.out.cell (p := ⟨r, k * 2 + 1, none⟩) hr).trans (HC.out _ _ (c2_get1 xs k hx))
      have HP' := Lib.hid ((HB.out.cell (p := ⟨B, 0, none⟩) hB).trans HP.out)
      have hB' : B < wr.heap.size := Nat.lt_of_lt_of_le hB HB.out.size
      clear hx
      by_cases he : (row xs k).1 = p
      · have HE := Lib.hid (pos_hit HK.out (by rw [HN.out]; exact hlt) he)
        have HT := Lib.hid (decide_eq_true he)
        clear he
        go_wp2_with fail
        refine (hit_as _ _ p B true _ HP'.out hB' HT.out).mono ?_
        rintro e w' ⟨rfl, hb'⟩
        go_wp2
        go_ret
        refine ⟨?_, bel_trans HB.out hb' HB.out.size⟩
        rw [plc_in (by rw [HE.out, HN.out]; exact hlt), HE.out]; rfl
      · have HE := Lib.hid (pos_miss HK.out (by rw [HN.out]; exact hlt) he)
        have HT := Lib.hid (decide_eq_false he)
        clear he
        go_wp2_with fail
        refine (hit_as _ _ p B false _ HP'.out hB' HT.out).mono ?_
        rintro e w' ⟨rfl, hb'⟩
        have HB' := Lib.hid (bel_trans HB.out hb' HB.out.size)
        clear hb'
        go_wp2
        go_roundw
        case rel => exact ⟨k + 1, by omega, by go_num, HE.out, HB'.out⟩
        case measure => simp [intOf]; omega
    · go_wp2
      go_ret
      refine ⟨?_, HB.out⟩
      rw [plc_out (by rw [HN.out]; have := HK.out; omega)]; rfl

/-- place, of a buffer. -/
theorem place_any (g : Nat) (S : Nat → Prop) (xs : Rows) (p : Int) (w : World) (h : Tb w g S xs) :
    Calls Try.prog 62 #[.pointer (some ⟨g, 0, none⟩), .int .u32 p] w fun e w' => e = .returned (.int .i64 (plc xs p)) ∧ Below w.heap.size w w' := by
  obtain ⟨v, hb, hr, hS⟩ := h.ex
  have hl := h.fit.2.1
  have hg := lt_of_heap hb
  have hne : g ≠ w.heap.size := by omega
  have hc : w.cell? ⟨g, 0, none⟩ = some v := by rw [cell_of_row w g 0 _ _ _ hb]; rfl
  rcases own_shape hr with ⟨rfl, h0⟩ | ⟨r, cap, rfl, hcap, hm, hrl, hcs, hf⟩
  · have HX := Lib.hid (plc_out (xs := xs) (p := p) (by omega))
    clear hb hr hS h hl h0
    go_enter Try.func62, Try.ntmps62
    go_wp2_with fail
    refine (idx_none _ _ _ _).mono ?_
    rintro e w' ⟨rfl, rfl⟩
    go_wp2
    go_ret
    exact ⟨by rw [HX.out]; rfl, (Below.refl _ _).alloc (Nat.le_refl _) _⟩
  · have HC := Lib.hid hcs
    obtain ⟨n, hn⟩ : ∃ n, n = xs.length := ⟨_, rfl⟩
    rw [← hn] at hc hcap hl
    have HN := Lib.hid hn
    clear hb hr hS h hcs hf hn
    go_enter Try.func62, Try.ntmps62
    go_wp2_with fail
    refine (idx_some r n cap xs w.heap.size p _ HN.out.symm hl (by simp; omega) (fun j u hu => by rw [World.cell?_alloc_lt w _ _ hrl]; exact HC.out j u hu) (by simp) (by simp)).mono ?_
    rintro e w' ⟨rfl, hb'⟩
    go_wp2
    go_ret
    exact ⟨rfl, ((Below.refl _ _).alloc (Nat.le_refl _) _).trans (hb'.mono (by simp))⟩

theorem place_nil (p : Int) (w : World) :
    Calls Try.prog 62 #[.pointer none, .int .u32 p] w fun e w' => e = .returned (.int .i64 (-1)) ∧ Below w.heap.size w w' := by
  go_enter Try.func62, Try.ntmps62
  go_wp2
  go_ret
  exact ⟨rfl, (Below.refl _ _).alloc (Nat.le_refl _) _⟩

end Go.Proofs.Ytfpdemlcmfaieaa.Tl
