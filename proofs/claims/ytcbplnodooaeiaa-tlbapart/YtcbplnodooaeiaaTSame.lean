/- Contracts: Same, of lists that are; what each law asks first. -/
import Derived.Test.YtcbplnodooaeiaaTRef3
namespace Go.Proofs.Ytcbplnodooaeiaa.Cs
open Go.RowKit

set_option maxHeartbeats 400000 in
theorem same_yes (A B : Option Addr) (n c d : Nat) (ys : List Int) (w : World) (hn : ys.length = n) (ha : R1 w (.slice A n c) ys) (hb : R1 w (.slice B n d) ys) :
    Calls Try.prog 18 #[.slice A n c, .slice B n d] w fun e w' => e = .returned (.bool true) ∧ Below w.heap.size w w' := by
  obtain ⟨A', c', e, HA, hcc, hcm⟩ := ha.open_
  obtain ⟨B', d', e', HB, hdc, hdm⟩ := hb.open_
  injection e with e1 e2 e3
  injection e' with e1' e2' e3'
  subst e1 e3 e1' e3'
  rw [hn] at HA HB hcc hdc
  clear ha hb hn e2 e2'
  go_enter Try.func18, Try.ntmps18
  go_wp2
  go_loopw [13] (fun i wr => ∃ k : Nat, k ≤ n ∧ i = .int .i64 k ∧ Below w.heap.size w wr) (fun i _ => n - (intOf i).toNat)
  case atStart => exact ⟨0, Nat.zero_le _, rfl, Below.refl _ _⟩
  case round =>
    obtain ⟨k, hk, rfl, hbl⟩ := hrel
    have HW := Lib.hid hbl
    clear hbl
    by_cases hlt : k < n
    · obtain ⟨r, rfl, hrl, hx⟩ := HA.out k hlt
      obtain ⟨r', rfl, hrl', hx'⟩ := HB.out k hlt
      have h1 := (HW.out.cell (p := ⟨r, k, none⟩) hrl).trans hx
      have h2 := (HW.out.cell (p := ⟨r', k, none⟩) hrl').trans hx'
      clear hx hx'
      generalize ys.getD k 0 = y at h1 h2
      go_wp2_with fail
      go_region
      all_goals
        go_wp2
        go_roundw
        case rel => exact ⟨k + 1, by omega, by go_num, HW.out.drew⟩
        case measure => simp [intOf]; omega
    · go_wp2
      go_ret
      exact ⟨rfl, HW.out⟩

theorem get_as (g : Nat) (S : Nat → Prop) (xs : Rows) (p x : Int) (t : Bool) (w : World) (h : Tb w g S xs) (hx : ent xs p = x) (ht : hav xs p = t) :
    Calls Try.prog 10 #[.pointer (some ⟨g, 0, none⟩), .int .u32 p] w fun e w' => e = .returned (.tuple #[.int .u32 x, .bool t]) ∧ Below w.heap.size w w' := by
  subst hx ht
  exact get_any g S xs p w h

set_option maxHeartbeats 400000 in
theorem alive (w : World) : Calls Try.prog 8 #[] w fun e w' => e = .returned (.bool true) ∧ Below w.heap.size w w' := by
  go_enter Try.func8, Try.ntmps8
  go_wp2_with fail
  refine (new_any _).mono ?_
  rintro e w1 ⟨g, S, rfl, hg, hg', h1, hab, hb1⟩
  go_wp2_with fail
  refine (put_any g S [] 1 5 _ h1 (by omega) (by omega)).mono ?_
  rintro e w2 ⟨rfl, S2, h2, s2⟩
  have H2 := Lib.hid h2
  have HB2 := Lib.hid (s2.below hb1 hab hb1.size)
  clear h2 s2 h1 hab hb1
  go_wp2_with fail
  refine (get_as g S2 _ 1 5 true _ H2.out (by decide) (by decide)).mono ?_
  rintro e w3 ⟨rfl, hb3⟩
  have H3 := Lib.hid (H2.out.below hb3)
  have HB3 := Lib.hid (bel_trans HB2.out hb3 HB2.out.size)
  clear hb3
  go_wp2_with fail
  refine (get_as g S2 _ 2 0 false _ H3.out (by decide) (by decide)).mono ?_
  rintro e w4 ⟨rfl, hb4⟩
  have HB4 := Lib.hid (bel_trans HB3.out hb4 HB3.out.size)
  clear hb4
  go_wp2
  go_ret
  exact ⟨rfl, HB4.out⟩

end Go.Proofs.Ytcbplnodooaeiaa.Cs
