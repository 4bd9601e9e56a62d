/- Contracts: Same, of lists that are; what each law asks first. -/
import Derived.Test.YtfpdemlcmfaieaaTRef3
namespace Go.Proofs.Ytfpdemlcmfaieaa.Tl
open Go.RowKit

set_option maxHeartbeats 400000 in
theorem same_yes (A B : Option Addr) (n c d : Nat) (ys : List Int) (w : World) (hn : ys.length = n) (ha : R1 w (.slice A n c) ys) (hb : R1 w (.slice B n d) ys) :
    Calls Try.prog 49 #[.slice A n c, .slice B n d] w fun e w' => e = .returned (.bool true) ∧ Below w.heap.size w w' := by
  obtain ⟨A', c', e, HA, hcc, hcm⟩ := ha.open_
  obtain ⟨B', d', e', HB, hdc, hdm⟩ := hb.open_
  injection e with e1 e2 e3
  injection e' with e1' e2' e3'
  subst e1 e3 e1' e3'
  rw [hn] at HA HB hcc hdc
  clear ha hb hn e2 e2'
  go_enter Try.func49, Try.ntmps49
  go_wp2
  go_loopw [13] (fun i wr => ∃ k : Nat, k ≤ n ∧ i = .int .i64 k ∧ Below w.heap.size w wr) (fun i _ => n - (intOf i).toNat)
  case atStart => exact ⟨0, Nat.zero_le _, rfl, Below.refl _ _⟩
  case round =>
    obtain ⟨k, hk, rfl, hbl⟩ := hrel
    have HW := Lib.hid hbl
    clear hbl
    by_cases hlt : k < n
    · obtain ⟨r, rfl, hrl, hx⟩ := HA.out k hlt
      obtain ⟨r', rfl, hrl', hx'⟩ := HB.out k hlt
      have h1 := (HW.out.cell (p := ⟨r, k, none⟩) hrl).trans hx
      have h2 := (HW.out.cell (p := ⟨r', k, none⟩) hrl').trans hx'
      clear hx hx'
      generalize ys.getD k 0 = y at h1 h2
      go_wp2_with fail
      go_region
      all_goals
        go_wp2
        go_roundw
        case rel => exact ⟨k + 1, by omega, by go_num, HW.out.drew⟩
        case measure => simp [intOf]; omega
    · go_wp2
      go_ret
      exact ⟨rfl, HW.out⟩

theorem get_as (g : Nat) (S : Nat → Prop) (xs : Rows) (p x : Int) (t : Bool) (w : World) (h : Tb w g S xs) (hx : ent xs p = x) (ht : hav xs p = t) :
    Calls Try.prog 65 #[.pointer (some ⟨g, 0, none⟩), .int .u32 p] w fun e w' => e = .returned (.tuple #[.int .u32 x, .bool t]) ∧ Below w.heap.size w w' := by
  subst hx ht
  exact get_any g S xs p w h

end Go.Proofs.Ytfpdemlcmfaieaa.Tl
