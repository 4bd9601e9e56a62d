/- More than is played? -/
import Derived.Test.YtfpdemlcmfaieaaDCls
namespace Go.Proofs.Ytfpdemlcmfaieaa.Cs
open Go.RowKit

/-- All calls are small. -/
def Sm (w : World) (A : Option Addr) (n : Nat) : Prop := ∀ k, k < n → ∃ (ad : Addr) (c : Cal) (ys : List Int), A = some ad ∧ One w ad (k * 12) c ys ∧ c.n ≤ 1024 ∧ c.m ≤ 1024
theorem Sm.next {w : World} {A : Option Addr} {k : Nat} {ad : Addr} {c : Cal} {ys : List Int} (h : Sm w A k) (ha : A = some ad) (x : One w ad (k * 12) c ys) (h1 : c.n ≤ 1024) (h2 : c.m ≤ 1024) : Sm w A (k + 1) := fun j hj => by
  by_cases e : j = k
  · subst e; exact ⟨ad, c, ys, ha, x, h1, h2⟩
  · exact h j (by omega)

def GrE (w : World) (A : Option Addr) (n : Nat) (W : World) (e : Ending) (w' : World) : Prop := ∃ b, e = .returned (.bool b) ∧ (b = false → n ≤ 60 ∧ Sm w A n) ∧ Below W.heap.size W w'
theorem GrE.yes {w : World} {A : Option Addr} {n : Nat} {W w' : World} (h : Below W.heap.size W w') : GrE w A n W (.returned (.bool true)) w' := ⟨true, rfl, (fun e => by cases e), h⟩
theorem GrE.no {w : World} {A : Option Addr} {n : Nat} {W w' : World} (h : Below W.heap.size W w') (h1 : n ≤ 60) (h2 : Sm w A n) : GrE w A n W (.returned (.bool false)) w' := ⟨false, rfl, fun _ => ⟨h1, h2⟩, h⟩

set_option maxRecDepth 100000 in
set_option maxHeartbeats 4000000 in
theorem great_any (A : Option Addr) (n c : Nat) (w : World) (W : World) (hc : Cls w A n c) (hb : Below w.heap.size w W) :
    Calls Try.prog 10 #[.slice A n c] W fun e w' => GrE w A n W e w' := by
  have HC := Lib.hid hc
  have HB := Lib.hid hb
  have hbig := hc.1
  clear hc hb
  go_enter Try.func10, Try.ntmps10
  go_wp2_with fail
  go_loopw [7] (fun i W' => ∃ k : Nat, k ≤ n ∧ i = .int .i64 k ∧ Sm w A k ∧ Below W.heap.size W W') (fun i _ => n - (intOf i).toNat)
  case atStart => exact ⟨0, Nat.zero_le _, rfl, fun j hj => absurd hj (Nat.not_lt_zero j), Below.refl _ _⟩
  case round =>
    obtain ⟨k, hk, rfl, hS, hB⟩ := hrel
    have HS := Lib.hid hS
    have HBe := Lib.hid hB
    clear hS hB
    by_cases hlt : k < n
    · obtain ⟨ad, d, ys, rfl, hone⟩ := HC.out.2 k hlt
      have HO := Lib.hid hone
      obtain ⟨b, o, s, ha, hat⟩ := HO.out.at_ (Tl.bel2 HB.out HBe.out)
      obtain ⟨c0, c1, c2, c3, c4, c5, c6, c7, c8, c9, c10, c11⟩ := hat
      obtain ⟨K, va, x, nn, u, wr, B, bm, bc, tc⟩ := d
      simp only at c0 c1 c2 c3 c4 c5 c6 c7 c8 c9 c10 c11
      clear hone
      have hk1 : (k : Int) + 1 < 9223372036854775808 := by omega
      have hk0 : (0 : Int) ≤ (k : Int) + 1 := by omega
      by_cases h1 : 1024 < nn
      · go_wp2
        go_ret
        exact .yes (HBe.out.alloc HBe.out.size _)
      · by_cases h2 : 1024 < bm
        · have h2' : (1024 : Int) < (bm : Int) := by omega
          go_wp2
          go_ret
          exact .yes (HBe.out.alloc HBe.out.size _)
        · have h2' : ¬ (1024 : Int) < (bm : Int) := by omega
          have h2'' : (bm : Int) ≤ 1024 := by omega
          go_wp2
          go_roundw
          case rel => exact ⟨k + 1, by omega, by go_num, HS.out.next rfl HO.out (by simp only; omega) (by simp only; omega), HBe.out.alloc HBe.out.size _⟩
          case measure => simp [intOf]; omega
    · obtain rfl : k = n := by omega
      by_cases h6 : 60 < k
      · have h6' : (60 : Int) < (k : Int) := by omega
        go_wp2
        go_ret
        exact .yes HBe.out
      · have h6' : ¬ (60 : Int) < (k : Int) := by omega
        go_wp2
        go_ret
        exact .no HBe.out (by omega) HS.out

end Go.Proofs.Ytfpdemlcmfaieaa.Cs
