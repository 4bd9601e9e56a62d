/- More arithmetic of a status: parts beside one another. -/
import Derived.Test.YtlijffjfaggkoaaQNum
namespace Go.Proofs.Ytlijffjfaggkoaa.Cs

theorem en_form (x l : Int) : ∃ n : Nat, n < 32 ∧ l % 32 = n ∧ en x l = wo (bi x 24) 4194304 + (n : Int) * 65536 := by
  obtain ⟨n, hn⟩ := Int.eq_ofNat_of_zero_le (show 0 ≤ l % 32 by omega)
  exact ⟨n, by omega, hn, by unfold en; rw [hn]⟩
theorem good_all : ∀ u : Bool, ∀ n : Nat, n < 32 → gd (wo u 4194304 + (n : Int) * 65536) = true := by decide
theorem parts_all : ∀ u : Bool, ∀ n : Nat, n < 32 → bi (wo u 4194304 + (n : Int) * 65536) 24 = false ∧ bi (wo u 4194304 + (n : Int) * 65536) 27 = false ∧ bi (wo u 4194304 + (n : Int) * 65536) 22 = u ∧ ip (wo u 4194304 + (n : Int) * 65536) = n ∧ bi (wo u 4194304 + (n : Int) * 65536) 0 = false ∧ bi (wo u 4194304 + (n : Int) * 65536) 1 = false ∧ bi (wo u 4194304 + (n : Int) * 65536) 2 = false ∧ bi (wo u 4194304 + (n : Int) * 65536) 3 = false := by decide
theorem en_good (x l : Int) : gd (en x l) = true := by
  obtain ⟨n, hn, _, h⟩ := en_form x l
  rw [h]; exact good_all _ n hn
theorem en_parts (x l : Int) : bi (en x l) 24 = false ∧ bi (en x l) 27 = false ∧ bi (en x l) 22 = bi x 24 ∧ ip (en x l) = l % 32 ∧ bi (en x l) 0 = false ∧ bi (en x l) 1 = false ∧ bi (en x l) 2 = false ∧ bi (en x l) 3 = false := by
  obtain ⟨n, hn, hl, h⟩ := en_form x l
  rw [h, hl]; exact parts_all _ n hn
theorem en_en (x a b : Int) : en (en x a) b = b % 32 * 65536 := by
  have := (en_parts x a).1
  unfold en at this ⊢
  rw [this]; simp [wo]
/-- back from a handler -/
theorem bk_enter {x l : Int} (hl : 0 ≤ l ∧ l ≤ 31) (hu : bi x 24 = false) : bk (en x l) x = (gd x && decide (ip x ≤ l)) := by
  obtain ⟨h1, _, _, h2, _⟩ := en_parts x l
  unfold bk
  rw [h1, h2, hu, show l % 32 = l by omega]; simp
theorem bk_two {x a b : Int} (ha : 0 ≤ a ∧ a ≤ 31) (hb : 0 ≤ b ∧ b ≤ 31) : bk (en (en x a) b) (en x a) = decide (a ≤ b) := by
  obtain ⟨h1, _, _, h2, _⟩ := en_parts x a
  obtain ⟨h3, _, _, h4, _⟩ := en_parts (en x a) b
  unfold bk
  rw [en_good, h1, h2, h3, h4, show a % 32 = a by omega, show b % 32 = b by omega]; simp
/-- codes and level, put one behind the other -/
theorem parts_eq {x l : Int} (hl : 0 ≤ l ∧ l ≤ 31) (n z v c : Bool) :
    let y := la (wi x (cd n z v c)) l
    (bi y 3 = n ∧ bi y 2 = z ∧ bi y 1 = v ∧ bi y 0 = c) ∧ ip y = l ∧ wi (la x l) (cd n z v c) = y ∧ wi y (cd (bi x 3) (bi x 2) (bi x 1) (bi x 0)) = la x l := by
  intro y
  have hb := cd_bound n z v c
  have hs := cd_self x
  have hy : y % 16 = cd n z v c := by
    show la (wi x (cd n z v c)) l % 16 = _
    unfold la wi ip; omega
  refine ⟨cd_bits n z v c y hy, ?_, ?_, ?_⟩
  · show ip (la (wi x (cd n z v c)) l) = l
    unfold la wi ip; omega
  · show wi (la x l) (cd n z v c) = la (wi x (cd n z v c)) l
    unfold la wi ip; omega
  · rw [hs]
    show wi (la (wi x (cd n z v c)) l) (x % 16) = la x l
    unfold la wi ip; omega
/-- a branch and its neighbour -/
theorem br_both (k : Int) (n z v c : Bool) (h : br k n z v c = true) : br (bits .xor .i64 k 1) n z v c = false := by
  have hk : k = 18 ∨ k = 19 ∨ k = 20 ∨ k = 21 ∨ k = 24 ∨ k = 25 ∨ k = 26 ∨ k = 27 ∨ k = 28 ∨ k = 29 ∨ k = 30 ∨ k = 31 := by
    by_cases h0 : k = 18 ∨ k = 19 ∨ k = 20 ∨ k = 21 ∨ k = 24 ∨ k = 25 ∨ k = 26 ∨ k = 27 ∨ k = 28 ∨ k = 29 ∨ k = 30 ∨ k = 31
    · exact h0
    · simp only [not_or] at h0
      obtain ⟨h1, h2, h3, h4, h5, h6, h7, h8, h9, h10, h11, h12⟩ := h0
      simp [br, *] at h
  revert h
  revert n z v c
  rcases hk with rfl | rfl | rfl | rfl | rfl | rfl | rfl | rfl | rfl | rfl | rfl | rfl <;> decide
end Go.Proofs.Ytlijffjfaggkoaa.Cs
