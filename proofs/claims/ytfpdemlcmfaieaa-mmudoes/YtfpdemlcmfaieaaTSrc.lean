/- A slice of numbers that came in; facts of rows that the laws want. -/
import Derived.Test.YtfpdemlcmfaieaaTSame
import Derived.OpenShut
namespace Go.Proofs.Ytfpdemlcmfaieaa.Tl
open Go.RowKit

def U32 (x : Int) : Prop := 0 ≤ x ∧ x < 4294967296

/-- A slice that came in: n numbers. -/
structure Src (w : World) (A : Option Addr) (n : Nat) (ys : List Int) : Prop where
  len : ys.length = n
  num : ∀ k, U32 (ys.getD k 0)
  cell : ∀ k, k < n → ∃ ad, A = some ad ∧ ad.block < w.heap.size ∧ w.cell? (ad.add k) = some (.int .u32 (ys.getD k 0))

theorem block_add (a : Addr) (n : Nat) : (a.add n).block = a.block := by unfold Addr.add; split <;> rfl
theorem src_of_row {w : World} {A : Option Addr} {n c : Nat} {zs : List Int}
    (h : (A = none ∧ n = 0 ∧ c = 0 ∧ zs = []) ∨ ∃ x : Addr, A = some x ∧ n ≤ c ∧ c ≤ maxLen ∧ zs.length = c ∧ (∀ i, i < zs.length → w.cell? (x.add i) = some (.int .u32 (zs.getD i 0))) ∧ ∀ n ∈ zs, (Lit.int .u32 n).wf = true) :
    ∃ ys, Src w A n ys := by
  rcases h with ⟨rfl, rfl, rfl, rfl⟩ | ⟨x, rfl, hn, _, hl, hc, hw⟩
  · exact ⟨[], rfl, fun k => by simp [U32], fun k hk => by omega⟩
  · have hget : ∀ k, k < n → (zs.take n).getD k 0 = zs.getD k 0 := fun k hk => by simp [List.getD, hk]
    refine ⟨zs.take n, by rw [List.length_take]; omega, fun k => ?_, fun k hk => ⟨x, rfl, ?_, ?_⟩⟩
    · by_cases hk : k < n
      · rw [hget k hk]
        have hm : zs.getD k 0 ∈ zs := by
          simp only [List.getD, List.getElem?_eq_getElem (by omega : k < zs.length), Option.getD_some]
          exact List.getElem_mem _
        have := bounds_u32 (hw _ hm)
        exact ⟨by omega, by omega⟩
      · simp [List.getD, List.getElem?_take, hk, U32]
    · have := block_lt_of_cell (hc k (by omega))
      rwa [block_add] at this
    · rw [hget k hk]
      exact hc k (by omega)
theorem Src.at_ {w wr : World} {A : Option Addr} {n : Nat} {ys : List Int} (h : Src w A n ys) (hb : Below w.heap.size w wr) {k : Nat} (hk : k < n) : ∃ ad, A = some ad ∧ wr.cell? (ad.add k) = some (.int .u32 (ys.getD k 0)) := by
  obtain ⟨ad, e, hl, hc⟩ := h.cell k hk
  exact ⟨ad, e, (hb.cell (p := ad.add k) (by rw [block_add]; exact hl)).trans hc⟩

end Go.Proofs.Ytfpdemlcmfaieaa.Tl
