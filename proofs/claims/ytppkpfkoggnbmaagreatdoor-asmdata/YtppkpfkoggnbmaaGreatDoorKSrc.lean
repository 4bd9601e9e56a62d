/- What comes in: slices of bytes and of numbers. -/
import Derived.Test.YtppkpfkoggnbmaaGreatDoorEMem
import Derived.OpenShut
namespace Go.Proofs.YtppkpfkoggnbmaaGreatDoor.Cs.Ka
open Go.RowKit Es
set_option linter.unusedVariables false

theorem u8_rg {n : Int} (h : (Lit.int .u8 n).wf = true) : 0 ≤ n ∧ n < 256 := by
  have := bounds_u8 h
  omega
theorem blk_lt {w : World} {a : Addr} {v : Value} (h : w.cell? a = some v) : a.block < w.heap.size := by
  rcases Nat.lt_or_ge a.block w.heap.size with hlt | hge
  · exact hlt
  · unfold World.cell? at h
    rw [Array.getElem?_eq_none hge] at h
    simp at h
theorem by_of {w : World} {A : Option Addr} {len cap : Nat} {zs : List Int}
    (h : (A = none ∧ len = 0 ∧ cap = 0 ∧ zs = []) ∨ ∃ x : Addr, A = some x ∧ len ≤ cap ∧ cap ≤ maxLen ∧ zs.length = cap ∧ (∀ i, i < zs.length → w.cell? (x.add i) = some (.int .u8 (zs.getD i 0))) ∧ ∀ n ∈ zs, (Lit.int .u8 n).wf = true) : ∃ ys, By w A len cap ys := by
  rcases h with ⟨rfl, rfl, rfl, rfl⟩ | ⟨x, rfl, hl, hm, hz, hc, hw⟩
  · exact ⟨[], rfl, Byt.nil, fun h0 => by simp at h0, by omega, by omega⟩
  · have hlen : (zs.take len).length = len := by simp; omega
    refine ⟨zs.take len, hlen, fun y hy => u8_rg (hw y (List.mem_of_mem_take hy)), fun h0 => ⟨x, rfl, ?_, fun j v hv => ?_⟩, hl, by simpa [maxLen] using hm⟩
    · have h1 := blk_lt (hc 0 (by omega))
      rwa [block_add] at h1
    · have hj := (List.getElem?_eq_some_iff.1 hv).1
      rw [cel_length, hlen] at hj
      rw [cel_get _ j (by omega)] at hv
      injection hv with hv
      subst hv
      rw [hc j (by omega)]
      simp [List.getD, hj]

/-- a slice of numbers that came in -/
structure Src (w : World) (A : Option Addr) (n : Nat) (ys : List Nat) : Prop where
  len : ys.length = n
  num : ∀ y ∈ ys, y < 4294967296
  cell : ∀ k, k < n → ∃ ad : Addr, A = some ad ∧ ad.block < w.heap.size ∧ w.cell? (ad.add k) = some (.int .u32 ((ys.getD k 0 : Nat) : Int))
theorem src_of {w : World} {A : Option Addr} {n c : Nat} {zs : List Int}
    (h : (A = none ∧ n = 0 ∧ c = 0 ∧ zs = []) ∨ ∃ x : Addr, A = some x ∧ n ≤ c ∧ c ≤ maxLen ∧ zs.length = c ∧ (∀ i, i < zs.length → w.cell? (x.add i) = some (.int .u32 (zs.getD i 0))) ∧ ∀ n ∈ zs, (Lit.int .u32 n).wf = true) :
    ∃ ys, Src w A n ys := by
  rcases h with ⟨rfl, rfl, rfl, rfl⟩ | ⟨x, rfl, hn, _, hl, hc, hw⟩
  · exact ⟨[], rfl, by simp, fun k hk => by omega⟩
  · refine ⟨(zs.take n).map Int.toNat, by simp; omega, fun y hy => ?_, fun k hk => ⟨x, rfl, ?_, ?_⟩⟩
    · rw [List.mem_map] at hy
      obtain ⟨z, hz, rfl⟩ := hy
      have := bounds_u32 (hw z (List.mem_of_mem_take hz))
      omega
    · have := blk_lt (hc k (by omega))
      rwa [block_add] at this
    · rw [hc k (by omega)]
      have hm : zs.getD k 0 ∈ zs := by
        simp only [List.getD, List.getElem?_eq_getElem (by omega : k < zs.length), Option.getD_some]
        exact List.getElem_mem _
      have hb := bounds_u32 (hw _ hm)
      have e : ((zs.take n).map Int.toNat).getD k 0 = (zs.getD k 0).toNat := by
        simp [List.getD, hk, List.getElem?_eq_getElem (by omega : k < zs.length)]
      rw [e, show (((zs.getD k 0).toNat : Nat) : Int) = zs.getD k 0 by omega]
theorem Src.at_ {w wr : World} {A : Option Addr} {n : Nat} {ys : List Nat} (h : Src w A n ys) (hb : Below w.heap.size w wr) {k : Nat} (hk : k < n) : ∃ ad : Addr, A = some ad ∧ wr.cell? (ad.add k) = some (.int .u32 ((ys.getD k 0 : Nat) : Int)) := by
  obtain ⟨ad, e, hl, hc⟩ := h.cell k hk
  exact ⟨ad, e, (hb.cell (p := ad.add k) (by rw [block_add]; exact hl)).trans hc⟩

end Go.Proofs.YtppkpfkoggnbmaaGreatDoor.Cs.Ka
