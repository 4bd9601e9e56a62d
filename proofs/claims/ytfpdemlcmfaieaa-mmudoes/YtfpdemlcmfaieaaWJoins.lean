/- The walk of RamJoins. -/
import Derived.Test.YtfpdemlcmfaieaaRAlive
namespace Go.Proofs.Ytfpdemlcmfaieaa.Rm
open Go.RowKit

/-- A slice of bytes that came in, read as a list. -/
theorem src_of_row {w : World} {A : Option Addr} {len cap : Nat} {zs : List Int}
    (h : (A = none ∧ len = 0 ∧ cap = 0 ∧ zs = []) ∨ ∃ x : Addr, A = some x ∧ len ≤ cap ∧ cap ≤ maxLen ∧ zs.length = cap ∧ (∀ i, i < zs.length → w.cell? (x.add i) = some (.int .u8 (zs.getD i 0))) ∧ ∀ n ∈ zs, (Lit.int .u8 n).wf = true) :
    ∃ ys : List Int, ys.length = len ∧ Byt ys ∧ Src w A ys := by
  rcases h with ⟨rfl, rfl, rfl, rfl⟩ | ⟨x, rfl, hl, hm, hz, hc, hw⟩
  · exact ⟨[], rfl, fun x hx => by simp at hx, fun h0 => by simp at h0⟩
  · have hlen : (zs.take len).length = len := by simp; omega
    refine ⟨zs.take len, hlen, fun y hy => ?_, fun h0 => ⟨x, rfl, ?_, fun j v hv => ?_⟩⟩
    · have := bounds_u8 (hw y (List.mem_of_mem_take hy))
      omega
    · have h1 := hc 0 (by omega)
      have h2 : (x.add 0).block < w.heap.size := by
        rcases Nat.lt_or_ge (x.add 0).block w.heap.size with hlt | hge
        · exact hlt
        · unfold World.cell? at h1
          rw [Array.getElem?_eq_none hge] at h1
          simp at h1
      rwa [block_add] at h2
    · have hj := (List.getElem?_eq_some_iff.1 hv).1
      rw [cel_length, hlen] at hj
      rw [cel_get _ j (by omega)] at hv
      rw [← hv, hc j (by omega)]
      simp [List.getD, hj]

theorem val4 (ys : List Int) (a : Nat) (h : a + 4 ≤ ys.length) : val ys a 4 = ys.getD a 0 + 256 * ys.getD (a + 1) 0 + 65536 * ys.getD (a + 2) 0 + 16777216 * ys.getD (a + 3) 0 := by
  rw [val_succ ys a 3 (by omega), val_succ ys a 2 (by omega), val_succ ys a 1 (by omega), val_succ ys a 0 (by omega)]
  simp [val, num]
theorem val2 (ys : List Int) (a : Nat) (h : a + 2 ≤ ys.length) : val ys a 2 = ys.getD a 0 + 256 * ys.getD (a + 1) 0 := by
  rw [val_succ ys a 1 (by omega), val_succ ys a 0 (by omega)]
  simp [val, num]
theorem val1 (ys : List Int) (a : Nat) (h : a + 1 ≤ ys.length) : val ys a 1 = ys.getD a 0 := by
  rw [val_succ ys a 0 (by omega)]
  simp [val, num]

theorem joins_halves (ys : List Int) (a : Nat) (h : a + 4 ≤ ys.length) : val ys a 2 + 65536 * val ys (a + 2) 2 = val ys a 4 := by
  rw [val4 ys a h, val2 ys a (by omega), val2 ys (a + 2) (by omega), show a + 2 + 1 = a + 3 from rfl]
  omega
theorem joins_bytes (ys : List Int) (a k : Nat) (hb : Byt ys) (h : a + 4 ≤ ys.length) (hk : k < 4) : val ys a 4 / 2 ^ (8 * k) % 256 = val ys (a + k) 1 := by
  have h0 := hb.at_ a
  have h1 := hb.at_ (a + 1)
  have h2 := hb.at_ (a + 2)
  have h3 := hb.at_ (a + 3)
  rw [val4 ys a h, val1 ys (a + k) (by omega)]
  have h4 : k = 0 ∨ k = 1 ∨ k = 2 ∨ k = 3 := by omega
  rcases h4 with rfl | rfl | rfl | rfl
  · rw [show (2 : Int) ^ (8 * 0) = 1 from rfl, show a + 0 = a from rfl]; omega
  · rw [show (2 : Int) ^ (8 * 1) = 256 from rfl]; omega
  · rw [show (2 : Int) ^ (8 * 2) = 65536 from rfl]; omega
  · rw [show (2 : Int) ^ (8 * 3) = 16777216 from rfl]; omega

theorem joins_tmod (ys : List Int) (a k : Nat) (hb : Byt ys) (h : a + 4 ≤ ys.length) (hk : k < 4) : (val ys a 4 / 2 ^ (8 * k)).tmod 256 = val ys (a + k) 1 := by
  rw [Int.tmod_eq_emod_of_nonneg (Int.ediv_nonneg (val_bound ys a hb 4 h).1 (Int.le_of_lt (Int.pow_pos (by omega)))), joins_bytes ys a k hb h hk]

/-- A memory made, and loaded whole. -/
theorem load_all (g r : Nat) (n c : Nat) (ys : List Int) (A : Option Addr) (w : World) (h : Mem w g r (List.replicate n 0)) (hs : Src w A ys) (hm : ys.length = n) (hby : Byt ys) :
    Calls Try.prog 13 #[.pointer (some ⟨g, 0, none⟩), .int .u32 0, .slice A n c] w fun e w' => e = .returned (.int .i64 0) ∧ Mem w' g r ys ∧ w.grownBy w' (some r) := by
  have := load_ok g r _ ys 0 n c A w h hs hm hby (by simp)
  rw [splice_all n ys hm] at this
  exact this

theorem get_at (g r : Nat) (xs : List Int) (a : Int) (b n : Nat) (ha : a = b) (w : World) (h : Mem w g r xs) (m : Int) (hm : m = n) (hn : n ≤ 4) (hf : b + n ≤ xs.length) :
    Calls Try.prog 35 #[.pointer (some ⟨g, 0, none⟩), .int .u32 a, .int .i64 m] w fun e w' => e = .returned (.tuple #[.int .u32 (val xs b n), .int .i64 0]) ∧ w = w' := by
  subst ha; subst hm; exact get_ok g r xs b n w h hn hf

end Go.Proofs.Ytfpdemlcmfaieaa.Rm
