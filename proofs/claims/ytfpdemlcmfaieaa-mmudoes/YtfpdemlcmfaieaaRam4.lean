/- Contracts of package ram: Copy, Put. -/
import Derived.Test.YtfpdemlcmfaieaaRam3
import Derived.Deep.RegionLaw
namespace Go.Proofs.Ytfpdemlcmfaieaa.Rm
open Go.RowKit

/-- The lowest k bytes of a number. -/
def low (x : Int) (k : Nat) : List Int := (List.range k).map fun i => x / 256 ^ i % 256
theorem low_length (x : Int) (k : Nat) : (low x k).length = k := by simp [low]
theorem low_byt (x : Int) (k : Nat) : Byt (low x k) := by
  intro y hy
  simp only [low, List.mem_map] at hy
  obtain ⟨i, _, rfl⟩ := hy
  omega
/-- Four bytes, of which k are laid. -/
def laid (x : Int) (k : Nat) : List Int := low x k ++ List.replicate (4 - k) 0

def Four (w : World) (b : Nat) (l : List Int) : Prop := w.heap[b]? = some (.cells (cel l).toArray 102 (0, 0))
theorem Four.cell {w : World} {b : Nat} {l : List Int} (h : Four w b l) {i : Nat} (hi : i < l.length) : w.cell? ⟨b, i, none⟩ = some (.int .u8 (l.getD i 0)) := by
  have := cell_of_row w b i _ _ _ h
  rw [this]
  simpa using cel_get l i hi
theorem Four.free {w : World} {b : Nat} {l : List Int} (h : Four w b l) (i : Nat) : w.frozen? ⟨b, i, none⟩ = false := by
  unfold Four at h; simp [World.frozen?, h]
theorem Four.set {w : World} {b : Nat} {l : List Int} (h : Four w b l) (i : Nat) (v : Int) : Four (w.setCell ⟨b, i, none⟩ (.int .u8 v)) b (l.set i v) := by
  unfold Four at h ⊢
  simp [World.setCell, Array.getElem?_modify, h, cel, List.map_set]
theorem laid_length (x : Int) (k : Nat) (h : k ≤ 4) : (laid x k).length = 4 := by simp [laid, low_length]; omega
theorem laid_set (x : Int) (k : Nat) (h : k < 4) : (laid x k).set k (x / 256 ^ k % 256) = laid x (k + 1) := by
  have e : 4 - k = (4 - (k + 1)) + 1 := by omega
  unfold laid
  rw [e, List.replicate_succ, List.set_append_right _ _ (by simp [low_length]), low_length]
  simp [low, List.range_succ]

theorem pow_256 (k : Nat) : (2 : Int) ^ (8 * k) = 256 ^ k := by rw [Int.pow_mul]; rfl
theorem laid_low (x : Int) (k j : Nat) (h : j < k) : (laid x k).getD j 0 = (low x k).getD j 0 := by
  unfold laid
  simp [List.getD, List.getElem?_append_left (by rw [low_length]; exact h : j < (low x k).length)]

/-- The end of Put: the bytes go over. -/
theorem put_copies {g r : Nat} {xs : List Int} {a n : Nat} {x : Int} {w wr : World} (h : Mem w g r xs) (hn : n ≤ 4) (hf : a + n ≤ xs.length)
    (h4 : Four wr w.heap.size (laid x n)) (hb : Below w.heap.size w wr) (dp : Option Addr) (d : Nat) (hd : n ≤ d) (hpos : 0 < n → dp = some ⟨r, a, none⟩) :
    ∃ w', (Builtin.copy_ #[22, 22] 3 #[.slice dp d d, .slice (some ⟨w.heap.size, 0, none⟩) n 4]).run Try.prog wr.drew = .ok (goInt n) w' ∧
      Hid (Mem w' g r (splice xs a (low x n)) ∧ w.grownBy w' (some r)) := by
  have hm := h.below_ hb
  obtain ⟨w1, hrun, h1, h2⟩ := run_copy_b wr.drew dp (some ⟨w.heap.size, 0, none⟩) d d n 4 r a xs (low x n) hm.row (by rw [low_length]; simp [Nat.min_def]; omega)
    (fun h0 => ⟨hpos (by rwa [low_length] at h0), _, rfl, fun j v hv => by
      have hadd : (⟨w.heap.size, 0, none⟩ : Addr).add j = ⟨w.heap.size, j, none⟩ := by unfold Addr.add; split <;> simp_all
      have hj : j < n := by
        have := (List.getElem?_eq_some_iff.1 hv).1
        rw [cel_length, low_length] at this; omega
      rw [hadd, ← hv, cel_get _ j (by rw [low_length]; exact hj), ← laid_low x n j hj]
      exact h4.cell (by rw [laid_length x n hn]; omega)⟩) (by rw [low_length]; omega)
  rw [low_length] at hrun
  refine ⟨w1, hrun, mem_after (w := wr.drew) (hm.keep rfl rfl) (low_byt _ _) (by rw [low_length]; omega) h1.out h2.out, ?_⟩
  exact grown_trans (grown_of_below hb.drew _) h2.out

set_option maxHeartbeats 400000 in
theorem put_ok (g r : Nat) (xs : List Int) (a n : Nat) (x : Int) (w : World) (h : Mem w g r xs) (hn : n ≤ 4) (hf : a + n ≤ xs.length) :
    Calls Try.prog 33 #[.pointer (some ⟨g, 0, none⟩), .int .u32 a, .int .u32 x, .int .i64 n] w fun e w' => e = .returned (.int .i64 0) ∧ Mem w' g r (splice xs a (low x n)) ∧ w.grownBy w' (some r) := by
  have C := Lib.hid (holds_ok g r xs a n w h (by omega) (by omega) (by omega) (by omega))
  have hc := h.cell
  have hl := h.len
  have hgl := h.glt
  have hrl := h.rlt
  have H := Lib.hid h
  clear h
  go_enter Try.func33, Try.ntmps33
  go_wp2_with fail
  refine C.out.mono ?_
  rintro e w' ⟨rfl, rfl⟩
  go_wp2
  go_loopw [20] (fun i wr => ∃ k : Nat, k ≤ n ∧ i = .int .i64 k ∧ Four wr w.heap.size (laid x k) ∧ Below w.heap.size w wr) (fun i _ => n - (intOf i).toNat)
  case atStart => exact ⟨0, Nat.zero_le _, rfl, heap_new _ _, (Below.refl _ _).alloc (Nat.le_refl _) _⟩
  case round =>
    obtain ⟨k, hk, rfl, h4, hb⟩ := hrel
    by_cases hlt : k < n
    · have hcl := h4.cell (i := k) (by rw [laid_length x k (by omega)]; omega)
      have hfr := h4.free k
      have H4 := Lib.hid h4
      clear h4
      go_wp2
      go_roundw
      case rel =>
        have hs := H4.out.set k (x / 256 ^ k % 256)
        rw [laid_set x k (by omega), ← pow_256 k] at hs
        exact ⟨k + 1, by omega, by go_num, hs, hb.setCell (Nat.le_refl _) _⟩
      case measure => simp [intOf]; omega
    · obtain rfl : k = n := by omega
      have hm := H.out.below_ hb
      have hc := hm.cell
      have hgr := hb.size
      by_cases he : xs.length = a
      · obtain ⟨w1, hrun, HE⟩ := put_copies H.out hn hf h4 hb (some ⟨r, 0, none⟩) 0 (by omega) (fun _ => by omega)
        have hk0 : k = 0 := by omega
        subst hk0
        subst he
        clear hm h4
        go_wp2
        go_region
        go_wp2
        go_ret
        exact ⟨rfl, HE.out.1, HE.out.2⟩
      · obtain ⟨w1, hrun, HE⟩ := put_copies H.out hn hf h4 hb (some ⟨r, a, none⟩) (xs.length - a) (by omega) (fun _ => rfl)
        have ha1 : a ≤ xs.length := by omega
        have hk1 : (k : Int) ≤ 4 := by omega
        have hk2 : k < 5 := by omega
        have hk3 : ¬ 4 < k := by omega
        clear hm h4
        go_wp2
        go_region
        go_wp2
        go_ret
        exact ⟨rfl, HE.out.1, HE.out.2⟩

set_option maxHeartbeats 400000 in
theorem put_not (g r : Nat) (xs : List Int) (a n x : Int) (w : World) (h : Mem w g r xs) (ha : 0 ≤ a) (ha' : a < 4294967296) (hf : ¬ (0 ≤ n ∧ n ≤ 4 ∧ a + n ≤ xs.length)) :
    Calls Try.prog 33 #[.pointer (some ⟨g, 0, none⟩), .int .u32 a, .int .u32 x, .int .i64 n] w fun e w' => e = .returned (.int .i64 6) ∧ w = w' := by
  have C := Lib.hid (holds_not g r xs a n w h ha ha' hf)
  clear h hf
  go_enter Try.func33, Try.ntmps33
  go_wp2_with fail
  refine C.out.mono ?_
  rintro e w' ⟨rfl, rfl⟩
  go_wp2
  go_ret
  exact ⟨rfl, rfl⟩

end Go.Proofs.Ytfpdemlcmfaieaa.Rm
