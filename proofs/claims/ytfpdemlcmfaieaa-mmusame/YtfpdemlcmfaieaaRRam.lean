/- Contracts of the document's memory. -/
import Derived.Test.YtfpdemlcmfaieaaMNumb
namespace Go.Proofs.Ytfpdemlcmfaieaa.Cs
open Go.RowKit

/-- Block h is the document's memory, its bytes block hr. -/
structure Rb (w : World) (h hr : Nat) (xs : List Int) : Prop where
  box : w.heap[h]? = some (.cells #[.slice (some ⟨hr, 0, none⟩) xs.length xs.length] 70 (0, 0))
  row : w.heap[hr]? = some (.cells (Rm.cel xs).toArray 5 (0, 0))
  byt : Rm.Byt xs
  len : xs.length ≤ 16777216
section
variable {w w' : World} {h hr : Nat} {xs : List Int} {T : Nat → Prop}
theorem Rb.glt (b : Rb w h hr xs) : h < w.heap.size := Tl.lt_of_heap b.box
theorem Rb.rlt (b : Rb w h hr xs) : hr < w.heap.size := Tl.lt_of_heap b.row
theorem Rb.typ (b : Rb w h hr xs) : Typ w h 70 ∧ Typ w hr 5 := ⟨⟨_, _, b.box⟩, ⟨_, _, b.row⟩⟩
theorem Rb.ne (b : Rb w h hr xs) : h ≠ hr := by
  rintro rfl
  exact absurd (b.typ.1.ne b.typ.2) (by decide)
theorem Rb.cell (b : Rb w h hr xs) : w.cell? ⟨h, 0, none⟩ = some (.slice (some ⟨hr, 0, none⟩) xs.length xs.length) := by rw [cell_of_row w h 0 _ _ _ b.box]; rfl
theorem Rb.byte (b : Rb w h hr xs) {i : Nat} (hi : i < xs.length) : w.cell? ⟨hr, i, none⟩ = some (.int .u8 (xs.getD i 0)) := by
  rw [cell_of_row w hr i _ _ _ b.row]
  simpa using Rm.cel_get xs i hi
theorem Rb.free (b : Rb w h hr xs) (i : Nat) : w.frozen? ⟨hr, i, none⟩ = false := frozen_of_row w hr i _ _ b.row
theorem Rb.keep (b : Rb w h hr xs) (h1 : w'.heap[h]? = w.heap[h]?) (h2 : w'.heap[hr]? = w.heap[hr]?) : Rb w' h hr xs := ⟨h1.trans b.box, h2.trans b.row, b.byt, b.len⟩
theorem Rb.below (b : Rb w h hr xs) (m : Below w.heap.size w w') : Rb w' h hr xs := b.keep (m.block h b.glt) (m.block hr b.rlt)
theorem Rb.mods (b : Rb w h hr xs) (m : Tl.Mods T w w') (h1 : ¬ T h) (h2 : ¬ T hr) : Rb w' h hr xs := b.keep (m.block h b.glt h1) (m.block hr b.rlt h2)
theorem Rb.set (b : Rb w h hr xs) (i : Nat) (v : Int) (hv : 0 ≤ v ∧ v < 256) : Rb (w.setCell ⟨hr, i, none⟩ (.int .u8 v)) h hr (xs.set i v) := by
  refine ⟨?_, ?_, ?_, by rw [List.length_set]; exact b.len⟩
  · rw [List.length_set, Below.heap_setCell _ _ _ _ b.ne]; exact b.box
  · have := heap_setCell_same w hr i _ _ (.int .u8 v) b.row
    rw [this]
    simp [Rm.cel, List.map_set]
  · intro x hx
    rcases List.mem_or_eq_of_mem_set hx with hx | rfl
    · exact b.byt x hx
    · exact hv
end
theorem splice_snoc (xs ws : List Int) (a : Nat) (v : Int) (h : a + ws.length < xs.length) : (splice xs a ws).set (a + ws.length) v = splice xs a (ws ++ [v]) := by
  unfold splice
  have h1 : (xs.take a).length = a := by simp; omega
  rw [List.set_append_right _ _ (by omega), h1, List.set_append_right _ _ (by omega), show a + ws.length - a - ws.length = 0 by omega]
  rw [List.drop_eq_getElem_cons h, List.set_cons_zero, List.length_append, List.append_assoc]
  rfl
theorem splice_nil (xs : List Int) (a : Nat) : splice xs a [] = xs := by simp [splice]
theorem low_succ (x : Int) (k : Nat) : Rm.low x (k + 1) = Rm.low x k ++ [x / 256 ^ k % 256] := by simp [Rm.low, List.range_succ]

def NewRb (w : World) (n : Nat) (e : Ending) (w' : World) : Prop := ∃ q qr, e = .returned (Value.pointer (some ⟨q, 0, none⟩)) ∧ w.heap.size ≤ q ∧ w.heap.size ≤ qr ∧ Rb w' q qr (List.replicate n 0) ∧ Below w.heap.size w w'
theorem rnew_any (n : Nat) (hn : n ≤ 8192) (w : World) :
    Calls Try.prog 12 #[.int .i64 n] w (NewRb w n) := by
  have h1 : ¬ (n : Int) < 0 := by omega
  have h2 : ¬ (16777216 : Int) < (n : Int) := by omega
  have hmk := fun W => Rm.run_make_bytes n (by omega) W
  go_enter Try.func12, Try.ntmps12
  go_wp2
  go_ret
  refine ⟨w.heap.size + 1, w.heap.size, rfl, by omega, Nat.le_refl _, ⟨?_, ?_, Rm.Byt.zeros _, by simp; omega⟩, by go_grown⟩
  · have := heap_alloc_new (w.alloc (.cells (Rm.cel (List.replicate n 0)).toArray 5)) (.cells #[.slice (some ⟨w.heap.size, 0, none⟩) n n] 70)
    simpa using this
  · rw [Below.heap_alloc _ _ _ (by simp)]
    exact heap_alloc_new _ _

set_option maxHeartbeats 400000 in
theorem there_any (h hr : Nat) (xs : List Int) (a : Int) (n : Nat) (t : Bool) (w : World) (b : Rb w h hr xs) (ha : U a) (ht : decide (a + n ≤ xs.length) = t) :
    Calls Try.prog 37 #[(Value.pointer (some ⟨h, 0, none⟩)), .int .u32 a, .int .i64 n] w fun e w' => e = .returned (.bool t) ∧ w = w' := by
  have hc := b.cell
  have hl := b.len
  obtain ⟨a0, a1⟩ := ha
  have h0 : (0 : Int) ≤ (n : Int) := by omega
  generalize hx : xs.length = m at *
  clear b hx
  by_cases h1 : (n : Int) ≤ (m : Int)
  · by_cases h2 : a ≤ (m : Int) - n
    · obtain rfl : t = true := by rw [← ht]; exact decide_eq_true (by omega)
      clear ht
      go_enter Try.func37, Try.ntmps37
      go_wp2
      go_ret
      exact ⟨rfl, rfl⟩
    · obtain rfl : t = false := by rw [← ht]; exact decide_eq_false (by omega)
      clear ht
      go_enter Try.func37, Try.ntmps37
      go_wp2
      go_ret
      exact ⟨rfl, rfl⟩
  · obtain rfl : t = false := by rw [← ht]; exact decide_eq_false (by omega)
    clear ht
    go_enter Try.func37, Try.ntmps37
    go_wp2
    go_ret
    exact ⟨rfl, rfl⟩

set_option maxHeartbeats 400000 in
theorem rget_not (h hr : Nat) (xs : List Int) (a : Int) (w : World) (b : Rb w h hr xs) (ha : U a) (hf : ¬ a + 4 ≤ xs.length) :
    Calls Try.prog 29 #[(Value.pointer (some ⟨h, 0, none⟩)), .int .u32 a, .int .i64 4] w fun e w' => e = .returned (.tuple #[.int .u32 0, .int .i64 6]) ∧ w = w' := by
  have C := Lib.hid (there_any h hr xs a 4 false w b ha (decide_eq_false hf))
  clear b hf
  go_enter Try.func29, Try.ntmps29
  go_wp2_with fail
  refine C.out.mono ?_
  rintro e w' ⟨rfl, rfl⟩
  go_wp2
  go_ret2
  exact ⟨rfl, rfl⟩

set_option maxHeartbeats 1000000 in
theorem rget_ok (h hr : Nat) (xs : List Int) (a : Int) (p : Nat) (w : World) (b : Rb w h hr xs) (hp : a = p) (hf : p + 4 ≤ xs.length) :
    Calls Try.prog 29 #[(Value.pointer (some ⟨h, 0, none⟩)), .int .u32 a, .int .i64 4] w fun e w' => e = .returned (.tuple #[.int .u32 (Rm.val xs p 4), .int .i64 0]) ∧ w = w' := by
  have hl := b.len
  have C := Lib.hid (there_any h hr xs a 4 true w b ⟨by omega, by omega⟩ (decide_eq_true (by omega)))
  have hc := b.cell
  have HB := Lib.hid b
  subst hp
  clear b
  go_enter Try.func29, Try.ntmps29
  go_wp2_with fail
  refine C.out.mono ?_
  rintro e w' ⟨rfl, rfl⟩
  go_wp2
  go_loop [8, 9, 10] (fun x s i => ∃ k : Nat, k ≤ 4 ∧ i = .int .i64 k ∧ s = .int .u32 (256 ^ k % 4294967296) ∧ x = .int .u32 (Rm.val xs p k)) (fun _ _ i => 4 - (intOf i).toNat)
  case atStart => exact ⟨0, Nat.zero_le _, rfl, rfl, rfl⟩
  case round =>
    obtain ⟨k, hk, rfl, rfl, rfl⟩ := hrel
    by_cases hlt : k < 4
    · have hb := Rm.val_bound xs p HB.out.byt k (by omega)
      have hcl := HB.out.byte (i := p + k) (by omega)
      obtain ⟨y0, y1⟩ := HB.out.byt.at_ (p + k)
      have HS := Lib.hid (Rm.val_succ xs p k (by omega))
      generalize hv1 : Rm.val xs p (k + 1) = v1 at HS
      have HV1 := Lib.hid hv1
      clear hv1
      generalize Rm.val xs p k = v0 at *
      generalize xs.getD (p + k) 0 = y at *
      have h4 : k = 0 ∨ k = 1 ∨ k = 2 ∨ k = 3 := by omega
      obtain ⟨b0, b1⟩ := hb
      rcases h4 with rfl | rfl | rfl | rfl
      · rw [Nat.add_zero] at hcl
        go_wp2
        go_round
        case rel => exact ⟨1, by omega, rfl, rfl, congrArg (Value.int .u32) (by rw [HV1.out, HS.out]; omega)⟩
        case measure => simp [intOf]
      · go_wp2
        go_round
        case rel => exact ⟨2, by omega, rfl, rfl, congrArg (Value.int .u32) (by rw [HV1.out, HS.out]; omega)⟩
        case measure => simp [intOf]
      · go_wp2
        go_round
        case rel => exact ⟨3, by omega, rfl, rfl, congrArg (Value.int .u32) (by rw [HV1.out, HS.out]; omega)⟩
        case measure => simp [intOf]
      · go_wp2
        go_round
        case rel => exact ⟨4, by omega, rfl, rfl, congrArg (Value.int .u32) (by rw [HV1.out, HS.out]; omega)⟩
        case measure => simp [intOf]
    · obtain rfl : k = 4 := by omega
      go_wp2
      go_ret2
      exact ⟨rfl, rfl⟩

set_option maxHeartbeats 400000 in
theorem rput_not (h hr : Nat) (xs : List Int) (a x : Int) (w : World) (b : Rb w h hr xs) (ha : U a) (hf : ¬ a + 4 ≤ xs.length) :
    Calls Try.prog 48 #[(Value.pointer (some ⟨h, 0, none⟩)), .int .u32 a, .int .u32 x, .int .i64 4] w fun e w' => e = .returned (.int .i64 6) ∧ w = w' := by
  have C := Lib.hid (there_any h hr xs a 4 false w b ha (decide_eq_false hf))
  clear b hf
  go_enter Try.func48, Try.ntmps48
  go_wp2_with fail
  refine C.out.mono ?_
  rintro e w' ⟨rfl, rfl⟩
  go_wp2
  go_ret
  exact ⟨rfl, rfl⟩

set_option maxHeartbeats 1000000 in
theorem rput_ok (h hr : Nat) (xs : List Int) (a x : Int) (p : Nat) (w : World) (b : Rb w h hr xs) (hp : a = p) (hx : U x) (hf : p + 4 ≤ xs.length) :
    Calls Try.prog 48 #[(Value.pointer (some ⟨h, 0, none⟩)), .int .u32 a, .int .u32 x, .int .i64 4] w fun e w' => e = .returned (.int .i64 0) ∧ Rb w' h hr (splice xs p (Rm.low x 4)) ∧ Tl.Mods (fun k => k = hr) w w' := by
  have hl := b.len
  have C := Lib.hid (there_any h hr xs a 4 true w b ⟨by omega, by omega⟩ (decide_eq_true (by omega)))
  have HB := Lib.hid b
  have HX := Lib.hid hx
  subst hp
  clear b hx
  generalize hn : xs.length = n at *
  have HN := Lib.hid hn
  clear hn
  go_enter Try.func48, Try.ntmps48
  go_wp2_with fail
  refine C.out.mono ?_
  rintro e w' ⟨rfl, rfl⟩
  go_wp2
  go_loopw [2, 9] (fun y i W => ∃ k : Nat, k ≤ 4 ∧ i = .int .i64 k ∧ y = .int .u32 (x / 256 ^ k) ∧ Rb W h hr (splice xs p (Rm.low x k)) ∧ Tl.Mods (fun k => k = hr) w W) (fun _ i _ => 4 - (intOf i).toNat)
  case atStart => exact ⟨0, Nat.zero_le _, rfl, by simp, by rw [show Rm.low x 0 = [] from rfl, splice_nil]; exact HB.out, Tl.Mods.refl _ _⟩
  case round =>
    obtain ⟨k, hk, rfl, rfl, hR, hM⟩ := hrel
    have HR := Lib.hid hR
    have HM := Lib.hid hM
    clear hR hM
    by_cases hlt : k < 4
    · have hsl : (splice xs p (Rm.low x k)).length = n := by rw [length_splice _ _ _ (by rw [Rm.low_length, HN.out]; omega), HN.out]
      have hc := HR.out.cell
      rw [hsl] at hc
      have hcl := HR.out.byte (i := p + k) (by rw [hsl]; omega)
      have hfr := HR.out.free (p + k)
      have hy : U (x / 256 ^ k) := by
        have hp0 : (0 : Int) < 256 ^ k := Int.pow_pos (by omega)
        exact ⟨Int.ediv_nonneg HX.out.1 (by omega), Int.lt_of_le_of_lt (Int.ediv_le_self _ HX.out.1) HX.out.2⟩
      obtain ⟨y0, y1⟩ := hy
      have HS : Hid (Rb (wr.setCell ⟨hr, p + k, none⟩ (.int .u8 (x / 256 ^ k % 256))) h hr (splice xs p (Rm.low x (k + 1)))) := by
        have := HR.out.set (p + k) (x / 256 ^ k % 256) ⟨by omega, by omega⟩
        have e := splice_snoc xs (Rm.low x k) p (x / 256 ^ k % 256) (by rw [Rm.low_length, HN.out]; omega)
        rw [Rm.low_length] at e
        rw [e, ← low_succ] at this
        exact this
      have HD : Hid (x / 256 ^ (k + 1) = x / 256 ^ k / 256) := by
        show _ = _
        rw [Int.pow_succ, Int.ediv_ediv_of_nonneg (Int.pow_nonneg (by omega))]
      generalize x / 256 ^ k = y at *
      generalize (splice xs p (Rm.low x k)).getD (p + k) 0 = z at hcl
      clear hsl
      go_wp2
      go_roundw
      case rel => exact ⟨k + 1, by omega, by go_num, by rw [HD.out], by simpa using HS.out, HM.out.set _ (.inl rfl)⟩
      case measure => simp [intOf]; omega
    · obtain rfl : k = 4 := by omega
      go_wp2
      go_ret
      exact ⟨rfl, HR.out, HM.out⟩

set_option maxHeartbeats 1000000 in
theorem rload_whole (h hr n c : Nat) (A : Option Addr) (ys : List Int) (w : World) (b : Rb w h hr (List.replicate n 0)) (hi : In w A n c ys) (hA : ∀ ad, A = some ad → 0 < n → ad.block ≠ hr) (hn : n ≤ 8192) :
    Calls Try.prog 14 #[(Value.pointer (some ⟨h, 0, none⟩)), .int .u32 0, .slice A n c] w fun e w' => e = .returned (.int .i64 0) ∧ Rb w' h hr ys ∧ Tl.Mods (fun k => k = hr) w w' := by
  have C := Lib.hid (there_any h hr _ 0 n true w b ⟨by omega, by omega⟩ (decide_eq_true (by simp)))
  have HB := Lib.hid b
  have HI := Lib.hid hi
  have HA := Lib.hid hA
  clear b hi hA
  go_enter Try.func14, Try.ntmps14
  go_wp2_with fail
  refine C.out.mono ?_
  rintro e w' ⟨rfl, rfl⟩
  go_wp2
  go_loopw [17] (fun i W => ∃ k : Nat, k ≤ n ∧ i = .int .i64 k ∧ Rb W h hr (splice (List.replicate n 0) 0 (ys.take k)) ∧ Tl.Mods (fun k => k = hr) w W) (fun i _ => n - (intOf i).toNat)
  case atStart => exact ⟨0, Nat.zero_le _, rfl, by rw [List.take_zero, splice_nil]; exact HB.out, Tl.Mods.refl _ _⟩
  case round =>
    obtain ⟨k, hk, rfl, hR, hM⟩ := hrel
    have HR := Lib.hid hR
    have HM := Lib.hid hM
    clear hR hM
    by_cases hlt : k < n
    · have htl : (ys.take k).length = k := by rw [List.length_take, HI.out.len]; omega
      have hsl : (splice (List.replicate n 0) 0 (ys.take k)).length = n := by rw [length_splice _ _ _ (by rw [htl, List.length_replicate]; omega), List.length_replicate]
      have hc := HR.out.cell
      rw [hsl] at hc
      have hcl := HR.out.byte (i := k) (by rw [hsl]; omega)
      have hfr := HR.out.free k
      obtain ⟨ad, rfl, hal, hac⟩ := HI.out.src (by rw [HI.out.len]; omega)
      have hx : wr.cell? (ad.add k) = some (.int .u8 (ys.getD k 0)) := by
        have h1 := hac k _ (Rm.cel_get ys k (by rw [HI.out.len]; exact hlt))
        have e2 := HM.out.block ad.block hal (HA.out ad rfl (by omega))
        unfold World.cell? at h1 ⊢
        rw [Rm.block_add] at h1 ⊢
        rw [e2]; exact h1
      have hyb := HI.out.byt.at_ k
      have HS : Hid (Rb (wr.setCell ⟨hr, k, none⟩ (.int .u8 (ys.getD k 0))) h hr (splice (List.replicate n 0) 0 (ys.take (k + 1)))) := by
        have := HR.out.set k (ys.getD k 0) hyb
        have e := splice_snoc (List.replicate n 0) (ys.take k) 0 (ys.getD k 0) (by rw [htl, List.length_replicate]; omega)
        rw [htl, Nat.zero_add] at e
        rw [e] at this
        have e3 : ys.take (k + 1) = ys.take k ++ [ys.getD k 0] := by
          have hk2 : k < ys.length := by rw [HI.out.len]; exact hlt
          rw [List.take_succ_eq_append_getElem hk2]
          simp [List.getD, hk2]
        rw [e3]
        exact this
      generalize ys.getD k 0 = y at *
      generalize (splice (List.replicate n 0) 0 (ys.take k)).getD k 0 = z at hcl
      clear hsl htl hac
      go_wp2
      go_roundw
      case rel => exact ⟨k + 1, by omega, by go_num, by simpa using HS.out, HM.out.set _ (.inl rfl)⟩
      case measure => simp [intOf]; omega
    · obtain rfl : k = n := by omega
      go_wp2
      go_ret
      refine ⟨rfl, ?_, HM.out⟩
      have := HR.out
      rw [List.take_of_length_le (by rw [HI.out.len]; exact Nat.le_refl _), Rm.splice_all k ys HI.out.len] at this
      exact this

end Go.Proofs.Ytfpdemlcmfaieaa.Cs
