/- Contracts of package ram: Load, Bytes, Copy. -/
import Derived.Test.YtfpdemlcmfaieaaRam2
namespace Go.Proofs.Ytfpdemlcmfaieaa.Rm
open Go.RowKit

theorem grown_setRow (w : World) (g : Nat) (cs : Array Value) : w.grownBy (w.setRow g cs) (some g) :=
  ⟨rfl, rfl, rfl, by simp [World.setRow], fun k _ hne => setRow_other w g k cs (by simpa using hne)⟩

/-- copy onto a row of bytes that is known whole: what becomes of it, and nothing else turns. -/
theorem run_copy_b (w : World) (dp sp : Option Addr) (dl dc sl sc : Nat) (r off : Nat) (cur cs : List Int) (hr : w.heap[r]? = some (.cells (cel cur).toArray 5 (0, 0))) (hn : cs.length = Nat.min sl dl)
    (hpos : 0 < cs.length → dp = some ⟨r, off, none⟩ ∧ ∃ ad, sp = some ad ∧ ∀ j v, (cel cs)[j]? = some v → w.cell? (ad.add j) = some v) (hfit : off + cs.length ≤ cur.length) :
    ∃ w', (Builtin.copy_ #[22, 22] 3 #[.slice dp dl dc, .slice sp sl sc]).run Try.prog w = .ok (goInt cs.length) w' ∧
      Hid (w'.heap[r]? = some (.cells (cel (splice cur off cs)).toArray 5 (0, 0))) ∧ Hid (w.grownBy w' (some r)) := by
  by_cases h0 : cs.length = 0
  · obtain rfl : cs = [] := List.eq_nil_of_length_eq_zero h0
    refine ⟨w, run_copy_none (P := Try.prog) w _ _ _ _ dp sp dl dc sl sc under_slice u8_size (by simpa using hn.symm), ?_, World.grownBy.refl w _⟩
    show _ = _
    simpa [splice] using hr
  · obtain ⟨rfl, ad, rfl, hsrc⟩ := hpos (by omega)
    have hrun := run_copy_row (P := Try.prog) w 22 22 3 _ r off dl dc ad sl sc _ _ (cel cs) under_slice u8_size hr (by rw [cel_length]; exact hn) hsrc (by simpa [cel_length] using hfit) (cel_one cs)
    rw [cel_length] at hrun
    refine ⟨_, hrun, ?_, grown_setRow w r _⟩
    show _ = _
    have := setRow_heap w r _ ((cel cur).take off ++ cel cs ++ (cel cur).drop (off + cs.length)).toArray _ _ hr
    rw [← cel_splice]
    simpa [splice, cel_length] using this

theorem mem_after {w w' : World} {g r : Nat} {xs ys : List Int} {a : Nat} (h : Mem w g r xs) (hby : Byt ys) (hf : a + ys.length ≤ xs.length)
    (hrow : w'.heap[r]? = some (.cells (cel (splice xs a ys)).toArray 5 (0, 0))) (hg : w.grownBy w' (some r)) : Mem w' g r (splice xs a ys) := by
  have hl := length_splice xs a ys hf
  refine ⟨?_, hrow, h.byt.splice hby a, by rw [hl]; exact h.len⟩
  rw [hl, hg.block g h.glt (by simpa using h.ne)]
  exact h.box

set_option maxHeartbeats 400000 in
theorem load_ok (g r : Nat) (xs ys : List Int) (a m c : Nat) (A : Option Addr) (w : World) (h : Mem w g r xs) (hs : Src w A ys) (hm : ys.length = m) (hby : Byt ys) (hf : a + m ≤ xs.length) :
    Calls Try.prog 13 #[.pointer (some ⟨g, 0, none⟩), .int .u32 a, .slice A m c] w fun e w' => e = .returned (.int .i64 0) ∧ Mem w' g r (splice xs a ys) ∧ w.grownBy w' (some r) := by
  have C := Lib.hid (has_ok g r xs a m w h (by omega) (by omega) (by omega))
  have hc := h.cell
  have hl := h.len
  have H := Lib.hid h
  by_cases he : xs.length = a
  · obtain ⟨w1, hrun, h1, h2⟩ := run_copy_b w (some ⟨r, 0, none⟩) A 0 0 m c r a xs ys h.row (by rw [hm]; simp; omega) (fun h0 => by omega) (by omega)
    have HE := Lib.hid (mem_after h hby (by omega) h1.out h2.out)
    subst he
    clear hm hs h
    go_enter Try.func13, Try.ntmps13
    go_wp2_with fail
    refine C.out.mono ?_
    rintro e w' ⟨rfl, rfl⟩
    go_wp2
    go_ret
    exact ⟨rfl, HE.out, h2.out⟩
  · obtain ⟨w1, hrun, h1, h2⟩ := run_copy_b w (some ⟨r, a, none⟩) A (xs.length - a) (xs.length - a) m c r a xs ys h.row (by rw [hm]; simp [Nat.min_def]; omega)
      (fun h0 => by obtain ⟨ad, e, _, hc⟩ := hs h0; exact ⟨rfl, ad, e, hc⟩) (by omega)
    have HE := Lib.hid (mem_after h hby (by omega) h1.out h2.out)
    clear hm hs h
    go_enter Try.func13, Try.ntmps13
    go_wp2_with fail
    refine C.out.mono ?_
    rintro e w' ⟨rfl, rfl⟩
    go_wp2
    go_ret
    exact ⟨rfl, HE.out, h2.out⟩

set_option maxHeartbeats 400000 in
theorem load_not (g r : Nat) (xs : List Int) (a : Int) (m c : Nat) (A : Option Addr) (w : World) (h : Mem w g r xs) (ha : 0 ≤ a) (ha' : a < 4294967296) (hf : ¬ (a + m ≤ xs.length)) :
    Calls Try.prog 13 #[.pointer (some ⟨g, 0, none⟩), .int .u32 a, .slice A m c] w fun e w' => e = .returned (.int .i64 6) ∧ w = w' := by
  have C := Lib.hid (has_not g r xs a m w h ha ha' (by omega))
  clear h hf
  go_enter Try.func13, Try.ntmps13
  go_wp2_with fail
  refine C.out.mono ?_
  rintro e w' ⟨rfl, rfl⟩
  go_wp2
  go_ret
  exact ⟨rfl, rfl⟩

/-- Bytes in new memory. -/
def NewBytes (w : World) (ys : List Int) (e : Ending) (w' : World) : Prop :=
  ∃ b, e = .returned (.tuple #[.slice (some ⟨b, 0, none⟩) ys.length ys.length, .int .i64 0]) ∧ w.heap.size ≤ b ∧ w'.heap[b]? = some (.cells (cel ys).toArray 5 (0, 0)) ∧ Below w.heap.size w w'

theorem splice_all (n : Nat) (ys : List Int) (h : ys.length = n) : splice (List.replicate n 0) 0 ys = ys := by
  subst h; simp [splice]

set_option maxHeartbeats 400000 in
theorem bytes_ok (g r : Nat) (xs : List Int) (a n : Nat) (w : World) (h : Mem w g r xs) (hf : a + n ≤ xs.length) :
    Calls Try.prog 30 #[.pointer (some ⟨g, 0, none⟩), .int .u32 a, .int .i64 n] w (NewBytes w ((xs.drop a).take n)) := by
  have C := Lib.hid (has_ok g r xs a n w h (by omega) (by omega) (by omega))
  have hc := h.cell
  have hl := h.len
  have hmk := fun W => run_make_bytes n (by omega) W
  obtain ⟨ys, hys⟩ : ∃ ys, (xs.drop a).take n = ys := ⟨_, rfl⟩
  have hyl : ys.length = n := by rw [← hys]; simp; omega
  have hgl := h.glt
  have hrl := h.rlt
  rw [hys]
  have hnew := heap_new w (.cells (cel (List.replicate n 0)).toArray 5)
  by_cases he : xs.length = a
  · obtain ⟨w1, hrun, h1, h2⟩ := run_copy_b (w.alloc (.cells (cel (List.replicate n 0)).toArray 5)) (some ⟨w.heap.size, 0, none⟩) (some ⟨r, 0, none⟩) n n 0 0 w.heap.size 0 _ ys hnew (by rw [hyl]; simp; omega) (fun h0 => by omega) (by simp [hyl])
    have HE : Hid (NewBytes w ys (.returned (.tuple #[.slice (some ⟨w.heap.size, 0, none⟩) n n, .int .i64 0])) w1) := by
      have h1' := h1.out
      rw [splice_all n ys hyl] at h1'
      refine ⟨_, by rw [hyl], Nat.le_refl _, h1', ?_⟩
      exact below_of_grown ((Below.refl _ _).alloc (Nat.le_refl _) _) h2.out (by simp) (Nat.le_refl _)
    subst he
    clear hyl hys h hnew
    go_enter Try.func30, Try.ntmps30
    go_wp2_with fail
    refine C.out.mono ?_
    rintro e w' ⟨rfl, rfl⟩
    go_wp2
    go_ret2
    exact HE.out
  · obtain ⟨w1, hrun, h1, h2⟩ := run_copy_b (w.alloc (.cells (cel (List.replicate n 0)).toArray 5)) (some ⟨w.heap.size, 0, none⟩) (some ⟨r, a, none⟩) n n (xs.length - a) (xs.length - a) w.heap.size 0 _ ys hnew (by rw [hyl]; simp [Nat.min_def]; omega)
      (fun h0 => ⟨rfl, _, rfl, fun j v hv => by
        have hadd : (⟨r, a, none⟩ : Addr).add j = ⟨r, a + j, none⟩ := by unfold Addr.add; split <;> simp_all
        have hj : j < n := by
          have := (List.getElem?_eq_some_iff.1 hv).1
          rw [cel_length] at this; omega
        rw [hadd, World.cell?_alloc_lt w _ _ hrl, h.byte (by omega), ← hv, cel_get ys j (by omega), ← hys]
        simp [List.getD, hj]⟩) (by simp [hyl])
    have HE : Hid (NewBytes w ys (.returned (.tuple #[.slice (some ⟨w.heap.size, 0, none⟩) n n, .int .i64 0])) w1) := by
      have h1' := h1.out
      rw [splice_all n ys hyl] at h1'
      refine ⟨_, by rw [hyl], Nat.le_refl _, h1', ?_⟩
      exact below_of_grown ((Below.refl _ _).alloc (Nat.le_refl _) _) h2.out (by simp) (Nat.le_refl _)
    clear hyl hys h hnew
    go_enter Try.func30, Try.ntmps30
    go_wp2_with fail
    refine C.out.mono ?_
    rintro e w' ⟨rfl, rfl⟩
    go_wp2
    go_ret2
    exact HE.out

set_option maxHeartbeats 400000 in
theorem bytes_not (g r : Nat) (xs : List Int) (a n : Int) (w : World) (h : Mem w g r xs) (ha : 0 ≤ a) (ha' : a < 4294967296) (hf : ¬ (0 ≤ n ∧ a + n ≤ xs.length)) :
    Calls Try.prog 30 #[.pointer (some ⟨g, 0, none⟩), .int .u32 a, .int .i64 n] w fun e w' => e = .returned (.tuple #[.slice none 0 0, .int .i64 6]) ∧ w = w' := by
  have C := Lib.hid (has_not g r xs a n w h ha ha' hf)
  clear h hf
  go_enter Try.func30, Try.ntmps30
  go_wp2_with fail
  refine C.out.mono ?_
  rintro e w' ⟨rfl, rfl⟩
  go_wp2
  go_ret2
  exact ⟨rfl, rfl⟩

end Go.Proofs.Ytfpdemlcmfaieaa.Rm
