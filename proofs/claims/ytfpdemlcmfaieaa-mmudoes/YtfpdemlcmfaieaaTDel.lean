/- slices.Delete of one row. -/
import Derived.Test.YtfpdemlcmfaieaaTIdx
import Derived.Deep.RegionLaw
import Derived.Lib.SliceRun
namespace Go.Proofs.Ytfpdemlcmfaieaa.Tl
open Go.RowKit

theorem setCells_heap (b : Nat) (t : TypeId) : ∀ (vs : List Value) (o : Nat) (w : World) (cur : Array Value), w.heap[b]? = some (.cells cur t (0, 0)) → o + vs.length ≤ cur.size →
    ∃ cur', (w.setCells b o vs).heap[b]? = some (.cells cur' t (0, 0)) ∧ cur'.toList = cur.toList.take o ++ vs ++ cur.toList.drop (o + vs.length)
  | [], o, w, cur, h, _ => ⟨cur, h, by simp⟩
  | v :: vs, o, w, cur, h, hl => by
    simp only [List.length_cons] at hl
    obtain ⟨cur', h1, h2⟩ := setCells_heap b t vs (o + 1) (w.setCell ⟨b, o, none⟩ v) (cur.setIfInBounds o v) (heap_setCell_same w b o cur t v h) (by simp; omega)
    refine ⟨cur', h1, ?_⟩
    rw [h2, Array.toList_setIfInBounds]
    have ho : o < cur.toList.length := by simpa using (by omega : o < cur.size)
    rw [List.set_eq_take_append_cons_drop, if_pos ho]
    have hlen : (cur.toList.take o).length = o := by simp; omega
    rw [List.take_append, List.drop_append, hlen]
    simp only [List.length_cons, List.take_take, List.drop_take]
    rw [show min (o + 1) o = o by omega, show o + 1 - o = 1 by omega, show o - (o + 1 + vs.length) = 0 by omega, show o + 1 + vs.length - o = vs.length + 1 by omega]
    simp [List.drop_drop, show o + 1 + vs.length = o + (vs.length + 1) by omega]

theorem mods_setCells {S : Nat → Prop} {a : World} (b : Nat) (hb : S b) : ∀ (vs : List Value) (o : Nat) (w : World), Mods S a w → Mods S a (w.setCells b o vs)
  | [], _, _, h => h
  | v :: vs, o, w, h => mods_setCells b hb vs (o + 1) (w.setCell ⟨b, o, none⟩ v) (h.set v (.inl hb))

set_option maxHeartbeats 4000000 in
set_option maxRecDepth 1000000 in
theorem del_any (r n cap i j : Nat) (xs : Rows) (w : World) (h : R2 w (.slice (some ⟨r, 0, none⟩) n cap) xs) (hn : xs.length = n) (hi : i < n) (hj : j = i + 1) (hn8 : n ≤ 8) :
    Calls Try.prog 63 #[.slice (some ⟨r, 0, none⟩) n cap, .int .i64 i, .int .i64 j] w fun e w' => e = .returned (.slice (some ⟨r, 0, none⟩) (n - 1) cap) ∧
      R2 w' (.slice (some ⟨r, 0, none⟩) (n - 1) cap) (xs.eraseIdx i) ∧ Mods (fun k => k = r) w w' := by
  obtain ⟨hcl, hnil | ⟨r', cap', cur, hv, hb, hh, hcap, hm, hs, ht⟩⟩ := h
  · cases hnil.1
  injection hv with e1 e2 e3
  injection e1 with e1
  injection e1 with e1
  subst e1 e3
  rw [hn] at hcap ht
  obtain ⟨i0, hi0, hz0, hz1, hz2⟩ := info_parts row_info
  have hcell : ∀ t u, (c2 xs)[t]? = some u → w.cell? ⟨r, t, none⟩ = some u := fun t u hu => by
    rw [cell_of_row w r t _ _ _ hh]
    rw [← ht, List.getElem?_take] at hu
    split at hu
    · simpa using hu
    · cases hu
  have hthere : ∀ t, t < cap * 2 → (w.cell? ⟨r, t, none⟩).isSome = true := fun t ht' => by
    rw [cell_of_row w r t _ _ _ hh, Array.getElem?_eq_getElem (by omega)]; rfl
  have hfree : ∀ t, w.frozen? ⟨r, t, none⟩ = false := fun t => frozen_of_row w r t _ _ hh
  obtain ⟨news, hnews⟩ : ∃ news, news = c2 (xs.drop j) := ⟨_, rfl⟩
  have hlen : news.length = (n - j) * 2 := by rw [hnews, c2_length, List.length_drop, hn]
  obtain ⟨A, hA, hsrc⟩ : ∃ A : Addr, (if cap = j then some (⟨r, 0, none⟩ : Addr) else some ⟨r, j * 2, none⟩) = some A ∧ Hid (∀ t u, news[t]? = some u → w.drew.cell? (A.add t) = some u) := by
    by_cases h : cap = j
    · refine ⟨⟨r, 0, none⟩, by simp [h], fun t u hu => ?_⟩
      have h0 : news.length = 0 := by rw [hlen]; omega
      rw [List.length_eq_zero_iff.1 h0] at hu
      simp at hu
    · refine ⟨⟨r, j * 2, none⟩, by simp [h], fun t u hu => ?_⟩
      rw [hnews, c2_drop, List.getElem?_drop] at hu
      rw [Addr.add_lit]
      exact hcell _ _ hu
  have s1 : Hid (news.length = (n - j) * 2) := hlen
  have s2 : Hid (∀ u ∈ news, u.oneCell' = true) := by rw [hnews]; exact c2_one _
  have s3 : Hid (∀ t, t < news.length → (w.drew.cell? ⟨r, 0 + i * 2 + t, none⟩).isSome = true ∧ w.drew.frozen? ⟨r, 0 + i * 2 + t, none⟩ = false) := by
    intro t ht
    rw [hlen] at ht
    exact ⟨hthere _ (by omega), hfree _⟩
  obtain ⟨W1, hW1⟩ : ∃ W1, W1 = w.drew.setCells r (0 + i * 2) news := ⟨_, rfl⟩
  obtain ⟨cur1, hh1, hc1⟩ : ∃ cur1, W1.heap[r]? = some (.cells cur1 113 (0, 0)) ∧ cur1.toList = cur.toList.take (i * 2) ++ news ++ cur.toList.drop (i * 2 + news.length) := by
    rw [hW1, Nat.zero_add]
    exact setCells_heap r _ news (i * 2) w.drew cur hh (by omega)
  have hsz1 : cur1.size = cap * 2 := by
    rw [← Array.length_toList, hc1]
    simp only [List.length_append, List.length_take, List.length_drop, Array.length_toList]
    omega
  have hM1 : Mods (fun k => k = r) w W1 := by rw [hW1]; exact mods_setCells (S := fun k => k = r) r rfl _ _ _ (Mods.refl _ w).drew
  have hclr : ∀ ty, (Builtin.clear_ #[103] ty #[.slice (some ⟨r, (i + (n - j)) * 2, none⟩) (n - (i + (n - j))) (cap - (i + (n - j)))]).run Try.prog W1 = .ok (.tuple #[]) (W1.setCells r ((i + (n - j)) * 2) [.int .u32 0, .int .u32 0]) := fun ty => by
    have hst := run_storeCells_cells (P := Try.prog) r ((i + (n - j)) * 2) [.int .u32 0, .int .u32 0] 0 W1
      (fun t ht => by simp only [List.length_cons, List.length_nil] at ht; rw [cell_of_row W1 r _ _ _ _ hh1, Array.getElem?_eq_getElem (by omega)]; rfl)
      (fun t _ => frozen_of_row W1 r _ _ _ hh1) (by intro v hv; simp at hv; subst hv; rfl)
    simp only [Nat.add_zero] at hst
    have h1 : n - (i + (n - j)) = 1 := by omega
    have hzc : (Builtin.zeroCells (Value.agg #[.int .u32 0, .int .u32 0]).cells 1).toList = [.int .u32 0, .int .u32 0] := by simp [Builtin.zeroCells, Value.cells]; rfl
    rw [h1]
    simp [Builtin.clear_, run_underlying under_rows, hzc, hst]
  obtain ⟨W2, hW2⟩ : ∃ W2, W2 = W1.setCells r ((i + (n - j)) * 2) [.int .u32 0, .int .u32 0] := ⟨_, rfl⟩
  rw [← hW2] at hclr
  have hM2 : Mods (fun k => k = r) w W2 := by rw [hW2]; exact mods_setCells (S := fun k => k = r) r rfl _ _ _ hM1
  have hR : R2 W2 (.slice (some ⟨r, 0, none⟩) (n - 1) cap) (xs.eraseIdx i) := by
    obtain ⟨cur2, hh2, hc2⟩ := setCells_heap r _ [.int .u32 0, .int .u32 0] ((i + (n - j)) * 2) W1 cur1 hh1 (by simp only [List.length_cons, List.length_nil]; omega)
    rw [← hW2] at hh2
    have hlx : (xs.eraseIdx i).length = n - 1 := by rw [List.length_eraseIdx, if_pos (by omega)]; omega
    refine ⟨by rw [c2_length], .inr ⟨r, cap, cur2, by rw [hlx], Nat.zero_le _, hh2, by omega, hm, ?_, ?_⟩⟩
    · rw [← Array.length_toList, hc2]
      simp only [List.length_append, List.length_take, List.length_drop, Array.length_toList, List.length_cons, List.length_nil]
      omega
    · have hpre : cur.toList.take (i * 2) = c2 (xs.take i) := by
        rw [c2_take, ← ht, List.take_take, show min (i * 2) (n * 2) = i * 2 by omega]
      rw [hlx, hc2, hc1, hpre, hnews, hj, List.eraseIdx_eq_take_drop_succ, c2_app]
      rw [hnews, hj] at hlen
      have hl2 : (c2 (xs.take i)).length = i * 2 := by rw [c2_length, List.length_take, hn]; omega
      have hl3 : (c2 (xs.take i) ++ c2 (xs.drop (i + 1))).length = (n - 1) * 2 := by rw [List.length_append, hl2, hlen]; omega
      rw [show (i + (n - (i + 1))) * 2 = (n - 1) * 2 by omega]
      generalize c2 (xs.take i) ++ c2 (xs.drop (i + 1)) = l at hl3 ⊢
      rw [List.append_assoc, List.take_append_of_le_length (by simp; omega), List.take_take, Nat.min_self, List.take_append_of_le_length (by omega), List.take_of_length_le (by omega)]
  have HR := Lib.hid hR
  have HM := Lib.hid hM2
  have hW : Hid (W1 = w.drew.setCells r (0 + i * 2) news) := hW1
  have hic : i ≤ cap := by omega
  have hjc : j ≤ cap := by omega
  have hij : i < j := by omega
  have hjn : j ≤ n := by omega
  have HE : Hid (i + (n - j) = n - 1) := by show _ = _; omega
  have hm' : cap ≤ 9223372036854775807 := by simpa [maxLen] using hm
  clear hW1 hh1 hc1 hsz1 hM1 hW2 hM2 hR hlen hnews hthere hfree hcell ht hs hh hcl hj hn hm e2 hb
  go_enter Try.func63, Try.ntmps63
  go_wp2_with fail
  go_region_law (refine step_append_room rfl (.tmp 22) (.tmp 25) 103 rfl 113 i0 2 under_rows hi0 hz1 r 0 i cap (by simp [Act.eval, Act.put]) A (n - j) (cap - j) news (by simp [Act.eval, Act.put]) s1.out hsrc.out s2.out (by omega) s3.out ?_; rw [← hW.out])
  go_wp2
  go_ret
  refine ⟨?_, HR.out, HM.out⟩
  rw [← HE.out]; rfl

end Go.Proofs.Ytfpdemlcmfaieaa.Tl
