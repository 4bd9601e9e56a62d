/- Contracts of the document's buffer. -/
import Derived.Test.YtfpdemlcmfaieaaTPages
namespace Go.Proofs.Ytfpdemlcmfaieaa.Tl
open Go.RowKit

theorem pages_getD (xs : Rows) (k : Nat) : (pages xs).getD k 0 = (row xs k).1 := by
  by_cases h : k < xs.length
  · simp [pages, row, List.getD, h]
  · simp [pages, row, List.getD, List.getElem?_eq_none (by omega : xs.length ≤ k)]
theorem ents_getD (xs : Rows) (k : Nat) : (xs.map Prod.snd).getD k 0 = (row xs k).2 := by
  by_cases h : k < xs.length
  · simp [row, List.getD, h]
  · simp [row, List.getD, List.getElem?_eq_none (by omega : xs.length ≤ k)]

/-- The slice and its cells. -/
theorem R1.open_ {w : World} {v : Value} {ys : List Int} (h : R1 w v ys) : ∃ A c, v = .slice A ys.length c ∧ Hid (∀ j, j < ys.length → ∃ r, A = some ⟨r, 0, none⟩ ∧ r < w.heap.size ∧ w.cell? ⟨r, j, none⟩ = some (.int .u32 (ys.getD j 0))) ∧ ys.length ≤ c ∧ c ≤ 9223372036854775807 := by
  rcases own_shape h with ⟨rfl, h0⟩ | ⟨r, cap, rfl, hc, hm, hrl, hcs, _⟩
  · exact ⟨none, 0, by rw [h0], fun j hj => by omega, by omega, by omega⟩
  · exact ⟨_, cap, rfl, fun j hj => ⟨r, rfl, hrl, hcs j _ (c1_get ys j hj)⟩, hc, hm⟩

/-- What the document's buffer looks like. -/
theorem Rf.open_ {w : World} {g : Nat} {S : Nat → Prop} {xs : Rows} (h : Rf w g S xs) : ∃ A c B d, w.heap[g]? = some (.cells #[.slice A xs.length c, .slice B xs.length d] 62 (0, 0)) ∧
    w.cell? ⟨g, 0, none⟩ = some (.slice A xs.length c) ∧ w.cell? ⟨g, 1, none⟩ = some (.slice B xs.length d) ∧ R1 w (.slice A xs.length c) (pages xs) ∧ R1 w (.slice B xs.length d) (xs.map Prod.snd) ∧
    Apart (Bl (.slice A xs.length c)) (Bl (.slice B xs.length d)) ∧ (∀ k, S k ↔ (k = g ∨ Bl (.slice A xs.length c) k ∨ Bl (.slice B xs.length d) k)) ∧
    Hid (∀ j, j < xs.length → ∃ r, A = some ⟨r, 0, none⟩ ∧ r < w.heap.size ∧ w.cell? ⟨r, j, none⟩ = some (.int .u32 (row xs j).1)) ∧
    Hid (∀ j, j < xs.length → ∃ r, B = some ⟨r, 0, none⟩ ∧ r < w.heap.size ∧ w.cell? ⟨r, j, none⟩ = some (.int .u32 (row xs j).2)) ∧ xs.length ≤ c ∧ c ≤ 9223372036854775807 ∧ xs.length ≤ d ∧ d ≤ 9223372036854775807 := by
  obtain ⟨v, u, hb, hv, hu, ha, hS⟩ := h.ex
  obtain ⟨A, c, rfl, hA, hc, hm⟩ := hv.open_
  obtain ⟨B, d, rfl, hB, hd, hm'⟩ := hu.open_
  rw [pages_length] at hb hv ha hS hA hc
  rw [List.length_map] at hb hu ha hS hB hd
  have c0 : w.cell? ⟨g, 0, none⟩ = some (.slice A xs.length c) := by rw [cell_of_row w g 0 _ _ _ hb]; rfl
  have c1 : w.cell? ⟨g, 1, none⟩ = some (.slice B xs.length d) := by rw [cell_of_row w g 1 _ _ _ hb]; rfl
  refine ⟨A, c, B, d, hb, c0, c1, hv, hu, ha, hS, fun j hj => ?_, fun j hj => ?_, hc, hm, hd, hm'⟩
  · have := hA.out j hj
    rw [pages_getD] at this
    exact this
  · have := hB.out j hj
    rw [ents_getD] at this
    exact this

set_option maxHeartbeats 400000 in
theorem rat_any (g : Nat) (S : Nat → Prop) (xs : Rows) (p : Int) (w : World) (h : Rf w g S xs) (hl : xs.length ≤ 8) :
    Calls Try.prog 69 #[.pointer (some ⟨g, 0, none⟩), .int .u32 p] w fun e w' => e = .returned (.int .i64 (plc xs p)) ∧ w = w' := by
  obtain ⟨A, c, B, d, _, hc, _, _, _, _, _, HA, _, hcc, hcm, _, _⟩ := h.open_
  generalize hn : xs.length = n at hl hc HA hcc
  have HN := Lib.hid hn
  clear h hn
  go_enter Try.func69, Try.ntmps69
  go_wp2
  go_loop [12] (fun i => ∃ k : Nat, k ≤ n ∧ i = .int .i64 k ∧ k ≤ pos xs p) (fun i => n - (intOf i).toNat)
  case atStart => exact ⟨0, Nat.zero_le _, rfl, Nat.zero_le _⟩
  case round =>
    obtain ⟨k, hk, rfl, hpk⟩ := hrel
    have HK := Lib.hid hpk
    clear hpk
    by_cases hlt : k < n
    · obtain ⟨r, rfl, hrl, hx⟩ := HA.out k hlt
      by_cases he : (row xs k).1 = p
      · have HE := Lib.hid (pos_hit HK.out (by rw [HN.out]; exact hlt) he)
        rw [he] at hx
        clear he
        go_wp2
        go_ret
        refine ⟨?_, rfl⟩
        rw [plc_in (by rw [HE.out, HN.out]; exact hlt), HE.out]; rfl
      · have HE := Lib.hid (pos_miss HK.out (by rw [HN.out]; exact hlt) he)
        have he' : ((row xs k).1 == p) = false := by simpa using he
        generalize (row xs k).1 = q at hx he he'
        go_wp2
        go_round
        case rel => exact ⟨k + 1, by omega, by go_num, HE.out⟩
        case measure => simp [intOf]; omega
    · go_wp2
      go_ret
      refine ⟨?_, rfl⟩
      rw [plc_out (by rw [HN.out]; have := HK.out; omega)]; rfl
theorem rat_as (g : Nat) (S : Nat → Prop) (xs : Rows) (p k : Int) (w : World) (h : Rf w g S xs) (hl : xs.length ≤ 8) (hk : plc xs p = k) :
    Calls Try.prog 69 #[.pointer (some ⟨g, 0, none⟩), .int .u32 p] w fun e w' => e = .returned (.int .i64 k) ∧ w = w' := by
  subst hk
  exact rat_any g S xs p w h hl

set_option maxHeartbeats 400000 in
theorem rget_any (g : Nat) (S : Nat → Prop) (xs : Rows) (p : Int) (w : World) (h : Rf w g S xs) (hl : xs.length ≤ 8) :
    Calls Try.prog 57 #[.pointer (some ⟨g, 0, none⟩), .int .u32 p] w fun e w' => e = .returned (.tuple #[.int .u32 (ent xs p), .bool (hav xs p)]) ∧ w = w' := by
  have HL := Lib.hid hl
  by_cases hp : pos xs p < xs.length
  · obtain ⟨A, c, B, d, _, _, hc, _, _, _, _, _, HB, _, _, hdc, hdm⟩ := h.open_
    have H := Lib.hid h
    have HK := Lib.hid (plc_in hp)
    have HE : Hid (hav xs p = true) := decide_eq_true hp
    obtain ⟨r, rfl, hrl, hx⟩ := HB.out _ hp
    change w.cell? _ = some (.int .u32 (ent xs p)) at hx
    generalize ent xs p = x at hx ⊢
    generalize hk : pos xs p = k at hp hx HK
    generalize hn : xs.length = n at hp hc hl hdc
    clear HB h hk hn
    go_enter Try.func57, Try.ntmps57
    go_wp2_with fail
    refine (rat_as g S xs p k _ H.out HL.out HK.out).mono ?_
    rintro e w' ⟨rfl, rfl⟩
    go_wp2
    go_ret2
    exact ⟨by rw [HE.out]; rfl, rfl⟩
  · have H := Lib.hid h
    have HK := Lib.hid (plc_out hp)
    have HE : Hid (hav xs p = false) := decide_eq_false hp
    have HX := Lib.hid (ent_out hp)
    clear h hp hl
    go_enter Try.func57, Try.ntmps57
    go_wp2_with fail
    refine (rat_as g S xs p (-1) _ H.out HL.out HK.out).mono ?_
    rintro e w1 ⟨rfl, rfl⟩
    go_wp2
    go_ret2
    exact ⟨by rw [HE.out, HX.out]; rfl, rfl⟩

/-- Both fields are stored anew. -/
theorem rf_store {w w2 : World} {g : Nat} {u0 u1 v0 v1 : Value} {S : Nat → Prop} {ys : Rows} (hb : w2.heap[g]? = some (.cells #[u0, u1] 62 (0, 0))) (hr : R1 w2 v0 (pages ys)) (hr' : R1 w2 v1 (ys.map Prod.snd)) (ha : Apart (Bl v0) (Bl v1))
    (h0 : ¬ Bl v0 g) (h1 : ¬ Bl v1 g) (hS : ∀ k, Bl v0 k ∨ Bl v1 k → S k ∨ w.heap.size ≤ k) (hm : Mods S w w2) (hg : S g) :
    ∃ S', Rf ((w2.setCell ⟨g, 0, none⟩ v0).setCell ⟨g, 1, none⟩ v1) g S' ys ∧ Step S S' w ((w2.setCell ⟨g, 0, none⟩ v0).setCell ⟨g, 1, none⟩ v1) := by
  have k0 : ∀ i, i ≠ g → ((w2.setCell ⟨g, 0, none⟩ v0).setCell ⟨g, 1, none⟩ v1).heap[i]? = w2.heap[i]? := fun i hi => by
    rw [Below.heap_setCell _ _ _ _ hi, Below.heap_setCell _ _ _ _ hi]
  refine ⟨fun k => k = g ∨ Bl v0 k ∨ Bl v1 k, ⟨⟨v0, v1, heap_setCell_same _ g 1 _ _ v1 (heap_setCell_same w2 g 0 _ _ v0 hb), own_keep hr (fun i hi => k0 i ?_), own_keep hr' (fun i hi => k0 i ?_), ha, fun k => Iff.rfl⟩⟩, (hm.set _ (.inl hg)).set _ (.inl hg), fun k hk => ?_⟩
  · rintro rfl; exact h0 hi
  · rintro rfl; exact h1 hi
  · rcases hk with rfl | hk
    · exact .inl hg
    · exact hS k hk

set_option maxHeartbeats 400000 in
theorem rclear_any (g : Nat) (S : Nat → Prop) (xs : Rows) (w : World) (h : Rf w g S xs) :
    Calls Try.prog 46 #[.pointer (some ⟨g, 0, none⟩)] w fun e w' => e = .returned (.tuple #[]) ∧ ∃ S', Rf w' g S' [] ∧ Step S S' w w' := by
  obtain ⟨v, u, hb, _, _, _, _⟩ := h.ex
  have hc : w.cell? ⟨g, 0, none⟩ = some v := by rw [cell_of_row w g 0 _ _ _ hb]; rfl
  have hc' : w.cell? ⟨g, 1, none⟩ = some u := by rw [cell_of_row w g 1 _ _ _ hb]; rfl
  have hf := frozen_of_row w g 0 _ _ hb
  have hf' := frozen_of_row w g 1 _ _ hb
  have HE := Lib.hid (rf_store (w := w) (v0 := .slice none 0 0) (v1 := .slice none 0 0) (ys := []) hb ⟨by simp [c1, pages], .inl ⟨rfl, rfl⟩⟩ ⟨by simp [c1], .inl ⟨rfl, rfl⟩⟩ (fun k hk => by simp [Bl, Value.ownBlock] at hk) (by simp [Bl, Value.ownBlock]) (by simp [Bl, Value.ownBlock]) (fun k hk => by simp [Bl, Value.ownBlock] at hk) (Mods.refl S w) h.in_)
  clear hb h
  go_enter Try.func46, Try.ntmps46
  go_wp2
  first | go_end0 | (refine bodyPost_ret (results_none rfl _ _ _) rfl ?_)
  exact ⟨rfl, HE.out⟩

end Go.Proofs.Ytfpdemlcmfaieaa.Tl
