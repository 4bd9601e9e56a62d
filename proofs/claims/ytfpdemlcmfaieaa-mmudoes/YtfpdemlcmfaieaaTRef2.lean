/- Contracts of the document's buffer: Drop, Put; Same. -/
import Derived.Test.YtfpdemlcmfaieaaTRef
namespace Go.Proofs.Ytfpdemlcmfaieaa.Tl
open Go.RowKit

/-- The rows ahead of place k that aren't of page p. -/
def kept (xs : Rows) (p : Int) (k : Nat) : Rows := (xs.take k).filter fun r => decide (r.1 ≠ p)
theorem kept_zero (xs : Rows) (p : Int) : kept xs p 0 = [] := by simp [kept]
theorem kept_all (xs : Rows) (p : Int) (k : Nat) (h : xs.length ≤ k) : kept xs p k = xs.filter fun r => decide (r.1 ≠ p) := by rw [kept, List.take_of_length_le h]
theorem kept_le (xs : Rows) (p : Int) (k : Nat) : (kept xs p k).length ≤ xs.length :=
  Nat.le_trans (List.length_filter_le _ _) (by rw [List.length_take]; omega)
theorem take_row (xs : Rows) (k : Nat) (h : k < xs.length) : xs.take (k + 1) = xs.take k ++ [row xs k] := by
  rw [List.take_add_one]
  simp [row, List.getD, h]
theorem kept_hit (xs : Rows) (p : Int) (k : Nat) (h : k < xs.length) (e : (row xs k).1 = p) : kept xs p (k + 1) = kept xs p k := by
  rw [kept, take_row xs k h, List.filter_append, List.filter_cons_of_neg (by simp [e])]
  simp [kept]
theorem kept_miss (xs : Rows) (p : Int) (k : Nat) (h : k < xs.length) (e : (row xs k).1 ≠ p) : kept xs p (k + 1) = kept xs p k ++ [row xs k] := by
  rw [kept, take_row xs k h, List.filter_append, List.filter_cons_of_pos (by simp [e])]
  simp [kept]

/-- Two rows that the call makes. -/
structure Dr (w : World) (ys : Rows) (v u : Value) (wr : World) : Prop where
  sv : ∃ A c, v = .slice A ys.length c
  su : ∃ A c, u = .slice A ys.length c
  rv : R1 wr v (pages ys)
  ru : R1 wr u (ys.map Prod.snd)
  av : Ab w.heap.size (Bl v)
  au : Ab w.heap.size (Bl u)
  ap : Apart (Bl v) (Bl u)
  bel : Below w.heap.size w wr
theorem bl_nil : ∀ k, ¬ Bl (.slice none 0 0) k := fun k hk => by simp [Bl, Value.ownBlock] at hk
theorem R1.nil (w : World) : R1 w (.slice none 0 0) [] := ⟨by simp [c1], .inl ⟨rfl, rfl⟩⟩
theorem Dr.nil (w : World) : Dr w [] (.slice none 0 0) (.slice none 0 0) w :=
  ⟨⟨_, _, rfl⟩, ⟨_, _, rfl⟩, R1.nil w, R1.nil w, fun k hk => absurd hk (bl_nil k), fun k hk => absurd hk (bl_nil k), fun k hk => absurd hk (bl_nil k), Below.refl _ _⟩

/-- One row more: both appends. -/
theorem Dr.push {w : World} {ys : Rows} {v u : Value} {wr : World} (h : Dr w ys v u wr) (hl : ys.length ≤ 8) (r : Int × Int) :
    ∃ r1 c1 w2 r2 c2 w3, (Builtin.append_ #[58, 58] 58 #[v, .slice (some ⟨wr.heap.size, 0, none⟩) 1 1]).run Try.prog (wr.alloc (.cells #[.int .u32 r.1] 23)) = .ok (.slice (some ⟨r1, 0, none⟩) (ys.length + 1) c1) w2 ∧
      (Builtin.append_ #[58, 58] 58 #[u, .slice (some ⟨w2.heap.size, 0, none⟩) 1 1]).run Try.prog (w2.alloc (.cells #[.int .u32 r.2] 23)) = .ok (.slice (some ⟨r2, 0, none⟩) (ys.length + 1) c2) w3 ∧
      Hid (Below w.heap.size w w2 ∧ Dr w (ys ++ [r]) (.slice (some ⟨r1, 0, none⟩) (ys.length + 1) c1) (.slice (some ⟨r2, 0, none⟩) (ys.length + 1) c2) w3) := by
  obtain ⟨r1, c1, w2, hr1, H1⟩ := run_app1 wr v (pages ys) r.1 h.rv (by rw [pages_length]; omega)
  rw [pages_length] at hr1 H1
  obtain ⟨h1, s1⟩ := H1.out
  have hu := own_mods h.ru s1.mods h.ap
  obtain ⟨r2, c2, w3, hr2, H2⟩ := run_app1 w2 u (ys.map Prod.snd) r.2 hu (by rw [List.length_map]; omega)
  rw [List.length_map] at hr2 H2
  obtain ⟨h2, s2⟩ := H2.out
  have ap1 := s1.apart h.ap (own_lo h.ru)
  have hB := h.bel.size
  have hb2 := s1.below h.bel h.av hB
  refine ⟨r1, c1, w2, r2, c2, w3, hr1, hr2, hb2, ?_⟩
  refine ⟨⟨_, _, by rw [List.length_append]; rfl⟩, ⟨_, _, by rw [List.length_append]; rfl⟩, ?_, ?_, s1.ab h.av hB, s2.ab h.au hb2.size, (s2.apart ap1.symm (own_lo h1)).symm, s2.below hb2 h.au hb2.size⟩
  · rw [pages_app]; exact own_mods h1 s2.mods ap1.symm
  · rw [List.map_append]; exact h2

set_option maxRecDepth 100000 in
set_option maxHeartbeats 1000000 in
theorem rdrop_any (g : Nat) (S : Nat → Prop) (xs : Rows) (p : Int) (w : World) (h : Rf w g S xs) (hf : Fit xs) :
    Calls Try.prog 47 #[.pointer (some ⟨g, 0, none⟩), .int .u32 p] w fun e w' => e = .returned (.tuple #[]) ∧ ∃ S', Rf w' g S' (dropR xs p) ∧ Step S S' w w' := by
  have hl := hf.2.1
  have HD := Lib.hid (drop_filter (p := p) hf.1)
  obtain ⟨A, c, B, d, hb, hc0, hc1, _, _, _, hS, HA, HB, hcc, hcm, hdc, hdm⟩ := h.open_
  have hg := lt_of_heap hb
  have HG := Lib.hid h.in_
  generalize dropR xs p = ys at HD ⊢
  generalize hn : xs.length = n at hl hb hc0 hc1 HA HB hcc hdc
  have HN := Lib.hid hn
  have HBx := Lib.hid hb
  have HC0 := Lib.hid hc0
  have HC1 := Lib.hid hc1
  clear h hn hS hb hf hc1
  go_enter Try.func47, Try.ntmps47
  go_wp2
  clear hc0
  go_loopw [4, 5, 13] (fun v u i wr => ∃ k : Nat, k ≤ n ∧ i = .int .i64 k ∧ Dr w (kept xs p k) v u wr) (fun _ _ i _ => n - (intOf i).toNat)
  case atStart => exact ⟨0, Nat.zero_le _, rfl, by rw [kept_zero]; exact Dr.nil w⟩
  case round =>
    obtain ⟨k, hk, rfl, hd⟩ := hrel
    obtain ⟨Av, cv, rfl⟩ := hd.sv
    obtain ⟨Au, cu, rfl⟩ := hd.su
    have HDr := Lib.hid hd
    clear hd
    by_cases hlt : k < n
    · obtain ⟨r, rfl, hrl, hx⟩ := HA.out k hlt
      obtain ⟨r', rfl, hrl', hx'⟩ := HB.out k hlt
      have hx1 := (HDr.out.bel.cell (p := ⟨r, k, none⟩) hrl).trans hx
      have HX := Lib.hid hx'
      clear hx hx'
      by_cases he : (row xs k).1 = p
      · have HK := Lib.hid (kept_hit xs p k (by rw [HN.out]; exact hlt) he)
        rw [he] at hx1
        clear he
        go_wp2
        go_roundw
        case rel => exact ⟨k + 1, by omega, by go_num, by rw [HK.out]; exact HDr.out⟩
        case measure => simp [intOf]; omega
      · have HK := Lib.hid (kept_miss xs p k (by rw [HN.out]; exact hlt) he)
        have he' : ((row xs k).1 == p) = false := by simpa using he
        obtain ⟨r1, c1, w2, r2, c2, w3, hr1, hr2, HP⟩ := HDr.out.push (Nat.le_trans (kept_le xs p k) (by rw [HN.out]; exact hl)) (row xs k)
        have hc1' := (HP.out.1.cell (p := ⟨g, 1, none⟩) hg).trans HC1.out
        have hx2 := (HP.out.1.cell (p := ⟨r', k, none⟩) hrl').trans HX.out
        have HR1 := Lib.hid hr1
        have HR2 := Lib.hid hr2
        have HE : Hid (Dr w (kept xs p (k + 1)) (.slice (some ⟨r1, 0, none⟩) ((kept xs p k).length + 1) c1) (.slice (some ⟨r2, 0, none⟩) ((kept xs p k).length + 1) c2) w3) := by
          show Dr _ _ _ _ _
          rw [HK.out]; exact HP.out.2
        clear hr1 hr2 HP HK
        generalize (row xs k).1 = q at hx1 he he' HR1
        generalize (row xs k).2 = q' at hx2 HR2 HX
        go_wp2_with (first
          | (at_builtin; refine wpList_append_run _ rfl (.tmp 21) (.tmp 23) _ _ rfl _ _ rfl rfl HR1.out ?_)
          | (at_builtin; refine wpList_append_run _ rfl (.tmp 25) (.tmp 33) _ _ rfl _ _ rfl rfl HR2.out ?_))
        go_roundw
        case rel => exact ⟨k + 1, by omega, by go_num, HE.out⟩
        case measure => simp [intOf]; omega
    · obtain rfl : k = n := by omega
      have hb' := (HDr.out.bel.block g hg).trans HBx.out
      have hc0 := (HDr.out.bel.cell (p := ⟨g, 0, none⟩) hg).trans HC0.out
      have hc1 := (HDr.out.bel.cell (p := ⟨g, 1, none⟩) hg).trans HC1.out
      have hf0 := frozen_of_row wr g 0 _ _ hb'
      have hf1 := frozen_of_row wr g 1 _ _ hb'
      have hd := HDr.out
      have HK : Hid (ys = kept xs p k) := by show _ = _; rw [HD.out, kept_all _ _ _ (by rw [HN.out]; omega)]
      have HE := Lib.hid (rf_store (w := w) (S := S) (ys := ys) hb' (by rw [HK.out]; exact hd.rv) (by rw [HK.out]; exact hd.ru) hd.ap (fun e => by have := hd.av g e; omega) (fun e => by have := hd.au g e; omega)
        (fun i hi => by rcases hi with hi | hi; · exact .inr (hd.av i hi)
                        · exact .inr (hd.au i hi)) (Mods.of_below hd.bel) HG.out)
      clear hd hb'
      go_wp2
      first | go_end0 | (refine bodyPost_ret (results_none rfl _ _ _) rfl ?_)
      exact ⟨rfl, HE.out⟩

end Go.Proofs.Ytfpdemlcmfaieaa.Tl
