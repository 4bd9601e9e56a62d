/- Contracts of package isa: shapeOf. -/
import Derived.Test.YtmkfcjpdcaminaaDoorIShp
import Derived.Test.YtmkfcjpdcaminaaDoorIFam
import Derived.Test.YtmkfcjpdcaminaaDoorIShelf
import Derived.StillTailTactics
namespace Go.Proofs.YtmkfcjpdcaminaaDoor.Cs
open Go.RowKit

/-- A family's shape with a letter. -/
def fml (a : Nat) (c : UInt8) : Int × Int × List UInt8 := ((fms.getD a (0, 0, [])).1, (fms.getD a (0, 0, [])).2.1, Lib.replaceAll (fms.getD a (0, 0, [])).2.2 [120] [c])
theorem fml_all : upto 24 (fun a => decide (fam.getD a [] = []) || (decide (fml a 98 = sh ((128 + a : Nat) : Int)) && (decide (fml a 119 = sh ((160 + a : Nat) : Int)) && decide (fml a 108 = sh ((192 + a : Nat) : Int))))) = true := by kernel_rfl
theorem fms_len : upto 24 (fun a => Nat.ble (fms.getD a (0, 0, [])).2.2.length 100) = true := by kernel_rfl
theorem fms_cnt : upto 24 (fun a => Nat.ble (Lib.countB (sb (fms.getD a (0, 0, [])).2.2) (sb [120])) 100) = true := by kernel_rfl
theorem fam_nms : upto 24 (fun a => !decide (fam.getD a [] = []) || (decide (nms.getD (128 + a) [] = []) && (decide (nms.getD (160 + a) [] = []) && decide (nms.getD (192 + a) [] = [])))) = true := by kernel_rfl
theorem sh0 (w : World) : Bk (w.alloc (.cells #[.int .i64 0, .int .i64 0, .string ⟨#[]⟩] 37)) w.heap.size 37 [.int .i64 0, .int .i64 0, .string ⟨#[]⟩] := Bk.new w _ [.int .i64 0, .int .i64 0, .string ⟨#[]⟩]
theorem replace_any (l : List UInt8) (c : UInt8) (w : World) (hl : l.length ≤ 100) (hc : Lib.countB (sb l) (sb [120]) ≤ 100) (hm : ∃ m, w.cell? ⟨4, 0, none⟩ = some (.int .i64 m)) :
    Calls Tryd.prog 25 #[.string (sb l), .string (sb [120]), .string (sb [c])] w fun e w' => e = .returned (.string (sb (Lib.replaceAll l [120] [c]))) ∧ Below w.heap.size w w' := by
  obtain ⟨m, hm⟩ := hm
  have h1 : (sb l).size ≤ 100 := by rw [sb_size]; exact hl
  have h2 : (sb [c]).size = 1 := by rw [sb_size]; rfl
  exact strings_ReplaceAll (sb l) (sb [120]) (sb [c]) m w (by omega) hm (by rw [sb_size]; decide) (by rw [h2]; omega)

/-- One of the switches answers. -/
theorem fin3 {w w1 : World} (hb : Below (w.alloc (.cells #[.int .i64 0, .int .i64 0, .string ⟨#[]⟩] 37)).heap.size (w.alloc (.cells #[.int .i64 0, .int .i64 0, .string ⟨#[]⟩] 37)) w1) (a0 a1 a2 : Value) :
    Below w.heap.size w (((w1.setCell ⟨w.heap.size, 0, none⟩ a0).setCell ⟨w.heap.size, 1, none⟩ a1).setCell ⟨w.heap.size, 2, none⟩ a2) :=
  (((bel2 (al1 _ _) hb).setCell (Nat.le_refl _) _).setCell (Nat.le_refl _) _).setCell (Nat.le_refl _) _

set_option maxHeartbeats 3200000 in
set_option maxRecDepth 20000 in
theorem shapeOf_early (k : Nat) (hk : k < 64) (hn : nms.getD k [] ≠ []) (w : World) : Calls Tryd.prog 16 #[.int .i64 k] w (ShE w (sh (k : Int))) := by
  have hin : k ∈ eaC := by
    have := upto_at ea_in k (by omega)
    simp only [Bool.or_eq_true, decide_eq_true_eq, Nat.ble_eq] at this
    rcases this with (h | h) | h
    · exact absurd h hn
    · omega
    · simpa using h
  have HE := Lib.hid (fun W => ea_at k hin W)
  clear hn hin
  generalize sh (k : Int) = s at *
  obtain ⟨c, a, o⟩ := s
  go_enter Tryd.func16, Tryd.ntmps16
  go_wp2_with (go_at_call 21; refine (HE.out _).mono ?_; rintro e w1 ⟨rfl, hb⟩; have hB := (sh0 w).below hb; have d0 := hB.cell 0 _ rfl; have d1 := hB.cell 1 _ rfl; have d2 := hB.cell 2 _ rfl; have dz := hB.free; have HB := Lib.hid hb; clear hb hB)
  exact bodyPost_ret (v := shv (c, a, o)) (by simp [results, Tryd.results16, go_sem, d0, d1, d2]) rfl ⟨rfl, fin3 HB.out _ _ _⟩

set_option maxHeartbeats 3200000 in
set_option maxRecDepth 20000 in
theorem shapeOf_late (k : Nat) (hk : 224 ≤ k) (hk2 : k < 256) (hn : nms.getD k [] ≠ []) (w : World) : Calls Tryd.prog 16 #[.int .i64 k] w (ShE w (sh (k : Int))) := by
  have hin : k ∈ laC := by
    have := upto_at la_in k (by omega)
    simp only [Bool.or_eq_true, decide_eq_true_eq, Bool.not_eq_true'] at this
    rcases this with (h | h) | h
    · exact absurd h hn
    · have : Nat.ble 224 k = true := Nat.ble_eq_true_of_le hk
      rw [this] at h; cases h
    · simpa using h
  have HE := Lib.hid (fun W => la_at k hin W)
  clear hn hin
  generalize sh (k : Int) = s at *
  obtain ⟨c, a, o⟩ := s
  go_enter Tryd.func16, Tryd.ntmps16
  go_wp2_with (go_at_call 22; refine (HE.out _).mono ?_; rintro e w1 ⟨rfl, hb⟩; have hB := (sh0 w).below hb; have d0 := hB.cell 0 _ rfl; have d1 := hB.cell 1 _ rfl; have d2 := hB.cell 2 _ rfl; have dz := hB.free; have HB := Lib.hid hb; clear hb hB)
  exact bodyPost_ret (v := shv (c, a, o)) (by simp [results, Tryd.results16, go_sem, d0, d1, d2]) rfl ⟨rfl, fin3 HB.out _ _ _⟩

set_option maxHeartbeats 3200000 in
set_option maxRecDepth 20000 in
theorem shapeOf_odd (k r a : Nat) (hr : r < 4) (ha : a < 32) (h24 : 24 ≤ a) (hka : k = 96 + 32 * r + a) (hn : nms.getD k [] ≠ []) (w : World) : Calls Tryd.prog 16 #[.int .i64 k] w (ShE w (sh (k : Int))) := by
  have hin : k ∈ odC := by
    have := upto_at od_in k (by omega)
    simp only [Bool.or_eq_true, decide_eq_true_eq, Bool.not_eq_true', Nat.ble_eq] at this
    rcases this with (h | h | h | h) | h
    · exact absurd h hn
    · have : Nat.ble 96 k = true := Nat.ble_eq_true_of_le (by omega)
      rw [this] at h; cases h
    · omega
    · have : Nat.ble 24 ((k - 96) % 32) = true := Nat.ble_eq_true_of_le (by omega)
      rw [this] at h; cases h
    · simpa using h
  have HE := Lib.hid (fun W => od_at k hin W)
  have HP := Lib.hid (fun W => place_any (k : Int) r a (by omega) hr ha W)
  have k0 : 96 ≤ k := by omega
  have k1 : k < 224 := by omega
  have a1 : (24 : Int) ≤ (a : Int) := by omega
  clear hn hin hka
  generalize sh (k : Int) = s at *
  obtain ⟨c, al, o⟩ := s
  go_enter Tryd.func16, Tryd.ntmps16
  go_wp2_with (first
    | (go_at_call 19; refine (HP.out _).mono ?_; rintro e w' ⟨rfl, rfl⟩)
    | (go_at_call 23; refine (HE.out _).mono ?_; rintro e w1 ⟨rfl, hb⟩; have hB := (sh0 w).below hb; have d0 := hB.cell 0 _ rfl; have d1 := hB.cell 1 _ rfl; have d2 := hB.cell 2 _ rfl; have dz := hB.free; have HB := Lib.hid hb; clear hb hB))
  exact bodyPost_ret (v := shv (c, al, o)) (by simp [results, Tryd.results16, go_sem, d0, d1, d2]) rfl ⟨rfl, fin3 HB.out _ _ _⟩

/-- A shape in a variable, another variable for what is answered. -/
structure Sf (w : World) (g : Nat) (c al : Int) (o : List UInt8) (W : World) : Prop where
  res : Bk W w.heap.size 37 [.int .i64 0, .int .i64 0, .string ⟨#[]⟩]
  var : Bk W g 37 [.int .i64 c, .int .i64 al, .string (sb o)]
  ne : w.heap.size ≠ g
  g0 : w.heap.size ≤ g
  bel : Below w.heap.size w W
theorem Sf.below {w W W' : World} {g : Nat} {c al : Int} {o : List UInt8} (h : Sf w g c al o W) (b : Below W.heap.size W W') : Sf w g c al o W' := ⟨h.res.below b, h.var.below b, h.ne, h.g0, bel_trans h.bel b h.bel.size⟩
theorem Sf.ops {w W : World} {g : Nat} {c al : Int} {o : List UInt8} (h : Sf w g c al o W) (p : List UInt8) : Sf w g c al p (W.setCell ⟨g, 2, none⟩ (.string (sb p))) := ⟨h.res.other h.ne _ _, h.var.set 2 _, h.ne, h.g0, h.bel.setCell h.g0 _⟩
theorem Sf.first {w w1 : World} {c al : Int} {o : List UInt8} (hb : Below (w.alloc (.cells #[.int .i64 0, .int .i64 0, .string ⟨#[]⟩] 37)).heap.size (w.alloc (.cells #[.int .i64 0, .int .i64 0, .string ⟨#[]⟩] 37)) w1) :
    Sf w w1.heap.size c al o (w1.alloc (.cells #[.int .i64 c, .int .i64 al, .string (sb o)] 37)) := by
  have hB := (sh0 w).below hb
  have hl := hB.lt
  have b : Below w1.heap.size w1 (w1.alloc (.cells #[.int .i64 c, .int .i64 al, .string (sb o)] 37)) := al1 _ _
  exact ⟨hB.below b, Bk.new w1 _ [.int .i64 c, .int .i64 al, .string (sb o)], by omega, by omega, bel2 (bel2 (al1 _ _) hb) b⟩

set_option maxHeartbeats 3200000 in
set_option maxRecDepth 20000 in
theorem shapeOf_fam1 (a : Nat) (ha : a < 24) (hn : nms.getD (128 + a) [] ≠ []) (w : World) (hg : Gl w) : Calls Tryd.prog 16 #[.int .i64 ((128 + a : Nat) : Int)] w (ShE w (sh ((128 + a : Nat) : Int))) := by
  have hf : fam.getD a [] ≠ [] := by
    have := upto_at fam_nms a ha
    simp only [Bool.or_eq_true, Bool.and_eq_true, decide_eq_true_eq, Bool.not_eq_true', decide_eq_false_iff_not] at this
    rcases this with h | h
    · exact h
    · exact absurd h.1 hn
  have hin : a ∈ faC := by
    have := upto_at fa_in a ha
    simp only [Bool.or_eq_true, decide_eq_true_eq] at this
    rcases this with h | h
    · exact absurd h hf
    · simpa using h
  have hml : fml a 98 = sh ((128 + a : Nat) : Int) := by
    have := upto_at fml_all a ha
    simp only [Bool.or_eq_true, Bool.and_eq_true, decide_eq_true_eq] at this
    rcases this with h | h
    · exact absurd h hf
    · exact h.1
  have HL : Hid ((fms.getD a (0, 0, [])).2.2.length ≤ 100) := by have := upto_at fms_len a ha; rwa [Nat.ble_eq] at this
  have HC : Hid (Lib.countB (sb (fms.getD a (0, 0, [])).2.2) (sb [120]) ≤ 100) := by have := upto_at fms_cnt a ha; rwa [Nat.ble_eq] at this
  have HE := Lib.hid (fun W => fa_at a hin W)
  have HP := Lib.hid (fun W => place_any ((128 + a : Nat) : Int) 1 a (by omega) (by omega) (by omega) W)
  have HG := Lib.hid hg
  rw [← hml]
  unfold fml
  clear hn hin hf hml hg
  generalize fms.getD a (0, 0, []) = s at *
  obtain ⟨c, al, o⟩ := s
  simp only at HL HC
  have k0 : 96 ≤ ((128 + a : Nat) : Int) := by omega
  have k1 : ((128 + a : Nat) : Int) < 224 := by omega
  generalize ((128 + a : Nat) : Int) = code at *
  have hx : (ByteArray.mk #[98, 119, 108]).extract 0 1 = sb [98] := by kernel_rfl
  go_enter Tryd.func16, Tryd.ntmps16
  go_wp2_with (first
    | (go_at_call 19; refine (HP.out _).mono ?_; rintro e w' ⟨rfl, rfl⟩)
    | (go_at_call 24; refine (HE.out _).mono ?_; rintro e w1 ⟨rfl, hb⟩; have hB := (sh0 w).below hb; have d0 := hB.cell 0 _ rfl; have d1 := hB.cell 1 _ rfl; have d2 := hB.cell 2 _ rfl; have dz := hB.free; have dl := hB.lt; have HB := Lib.hid hb; clear hb hB))
  have HS := Lib.hid (Sf.first (c := c) (al := al) (o := o) HB.out)
  clear d0 d1 d2 dz dl HB
  generalize w1.alloc (Obj.cells #[Value.int IntKind.i64 c, Value.int IntKind.i64 al, Value.string (sb o)] 37) = W at *
  generalize w1.heap.size = g at *
  have u2 := HS.out.var.cell 2 _ rfl
  have hw0 : IntKind.i64.wrap 0 = 0 := by kernel_rfl
  go_still_tail 6, (by kernel_rfl)
  change wpList _ _ _ _ _ W.drew
  have HV := Lib.hid (HG.out.below HS.out.bel.drew)
  have HS1 := Lib.hid (HS.out.below ((Below.refl _ _).drew))
  clear u2 HS
  generalize W.drew = V at *
  go_wp2_with (first
    | (go_at_call 25; refine (replace_any o 98 _ HL.out HC.out HV.out.ml).mono ?_; rintro e w2 ⟨rfl, hb⟩; have HS2 := Lib.hid (HS1.out.below hb); clear hb HS1 HV; generalize Lib.replaceAll o [120] [98] = o2 at *; have x0 := HS2.out.var.cell 0 _ rfl; have x1 := HS2.out.var.cell 1 _ rfl; have x2 := HS2.out.var.cell 2 _ rfl; have xf := HS2.out.var.free; have y0 := HS2.out.res.cell 0 _ rfl; have y1 := HS2.out.res.cell 1 _ rfl; have y2 := HS2.out.res.cell 2 _ rfl; have yf := HS2.out.res.free; have ne := HS2.out.ne; have ll := HS2.out.var.lt; have lr := HS2.out.res.lt)
    | fail)
  exact bodyPost_ret (v := shv (c, al, o2)) (by simp [results, Tryd.results16, go_sem, y0, y1, y2]) rfl ⟨rfl, (((((HS2.out.bel.setCell HS2.out.g0 _).setCell (Nat.le_refl _) _).setCell (Nat.le_refl _) _).setCell (Nat.le_refl _) _))⟩

set_option maxHeartbeats 3200000 in
set_option maxRecDepth 20000 in
theorem shapeOf_fam2 (a : Nat) (ha : a < 24) (hn : nms.getD (160 + a) [] ≠ []) (w : World) (hg : Gl w) : Calls Tryd.prog 16 #[.int .i64 ((160 + a : Nat) : Int)] w (ShE w (sh ((160 + a : Nat) : Int))) := by
  have hf : fam.getD a [] ≠ [] := by
    have := upto_at fam_nms a ha
    simp only [Bool.or_eq_true, Bool.and_eq_true, decide_eq_true_eq, Bool.not_eq_true', decide_eq_false_iff_not] at this
    rcases this with h | h
    · exact h
    · exact absurd h.2.1 hn
  have hin : a ∈ faC := by
    have := upto_at fa_in a ha
    simp only [Bool.or_eq_true, decide_eq_true_eq] at this
    rcases this with h | h
    · exact absurd h hf
    · simpa using h
  have hml : fml a 119 = sh ((160 + a : Nat) : Int) := by
    have := upto_at fml_all a ha
    simp only [Bool.or_eq_true, Bool.and_eq_true, decide_eq_true_eq] at this
    rcases this with h | h
    · exact absurd h hf
    · exact h.2.1
  have HL : Hid ((fms.getD a (0, 0, [])).2.2.length ≤ 100) := by have := upto_at fms_len a ha; rwa [Nat.ble_eq] at this
  have HC : Hid (Lib.countB (sb (fms.getD a (0, 0, [])).2.2) (sb [120]) ≤ 100) := by have := upto_at fms_cnt a ha; rwa [Nat.ble_eq] at this
  have HE := Lib.hid (fun W => fa_at a hin W)
  have HP := Lib.hid (fun W => place_any ((160 + a : Nat) : Int) 2 a (by omega) (by omega) (by omega) W)
  have HG := Lib.hid hg
  rw [← hml]
  unfold fml
  clear hn hin hf hml hg
  generalize fms.getD a (0, 0, []) = s at *
  obtain ⟨c, al, o⟩ := s
  simp only at HL HC
  have k0 : 96 ≤ ((160 + a : Nat) : Int) := by omega
  have k1 : ((160 + a : Nat) : Int) < 224 := by omega
  generalize ((160 + a : Nat) : Int) = code at *
  have hx : (ByteArray.mk #[98, 119, 108]).extract 1 2 = sb [119] := by kernel_rfl
  go_enter Tryd.func16, Tryd.ntmps16
  go_wp2_with (first
    | (go_at_call 19; refine (HP.out _).mono ?_; rintro e w' ⟨rfl, rfl⟩)
    | (go_at_call 24; refine (HE.out _).mono ?_; rintro e w1 ⟨rfl, hb⟩; have hB := (sh0 w).below hb; have d0 := hB.cell 0 _ rfl; have d1 := hB.cell 1 _ rfl; have d2 := hB.cell 2 _ rfl; have dz := hB.free; have dl := hB.lt; have HB := Lib.hid hb; clear hb hB))
  have HS := Lib.hid (Sf.first (c := c) (al := al) (o := o) HB.out)
  clear d0 d1 d2 dz dl HB
  generalize w1.alloc (Obj.cells #[Value.int IntKind.i64 c, Value.int IntKind.i64 al, Value.string (sb o)] 37) = W at *
  generalize w1.heap.size = g at *
  have u2 := HS.out.var.cell 2 _ rfl
  have hw0 : IntKind.i64.wrap 1 = 1 := by kernel_rfl
  go_still_tail 6, (by kernel_rfl)
  change wpList _ _ _ _ _ W.drew
  have HV := Lib.hid (HG.out.below HS.out.bel.drew)
  have HS1 := Lib.hid (HS.out.below ((Below.refl _ _).drew))
  clear u2 HS
  generalize W.drew = V at *
  go_wp2_with (first
    | (go_at_call 25; refine (replace_any o 119 _ HL.out HC.out HV.out.ml).mono ?_; rintro e w2 ⟨rfl, hb⟩; have HS2 := Lib.hid (HS1.out.below hb); clear hb HS1 HV; generalize Lib.replaceAll o [120] [119] = o2 at *; have x0 := HS2.out.var.cell 0 _ rfl; have x1 := HS2.out.var.cell 1 _ rfl; have x2 := HS2.out.var.cell 2 _ rfl; have xf := HS2.out.var.free; have y0 := HS2.out.res.cell 0 _ rfl; have y1 := HS2.out.res.cell 1 _ rfl; have y2 := HS2.out.res.cell 2 _ rfl; have yf := HS2.out.res.free; have ne := HS2.out.ne; have ll := HS2.out.var.lt; have lr := HS2.out.res.lt)
    | fail)
  exact bodyPost_ret (v := shv (c, al, o2)) (by simp [results, Tryd.results16, go_sem, y0, y1, y2]) rfl ⟨rfl, (((((HS2.out.bel.setCell HS2.out.g0 _).setCell (Nat.le_refl _) _).setCell (Nat.le_refl _) _).setCell (Nat.le_refl _) _))⟩

set_option maxHeartbeats 3200000 in
set_option maxRecDepth 20000 in
theorem shapeOf_fam3 (a : Nat) (ha : a < 24) (hn : nms.getD (192 + a) [] ≠ []) (w : World) (hg : Gl w) : Calls Tryd.prog 16 #[.int .i64 ((192 + a : Nat) : Int)] w (ShE w (sh ((192 + a : Nat) : Int))) := by
  have hf : fam.getD a [] ≠ [] := by
    have := upto_at fam_nms a ha
    simp only [Bool.or_eq_true, Bool.and_eq_true, decide_eq_true_eq, Bool.not_eq_true', decide_eq_false_iff_not] at this
    rcases this with h | h
    · exact h
    · exact absurd h.2.2 hn
  have hin : a ∈ faC := by
    have := upto_at fa_in a ha
    simp only [Bool.or_eq_true, decide_eq_true_eq] at this
    rcases this with h | h
    · exact absurd h hf
    · simpa using h
  have hml : fml a 108 = sh ((192 + a : Nat) : Int) := by
    have := upto_at fml_all a ha
    simp only [Bool.or_eq_true, Bool.and_eq_true, decide_eq_true_eq] at this
    rcases this with h | h
    · exact absurd h hf
    · exact h.2.2
  have HL : Hid ((fms.getD a (0, 0, [])).2.2.length ≤ 100) := by have := upto_at fms_len a ha; rwa [Nat.ble_eq] at this
  have HC : Hid (Lib.countB (sb (fms.getD a (0, 0, [])).2.2) (sb [120]) ≤ 100) := by have := upto_at fms_cnt a ha; rwa [Nat.ble_eq] at this
  have HE := Lib.hid (fun W => fa_at a hin W)
  have HP := Lib.hid (fun W => place_any ((192 + a : Nat) : Int) 3 a (by omega) (by omega) (by omega) W)
  have HG := Lib.hid hg
  rw [← hml]
  unfold fml
  clear hn hin hf hml hg
  generalize fms.getD a (0, 0, []) = s at *
  obtain ⟨c, al, o⟩ := s
  simp only at HL HC
  have k0 : 96 ≤ ((192 + a : Nat) : Int) := by omega
  have k1 : ((192 + a : Nat) : Int) < 224 := by omega
  generalize ((192 + a : Nat) : Int) = code at *
  have hx : (ByteArray.mk #[98, 119, 108]).extract 2 3 = sb [108] := by kernel_rfl
  go_enter Tryd.func16, Tryd.ntmps16
  go_wp2_with (first
    | (go_at_call 19; refine (HP.out _).mono ?_; rintro e w' ⟨rfl, rfl⟩)
    | (go_at_call 24; refine (HE.out _).mono ?_; rintro e w1 ⟨rfl, hb⟩; have hB := (sh0 w).below hb; have d0 := hB.cell 0 _ rfl; have d1 := hB.cell 1 _ rfl; have d2 := hB.cell 2 _ rfl; have dz := hB.free; have dl := hB.lt; have HB := Lib.hid hb; clear hb hB))
  have HS := Lib.hid (Sf.first (c := c) (al := al) (o := o) HB.out)
  clear d0 d1 d2 dz dl HB
  generalize w1.alloc (Obj.cells #[Value.int IntKind.i64 c, Value.int IntKind.i64 al, Value.string (sb o)] 37) = W at *
  generalize w1.heap.size = g at *
  have u2 := HS.out.var.cell 2 _ rfl
  have hw0 : IntKind.i64.wrap 2 = 2 := by kernel_rfl
  go_still_tail 6, (by kernel_rfl)
  change wpList _ _ _ _ _ W.drew
  have HV := Lib.hid (HG.out.below HS.out.bel.drew)
  have HS1 := Lib.hid (HS.out.below ((Below.refl _ _).drew))
  clear u2 HS
  generalize W.drew = V at *
  go_wp2_with (first
    | (go_at_call 25; refine (replace_any o 108 _ HL.out HC.out HV.out.ml).mono ?_; rintro e w2 ⟨rfl, hb⟩; have HS2 := Lib.hid (HS1.out.below hb); clear hb HS1 HV; generalize Lib.replaceAll o [120] [108] = o2 at *; have x0 := HS2.out.var.cell 0 _ rfl; have x1 := HS2.out.var.cell 1 _ rfl; have x2 := HS2.out.var.cell 2 _ rfl; have xf := HS2.out.var.free; have y0 := HS2.out.res.cell 0 _ rfl; have y1 := HS2.out.res.cell 1 _ rfl; have y2 := HS2.out.res.cell 2 _ rfl; have yf := HS2.out.res.free; have ne := HS2.out.ne; have ll := HS2.out.var.lt; have lr := HS2.out.res.lt)
    | fail)
  exact bodyPost_ret (v := shv (c, al, o2)) (by simp [results, Tryd.results16, go_sem, y0, y1, y2]) rfl ⟨rfl, (((((HS2.out.bel.setCell HS2.out.g0 _).setCell (Nat.le_refl _) _).setCell (Nat.le_refl _) _).setCell (Nat.le_refl _) _))⟩

theorem shapeOf_any (k : Nat) (hk : k < 256) (hn : nms.getD k [] ≠ []) (w : World) (hg : Gl w) : Calls Tryd.prog 16 #[.int .i64 k] w (ShE w (sh (k : Int))) := by
  by_cases h1 : k < 64
  · exact shapeOf_early k h1 hn w
  by_cases h2 : 224 ≤ k
  · exact shapeOf_late k h2 hk hn w
  by_cases h3 : k < 120
  · exfalso
    have := upto_at gap_all (k - 64) (by omega)
    rw [show 64 + (k - 64) = k by omega] at this
    exact hn (by simpa using this)
  obtain ⟨r, a, hr, ha, hka⟩ : ∃ r a, r < 4 ∧ a < 32 ∧ k = 96 + 32 * r + a := ⟨(k - 96) / 32, (k - 96) % 32, by omega, by omega, by omega⟩
  by_cases h24 : 24 ≤ a
  · exact shapeOf_odd k r a hr ha h24 hka hn w
  have hr0 : r = 1 ∨ r = 2 ∨ r = 3 := by omega
  rcases hr0 with rfl | rfl | rfl
  · obtain rfl : k = 128 + a := by omega
    exact shapeOf_fam1 a (by omega) hn w hg
  · obtain rfl : k = 160 + a := by omega
    exact shapeOf_fam2 a (by omega) hn w hg
  · obtain rfl : k = 192 + a := by omega
    exact shapeOf_fam3 a (by omega) hn w hg

end Go.Proofs.YtmkfcjpdcaminaaDoor.Cs
