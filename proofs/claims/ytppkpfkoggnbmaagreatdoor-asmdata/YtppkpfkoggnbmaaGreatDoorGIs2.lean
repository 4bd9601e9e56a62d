import Derived.Test.YtppkpfkoggnbmaaGreatDoorGShp
import Derived.Test.YtppkpfkoggnbmaaGreatDoorKShelf2
import Derived.StillTailTactics

/- Contracts of package isa: shapeOf. -/
namespace Go.Proofs.YtppkpfkoggnbmaaGreatDoor.Cs.Ia
open Go.RowKit

/-- A family's shape with a letter. -/
def fml (a : Nat) (c : UInt8) : Int × Int × List UInt8 := ((fms.getD a (0, 0, [])).1, (fms.getD a (0, 0, [])).2.1, Lib.replaceAll (fms.getD a (0, 0, [])).2.2 [120] [c])
theorem fml_all : upto 24 (fun a => decide (fam.getD a [] = []) || (decide (fml a 98 = sh ((128 + a : Nat) : Int)) && (decide (fml a 119 = sh ((160 + a : Nat) : Int)) && decide (fml a 108 = sh ((192 + a : Nat) : Int))))) = true := by kernel_rfl
theorem fms_len : upto 24 (fun a => Nat.ble (fms.getD a (0, 0, [])).2.2.length 100) = true := by kernel_rfl
theorem fms_cnt : upto 24 (fun a => Nat.ble (Lib.countB (sb (fms.getD a (0, 0, [])).2.2) (sb [120])) 100) = true := by kernel_rfl
theorem fam_nms : upto 24 (fun a => !decide (fam.getD a [] = []) || (decide (nms.getD (128 + a) [] = []) && (decide (nms.getD (160 + a) [] = []) && decide (nms.getD (192 + a) [] = [])))) = true := by kernel_rfl
theorem sh0 (w : World) : Bk (w.alloc (.cells #[.int .i64 0, .int .i64 0, .string ⟨#[]⟩] 66)) w.heap.size 66 [.int .i64 0, .int .i64 0, .string ⟨#[]⟩] := Bk.new w _ [.int .i64 0, .int .i64 0, .string ⟨#[]⟩]
theorem replace_any (l : List UInt8) (c : UInt8) (w : World) (hl : l.length ≤ 100) (hc : Lib.countB (sb l) (sb [120]) ≤ 100) (hm : ∃ m, w.cell? ⟨6, 0, none⟩ = some (.int .i64 m)) :
    Calls Tryz.prog 54 #[.string (sb l), .string (sb [120]), .string (sb [c])] w fun e w' => e = .returned (.string (sb (Lib.replaceAll l [120] [c]))) ∧ Below w.heap.size w w' := by
  obtain ⟨m, hm⟩ := hm
  have h1 : (sb l).size ≤ 100 := by rw [sb_size]; exact hl
  have h2 : (sb [c]).size = 1 := by rw [sb_size]; rfl
  exact strings_ReplaceAll (sb l) (sb [120]) (sb [c]) m w (by omega) hm (by rw [sb_size]; decide) (by rw [h2]; omega)

/-- One of the switches answers. -/
theorem fin3 {w w1 : World} (hb : Below (w.alloc (.cells #[.int .i64 0, .int .i64 0, .string ⟨#[]⟩] 66)).heap.size (w.alloc (.cells #[.int .i64 0, .int .i64 0, .string ⟨#[]⟩] 66)) w1) (a0 a1 a2 : Value) :
    Below w.heap.size w (((w1.setCell ⟨w.heap.size, 0, none⟩ a0).setCell ⟨w.heap.size, 1, none⟩ a1).setCell ⟨w.heap.size, 2, none⟩ a2) :=
  (((bel2 (al1 _ _) hb).setCell (Nat.le_refl _) _).setCell (Nat.le_refl _) _).setCell (Nat.le_refl _) _

set_option maxHeartbeats 3200000 in
set_option maxRecDepth 100000 in
theorem shapeOf_early (k : Nat) (hk : k < 64) (hn : nms.getD k [] ≠ []) (w : World) : Calls Tryz.prog 24 #[.int .i64 k] w (ShE w (sh (k : Int))) := by
  have hin : k ∈ eaC := by
    have := upto_at ea_in k (by omega)
    simp only [Bool.or_eq_true, decide_eq_true_eq, Nat.ble_eq] at this
    rcases this with (h | h) | h
    · exact absurd h hn
    · omega
    · simpa using h
  have HE := Lib.hid (fun W => ea_at k hin W)
  clear hn hin
  generalize sh (k : Int) = s at *
  obtain ⟨c, a, o⟩ := s
  go_enter Tryz.func24, Tryz.ntmps24
  go_wp2_with (go_at_call 50; refine (HE.out _).mono ?_; rintro e w1 ⟨rfl, hb⟩; have hB := (sh0 w).below hb; have d0 := hB.cell 0 _ rfl; have d1 := hB.cell 1 _ rfl; have d2 := hB.cell 2 _ rfl; have dz := hB.free; have HB := Lib.hid hb; clear hb hB)
  exact bodyPost_ret (v := shv (c, a, o)) (by simp [results, Tryz.results24, go_sem, d0, d1, d2]) rfl ⟨rfl, fin3 HB.out _ _ _⟩

set_option maxHeartbeats 3200000 in
set_option maxRecDepth 100000 in
theorem shapeOf_late (k : Nat) (hk : 224 ≤ k) (hk2 : k < 256) (hn : nms.getD k [] ≠ []) (w : World) : Calls Tryz.prog 24 #[.int .i64 k] w (ShE w (sh (k : Int))) := by
  have hin : k ∈ laC := by
    have := upto_at la_in k (by omega)
    simp only [Bool.or_eq_true, decide_eq_true_eq, Bool.not_eq_true'] at this
    rcases this with (h | h) | h
    · exact absurd h hn
    · have : Nat.ble 224 k = true := Nat.ble_eq_true_of_le hk
      rw [this] at h; cases h
    · simpa using h
  have HE := Lib.hid (fun W => la_at k hin W)
  clear hn hin
  generalize sh (k : Int) = s at *
  obtain ⟨c, a, o⟩ := s
  go_enter Tryz.func24, Tryz.ntmps24
  go_wp2_with (go_at_call 51; refine (HE.out _).mono ?_; rintro e w1 ⟨rfl, hb⟩; have hB := (sh0 w).below hb; have d0 := hB.cell 0 _ rfl; have d1 := hB.cell 1 _ rfl; have d2 := hB.cell 2 _ rfl; have dz := hB.free; have HB := Lib.hid hb; clear hb hB)
  exact bodyPost_ret (v := shv (c, a, o)) (by simp [results, Tryz.results24, go_sem, d0, d1, d2]) rfl ⟨rfl, fin3 HB.out _ _ _⟩

set_option maxHeartbeats 3200000 in
set_option maxRecDepth 100000 in
theorem shapeOf_odd (k r a : Nat) (hr : r < 4) (ha : a < 32) (h24 : 24 ≤ a) (hka : k = 96 + 32 * r + a) (hn : nms.getD k [] ≠ []) (w : World) : Calls Tryz.prog 24 #[.int .i64 k] w (ShE w (sh (k : Int))) := by
  have hin : k ∈ odC := by
    have := upto_at od_in k (by omega)
    simp only [Bool.or_eq_true, decide_eq_true_eq, Bool.not_eq_true', Nat.ble_eq] at this
    rcases this with (h | h | h | h) | h
    · exact absurd h hn
    · have : Nat.ble 96 k = true := Nat.ble_eq_true_of_le (by omega)
      rw [this] at h; cases h
    · omega
    · have : Nat.ble 24 ((k - 96) % 32) = true := Nat.ble_eq_true_of_le (by omega)
      rw [this] at h; cases h
    · simpa using h
  have HE := Lib.hid (fun W => od_at k hin W)
  have HP := Lib.hid (fun W => place_any (k : Int) r a (by omega) hr ha W)
  have k0 : 96 ≤ k := by omega
  have k1 : k < 224 := by omega
  have a1 : (24 : Int) ≤ (a : Int) := by omega
  clear hn hin hka
  generalize sh (k : Int) = s at *
  obtain ⟨c, al, o⟩ := s
  go_enter Tryz.func24, Tryz.ntmps24
  go_wp2_with (first
    | (go_at_call 48; refine (HP.out _).mono ?_; rintro e w' ⟨rfl, rfl⟩)
    | (go_at_call 52; refine (HE.out _).mono ?_; rintro e w1 ⟨rfl, hb⟩; have hB := (sh0 w).below hb; have d0 := hB.cell 0 _ rfl; have d1 := hB.cell 1 _ rfl; have d2 := hB.cell 2 _ rfl; have dz := hB.free; have HB := Lib.hid hb; clear hb hB))
  exact bodyPost_ret (v := shv (c, al, o)) (by simp [results, Tryz.results24, go_sem, d0, d1, d2]) rfl ⟨rfl, fin3 HB.out _ _ _⟩

/-- A shape in a variable, another variable for what is answered. -/
structure Sf (w : World) (g : Nat) (c al : Int) (o : List UInt8) (W : World) : Prop where
  res : Bk W w.heap.size 66 [.int .i64 0, .int .i64 0, .string ⟨#[]⟩]
  var : Bk W g 66 [.int .i64 c, .int .i64 al, .string (sb o)]
  ne : w.heap.size ≠ g
  g0 : w.heap.size ≤ g
  bel : Below w.heap.size w W
theorem Sf.below {w W W' : World} {g : Nat} {c al : Int} {o : List UInt8} (h : Sf w g c al o W) (b : Below W.heap.size W W') : Sf w g c al o W' := ⟨h.res.below b, h.var.below b, h.ne, h.g0, bel_trans h.bel b h.bel.size⟩
theorem Sf.ops {w W : World} {g : Nat} {c al : Int} {o : List UInt8} (h : Sf w g c al o W) (p : List UInt8) : Sf w g c al p (W.setCell ⟨g, 2, none⟩ (.string (sb p))) := ⟨h.res.other h.ne _ _, h.var.set 2 _, h.ne, h.g0, h.bel.setCell h.g0 _⟩
theorem Sf.first {w w1 : World} {c al : Int} {o : List UInt8} (hb : Below (w.alloc (.cells #[.int .i64 0, .int .i64 0, .string ⟨#[]⟩] 66)).heap.size (w.alloc (.cells #[.int .i64 0, .int .i64 0, .string ⟨#[]⟩] 66)) w1) :
    Sf w w1.heap.size c al o (w1.alloc (.cells #[.int .i64 c, .int .i64 al, .string (sb o)] 66)) := by
  have hB := (sh0 w).below hb
  have hl := hB.lt
  have b : Below w1.heap.size w1 (w1.alloc (.cells #[.int .i64 c, .int .i64 al, .string (sb o)] 66)) := al1 _ _
  exact ⟨hB.below b, Bk.new w1 _ [.int .i64 c, .int .i64 al, .string (sb o)], by omega, by omega, bel2 (bel2 (al1 _ _) hb) b⟩

set_option maxHeartbeats 3200000 in
set_option maxRecDepth 100000 in
theorem shapeOf_fam1 (a : Nat) (ha : a < 24) (hn : nms.getD (128 + a) [] ≠ []) (w : World) (hg : Gl w) : Calls Tryz.prog 24 #[.int .i64 ((128 + a : Nat) : Int)] w (ShE w (sh ((128 + a : Nat) : Int))) := by
  have hf : fam.getD a [] ≠ [] := by
    have := upto_at fam_nms a ha
    simp only [Bool.or_eq_true, Bool.and_eq_true, decide_eq_true_eq, Bool.not_eq_true', decide_eq_false_iff_not] at this
    rcases this with h | h
    · exact h
    · exact absurd h.1 hn
  have hin : a ∈ faC := by
    have := upto_at fa_in a ha
    simp only [Bool.or_eq_true, decide_eq_true_eq] at this
    rcases this with h | h
    · exact absurd h hf
    · simpa using h
  have hml : fml a 98 = sh ((128 + a : Nat) : Int) := by
    have := upto_at fml_all a ha
    simp only [Bool.or_eq_true, Bool.and_eq_true, decide_eq_true_eq] at this
    rcases this with h | h
    · exact absurd h hf
    · exact h.1
  have HL : Hid ((fms.getD a (0, 0, [])).2.2.length ≤ 100) := by have := upto_at fms_len a ha; rwa [Nat.ble_eq] at this
  have HC : Hid (Lib.countB (sb (fms.getD a (0, 0, [])).2.2) (sb [120]) ≤ 100) := by have := upto_at fms_cnt a ha; rwa [Nat.ble_eq] at this
  have HE := Lib.hid (fun W => fa_at a hin W)
  have HP := Lib.hid (fun W => place_any ((128 + a : Nat) : Int) 1 a (by omega) (by omega) (by omega) W)
  have HG := Lib.hid hg
  rw [← hml]
  unfold fml
  clear hn hin hf hml hg
  generalize fms.getD a (0, 0, []) = s at *
  obtain ⟨c, al, o⟩ := s
  simp only at HL HC
  have k0 : 96 ≤ ((128 + a : Nat) : Int) := by omega
  have k1 : ((128 + a : Nat) : Int) < 224 := by omega
  generalize ((128 + a : Nat) : Int) = code at *
  have hx : (ByteArray.mk #[98, 119, 108]).extract 0 1 = sb [98] := by kernel_rfl
  go_enter Tryz.func24, Tryz.ntmps24
  go_wp2_with (first
    | (go_at_call 48; refine (HP.out _).mono ?_; rintro e w' ⟨rfl, rfl⟩)
    | (go_at_call 53; refine (HE.out _).mono ?_; rintro e w1 ⟨rfl, hb⟩; have hB := (sh0 w).below hb; have d0 := hB.cell 0 _ rfl; have d1 := hB.cell 1 _ rfl; have d2 := hB.cell 2 _ rfl; have dz := hB.free; have dl := hB.lt; have HB := Lib.hid hb; clear hb hB))
  have HS := Lib.hid (Sf.first (c := c) (al := al) (o := o) HB.out)
  clear d0 d1 d2 dz dl HB
  generalize w1.alloc (Obj.cells #[Value.int IntKind.i64 c, Value.int IntKind.i64 al, Value.string (sb o)] 66) = W at *
  generalize w1.heap.size = g at *
  have u2 := HS.out.var.cell 2 _ rfl
  have hw0 : IntKind.i64.wrap 0 = 0 := by kernel_rfl
  go_still_tail 6, (by kernel_rfl)
  change wpList _ _ _ _ _ W.drew
  have HV := Lib.hid (HG.out.below HS.out.bel.drew)
  have HS1 := Lib.hid (HS.out.below ((Below.refl _ _).drew))
  clear u2 HS
  generalize W.drew = V at *
  go_wp2_with (first
    | (go_at_call 54; refine (replace_any o 98 _ HL.out HC.out HV.out.ml).mono ?_; rintro e w2 ⟨rfl, hb⟩; have HS2 := Lib.hid (HS1.out.below hb); clear hb HS1 HV; generalize Lib.replaceAll o [120] [98] = o2 at *; have x0 := HS2.out.var.cell 0 _ rfl; have x1 := HS2.out.var.cell 1 _ rfl; have x2 := HS2.out.var.cell 2 _ rfl; have xf := HS2.out.var.free; have y0 := HS2.out.res.cell 0 _ rfl; have y1 := HS2.out.res.cell 1 _ rfl; have y2 := HS2.out.res.cell 2 _ rfl; have yf := HS2.out.res.free; have ne := HS2.out.ne; have ll := HS2.out.var.lt; have lr := HS2.out.res.lt)
    | fail)
  exact bodyPost_ret (v := shv (c, al, o2)) (by simp [results, Tryz.results24, go_sem, y0, y1, y2]) rfl ⟨rfl, (((((HS2.out.bel.setCell HS2.out.g0 _).setCell (Nat.le_refl _) _).setCell (Nat.le_refl _) _).setCell (Nat.le_refl _) _))⟩

set_option maxHeartbeats 3200000 in
set_option maxRecDepth 100000 in
theorem shapeOf_fam2 (a : Nat) (ha : a < 24) (hn : nms.getD (160 + a) [] ≠ []) (w : World) (hg : Gl w) : Calls Tryz.prog 24 #[.int .i64 ((160 + a : Nat) : Int)] w (ShE w (sh ((160 + a : Nat) : Int))) := by
  have hf : fam.getD a [] ≠ [] := by
    have := upto_at fam_nms a ha
    simp only [Bool.or_eq_true, Bool.and_eq_true, decide_eq_true_eq, Bool.not_eq_true', decide_eq_false_iff_not] at this
    rcases this with h | h
    · exact h
    · exact absurd h.2.1 hn
  have hin : a ∈ faC := by
    have := upto_at fa_in a ha
    simp only [Bool.or_eq_true, decide_eq_true_eq] at this
    rcases this with h | h
    · exact absurd h hf
    · simpa using h
  have hml : fml a 119 = sh ((160 + a : Nat) : Int) := by
    have := upto_at fml_all a ha
    simp only [Bool.or_eq_true, Bool.and_eq_true, decide_eq_true_eq] at this
    rcases this with h | h
    · exact absurd h hf
    · exact h.2.1
  have HL : Hid ((fms.getD a (0, 0, [])).2.2.length ≤ 100) := by have := upto_at fms_len a ha; rwa [Nat.ble_eq] at this
  have HC : Hid (Lib.countB (sb (fms.getD a (0, 0, [])).2.2) (sb [120]) ≤ 100) := by have := upto_at fms_cnt a ha; rwa [Nat.ble_eq] at this
  have HE := Lib.hid (fun W => fa_at a hin W)
  have HP := Lib.hid (fun W => place_any ((160 + a : Nat) : Int) 2 a (by omega) (by omega) (by omega) W)
  have HG := Lib.hid hg
  rw [← hml]
  unfold fml
  clear hn hin hf hml hg
  generalize fms.getD a (0, 0, []) = s at *
  obtain ⟨c, al, o⟩ := s
  simp only at HL HC
  have k0 : 96 ≤ ((160 + a : Nat) : Int) := by omega
  have k1 : ((160 + a : Nat) : Int) < 224 := by omega
  generalize ((160 + a : Nat) : Int) = code at *
  have hx : (ByteArray.mk #[98, 119, 108]).extract 1 2 = sb [119] := by kernel_rfl
  go_enter Tryz.func24, Tryz.ntmps24
  go_wp2_with (first
    | (go_at_call 48; refine (HP.out _).mono ?_; rintro e w' ⟨rfl, rfl⟩)
    | (go_at_call 53; refine (HE.out _).mono ?_; rintro e w1 ⟨rfl, hb⟩; have hB := (sh0 w).below hb; have d0 := hB.cell 0 _ rfl; have d1 := hB.cell 1 _ rfl; have d2 := hB.cell 2 _ rfl; have dz := hB.free; have dl := hB.lt; have HB := Lib.hid hb; clear hb hB))
  have HS := Lib.hid (Sf.first (c := c) (al := al) (o := o) HB.out)
  clear d0 d1 d2 dz dl HB
  generalize w1.alloc (Obj.cells #[Value.int IntKind.i64 c, Value.int IntKind.i64 al, Value.string (sb o)] 66) = W at *
  generalize w1.heap.size = g at *
  have u2 := HS.out.var.cell 2 _ rfl
  have hw0 : IntKind.i64.wrap 1 = 1 := by kernel_rfl
  go_still_tail 6, (by kernel_rfl)
  change wpList _ _ _ _ _ W.drew
  have HV := Lib.hid (HG.out.below HS.out.bel.drew)
  have HS1 := Lib.hid (HS.out.below ((Below.refl _ _).drew))
  clear u2 HS
  generalize W.drew = V at *
  go_wp2_with (first
    | (go_at_call 54; refine (replace_any o 119 _ HL.out HC.out HV.out.ml).mono ?_; rintro e w2 ⟨rfl, hb⟩; have HS2 := Lib.hid (HS1.out.below hb); clear hb HS1 HV; generalize Lib.replaceAll o [120] [119] = o2 at *; have x0 := HS2.out.var.cell 0 _ rfl; have x1 := HS2.out.var.cell 1 _ rfl; have x2 := HS2.out.var.cell 2 _ rfl; have xf := HS2.out.var.free; have y0 := HS2.out.res.cell 0 _ rfl; have y1 := HS2.out.res.cell 1 _ rfl; have y2 := HS2.out.res.cell 2 _ rfl; have yf := HS2.out.res.free; have ne := HS2.out.ne; have ll := HS2.out.var.lt; have lr := HS2.out.res.lt)
    | fail)
  exact bodyPost_ret (v := shv (c, al, o2)) (by simp [results, Tryz.results24, go_sem, y0, y1, y2]) rfl ⟨rfl, (((((HS2.out.bel.setCell HS2.out.g0 _).setCell (Nat.le_refl _) _).setCell (Nat.le_refl _) _).setCell (Nat.le_refl _) _))⟩

set_option maxHeartbeats 3200000 in
set_option maxRecDepth 100000 in
theorem shapeOf_fam3 (a : Nat) (ha : a < 24) (hn : nms.getD (192 + a) [] ≠ []) (w : World) (hg : Gl w) : Calls Tryz.prog 24 #[.int .i64 ((192 + a : Nat) : Int)] w (ShE w (sh ((192 + a : Nat) : Int))) := by
  have hf : fam.getD a [] ≠ [] := by
    have := upto_at fam_nms a ha
    simp only [Bool.or_eq_true, Bool.and_eq_true, decide_eq_true_eq, Bool.not_eq_true', decide_eq_false_iff_not] at this
    rcases this with h | h
    · exact h
    · exact absurd h.2.2 hn
  have hin : a ∈ faC := by
    have := upto_at fa_in a ha
    simp only [Bool.or_eq_true, decide_eq_true_eq] at this
    rcases this with h | h
    · exact absurd h hf
    · simpa using h
  have hml : fml a 108 = sh ((192 + a : Nat) : Int) := by
    have := upto_at fml_all a ha
    simp only [Bool.or_eq_true, Bool.and_eq_true, decide_eq_true_eq] at this
    rcases this with h | h
    · exact absurd h hf
    · exact h.2.2
  have HL : Hid ((fms.getD a (0, 0, [])).2.2.length ≤ 100) := by have := upto_at fms_len a ha; rwa [Nat.ble_eq] at this
  have HC : Hid (Lib.countB (sb (fms.getD a (0, 0, [])).2.2) (sb [120]) ≤ 100) := by have := upto_at fms_cnt a ha; rwa [Nat.ble_eq] at this
  have HE := Lib.hid (fun W => fa_at a hin W)
  have HP := Lib.hid (fun W => place_any ((192 + a : Nat) : Int) 3 a (by omega) (by omega) (by omega) W)
  have HG := Lib.hid hg
  rw [← hml]
  unfold fml
  clear hn hin hf hml hg
  generalize fms.getD a (0, 0, []) = s at *
  obtain ⟨c, al, o⟩ := s
  simp only at HL HC
  have k0 : 96 ≤ ((192 + a : Nat) : Int) := by omega
  have k1 : ((192 + a : Nat) : Int) < 224 := by omega
  generalize ((192 + a : Nat) : Int) = code at *
  have hx : (ByteArray.mk #[98, 119, 108]).extract 2 3 = sb [108] := by kernel_rfl
  go_enter Tryz.func24, Tryz.ntmps24
  go_wp2_with (first
    | (go_at_call 48; refine (HP.out _).mono ?_; rintro e w' ⟨rfl, rfl⟩)
    | (go_at_call 53; refine (HE.out _).mono ?_; rintro e w1 ⟨rfl, hb⟩; have hB := (sh0 w).below hb; have d0 := hB.cell 0 _ rfl; have d1 := hB.cell 1 _ rfl; have d2 := hB.cell 2 _ rfl; have dz := hB.free; have dl := hB.lt; have HB := Lib.hid hb; clear hb hB))
  have HS := Lib.hid (Sf.first (c := c) (al := al) (o := o) HB.out)
  clear d0 d1 d2 dz dl HB
  generalize w1.alloc (Obj.cells #[Value.int IntKind.i64 c, Value.int IntKind.i64 al, Value.string (sb o)] 66) = W at *
  generalize w1.heap.size = g at *
  have u2 := HS.out.var.cell 2 _ rfl
  have hw0 : IntKind.i64.wrap 2 = 2 := by kernel_rfl
  go_still_tail 6, (by kernel_rfl)
  change wpList _ _ _ _ _ W.drew
  have HV := Lib.hid (HG.out.below HS.out.bel.drew)
  have HS1 := Lib.hid (HS.out.below ((Below.refl _ _).drew))
  clear u2 HS
  generalize W.drew = V at *
  go_wp2_with (first
    | (go_at_call 54; refine (replace_any o 108 _ HL.out HC.out HV.out.ml).mono ?_; rintro e w2 ⟨rfl, hb⟩; have HS2 := Lib.hid (HS1.out.below hb); clear hb HS1 HV; generalize Lib.replaceAll o [120] [108] = o2 at *; have x0 := HS2.out.var.cell 0 _ rfl; have x1 := HS2.out.var.cell 1 _ rfl; have x2 := HS2.out.var.cell 2 _ rfl; have xf := HS2.out.var.free; have y0 := HS2.out.res.cell 0 _ rfl; have y1 := HS2.out.res.cell 1 _ rfl; have y2 := HS2.out.res.cell 2 _ rfl; have yf := HS2.out.res.free; have ne := HS2.out.ne; have ll := HS2.out.var.lt; have lr := HS2.out.res.lt)
    | fail)
  exact bodyPost_ret (v := shv (c, al, o2)) (by simp [results, Tryz.results24, go_sem, y0, y1, y2]) rfl ⟨rfl, (((((HS2.out.bel.setCell HS2.out.g0 _).setCell (Nat.le_refl _) _).setCell (Nat.le_refl _) _).setCell (Nat.le_refl _) _))⟩

theorem shapeOf_any (k : Nat) (hk : k < 256) (hn : nms.getD k [] ≠ []) (w : World) (hg : Gl w) : Calls Tryz.prog 24 #[.int .i64 k] w (ShE w (sh (k : Int))) := by
  by_cases h1 : k < 64
  · exact shapeOf_early k h1 hn w
  by_cases h2 : 224 ≤ k
  · exact shapeOf_late k h2 hk hn w
  by_cases h3 : k < 120
  · exfalso
    have := upto_at gap_all (k - 64) (by omega)
    rw [show 64 + (k - 64) = k by omega] at this
    exact hn (by simpa using this)
  obtain ⟨r, a, hr, ha, hka⟩ : ∃ r a, r < 4 ∧ a < 32 ∧ k = 96 + 32 * r + a := ⟨(k - 96) / 32, (k - 96) % 32, by omega, by omega, by omega⟩
  by_cases h24 : 24 ≤ a
  · exact shapeOf_odd k r a hr ha h24 hka hn w
  have hr0 : r = 1 ∨ r = 2 ∨ r = 3 := by omega
  rcases hr0 with rfl | rfl | rfl
  · obtain rfl : k = 128 + a := by omega
    exact shapeOf_fam1 a (by omega) hn w hg
  · obtain rfl : k = 160 + a := by omega
    exact shapeOf_fam2 a (by omega) hn w hg
  · obtain rfl : k = 192 + a := by omega
    exact shapeOf_fam3 a (by omega) hn w hg

end Go.Proofs.YtppkpfkoggnbmaaGreatDoor.Cs.Ia

/- Contracts of package isa: Of. -/
namespace Go.Proofs.YtppkpfkoggnbmaaGreatDoor.Cs.Ia
open Go.RowKit

/-- A variable for what is answered, and a shape in another. -/
structure Of9 (w : World) (g : Nat) (c al : Int) (o : List UInt8) (W : World) : Prop where
  res : Bk W w.heap.size 41 [.int .i64 0, .string ⟨#[]⟩, .int .i64 0, .int .i64 0, .slice none 0 0]
  var : Bk W g 66 [.int .i64 c, .int .i64 al, .string (sb o)]
  g0 : w.heap.size < g
  bel : Below w.heap.size w W
theorem Of9.below {w W W' : World} {g : Nat} {c al : Int} {o : List UInt8} (h : Of9 w g c al o W) (b : Below W.heap.size W W') : Of9 w g c al o W' := ⟨h.res.below b, h.var.below b, h.g0, bel_trans h.bel b h.bel.size⟩
theorem oq0 (w : World) : Bk (w.alloc (.cells #[.int .i64 0, .string ⟨#[]⟩, .int .i64 0, .int .i64 0, .slice none 0 0] 41)) w.heap.size 41 [.int .i64 0, .string ⟨#[]⟩, .int .i64 0, .int .i64 0, .slice none 0 0] := Bk.new w _ [.int .i64 0, .string ⟨#[]⟩, .int .i64 0, .int .i64 0, .slice none 0 0]
theorem Of9.fin {w W W' : World} {g : Nat} {c al : Int} {o : List UInt8} (h : Of9 w g c al o W) {u : Value} {x : Oq} (hr : Ro W' u x.ops) (ha : Ab W.heap.size (Bl u)) (hb : Below W.heap.size W W') (a0 a1 a2 a3 a4 : Value) :
    Op1 w.heap.size (((((W'.setCell ⟨w.heap.size, 0, none⟩ a0).setCell ⟨w.heap.size, 1, none⟩ a1).setCell ⟨w.heap.size, 2, none⟩ a2).setCell ⟨w.heap.size, 3, none⟩ a3).setCell ⟨w.heap.size, 4, none⟩ a4) x u ∧
      Below w.heap.size w (((((W'.setCell ⟨w.heap.size, 0, none⟩ a0).setCell ⟨w.heap.size, 1, none⟩ a1).setCell ⟨w.heap.size, 2, none⟩ a2).setCell ⟨w.heap.size, 3, none⟩ a3).setCell ⟨w.heap.size, 4, none⟩ a4) := by
  have hs := h.res.lt
  have hn : ¬ Bl u w.heap.size := fun k => by have := ha _ k; omega
  have b := bel_trans h.bel hb h.bel.size
  exact ⟨⟨own_set (own_set (own_set (own_set (own_set hr hn _ _) hn _ _) hn _ _) hn _ _) hn _ _, fun k hk => by have := ha k hk; omega⟩,
   ((((b.setCell (Nat.le_refl _) _).setCell (Nat.le_refl _) _).setCell (Nat.le_refl _) _).setCell (Nat.le_refl _) _).setCell (Nat.le_refl _) _⟩
theorem far5 {W : World} {g q j : Nat} {v a0 a1 a2 a3 a4 : Value} (hne : g ≠ q) (h : W.cell? ⟨g, j, none⟩ = some v) :
    (((((W.setCell ⟨q, 0, none⟩ a0).setCell ⟨q, 1, none⟩ a1).setCell ⟨q, 2, none⟩ a2).setCell ⟨q, 3, none⟩ a3).setCell ⟨q, 4, none⟩ a4).cell? ⟨g, j, none⟩ = some v := by
  simp only [World.cell?, World.setCell] at h ⊢
  simp only [Array.getElem?_modify]
  simp only [if_neg (show ¬ q = g from fun e => hne e.symm)]
  exact h
theorem drewN_bel (W : World) (n : Nat) : Below W.heap.size W (W.drewN n) := by
  induction n with
  | zero => exact Below.refl _ _
  | succ n ih => exact ih.drew

theorem shs_len : upto 256 (fun k => Nat.ble (shs.getD k (0, 0, [])).2.2.length 1000) = true := by kernel_rfl

set_option maxHeartbeats 3200000 in
set_option maxRecDepth 100000 in
theorem of_any (code : Int) (w : World) (hg : Gl w) : Calls Tryz.prog 14 #[.int .i64 code] w (FoundE w (prg code)) := by
  have HN := Lib.hid (fun W h => nameOf_any code W h)
  have HG := Lib.hid hg
  clear hg
  by_cases h0 : nm code = []
  · have HP : Hid (prg code = (zq, false)) := by show prg code = _; unfold prg; rw [if_pos h0]
    rw [h0] at HN
    clear h0
    have HG1 := Lib.hid (HG.out.below (al1 w (.cells #[.int .i64 0, .string ⟨#[]⟩, .int .i64 0, .int .i64 0, .slice none 0 0] 41)))
    go_enter Tryz.func14, Tryz.ntmps14
    go_wp2_with (go_at_call 23; refine (HN.out _ HG1.out).mono ?_; rintro e w1 ⟨rfl, n, hw1⟩; have hb := drewN_bel (w.alloc (.cells #[.int .i64 0, .string ⟨#[]⟩, .int .i64 0, .int .i64 0, .slice none 0 0] 41)) n; rw [← hw1] at hb; have hB := (oq0 w).below hb; have d0 := hB.cell 0 _ rfl; have d1 := hB.cell 1 _ rfl; have d2 := hB.cell 2 _ rfl; have d3 := hB.cell 3 _ rfl; have d4 := hB.cell 4 _ rfl; have dz := hB.free; have HB := Lib.hid hb; clear hb hB hw1)
    refine bodyPost_ret (v := .tuple #[zq.val (.slice none 0 0), .bool false]) (by simp [results, Tryz.results14, go_sem, d0, d1, d2, d3, d4, zq]) rfl ?_
    show FoundE _ _ _ _
    rw [HP.out]
    exact ⟨_, rfl, op_none _ _ _ rfl, ((((((bel2 (al1 _ _) HB.out).setCell (Nat.le_refl _) _).setCell (Nat.le_refl _) _).setCell (Nat.le_refl _) _).setCell (Nat.le_refl _) _).setCell (Nat.le_refl _) _)⟩
  · have hc : 0 ≤ code ∧ code < 256 := by
      rcases Classical.em (0 ≤ code ∧ code < 256) with h | h
      · exact h
      · exact absurd (show nm code = [] by unfold nm; rw [if_neg h]) h0
    obtain ⟨k, rfl⟩ : ∃ k : Nat, code = k := ⟨code.toNat, by omega⟩
    have hk : k < 256 := by omega
    have hn : nms.getD k [] ≠ [] := by rw [← nm_at k hk]; exact h0
    have HP : Hid (prg (k : Int) = (⟨k, nm k, (sh k).1, (sh k).2.1, opl (sh k).2.2⟩, true)) := by show prg (k : Int) = _; unfold prg; rw [if_neg h0]
    have HS := Lib.hid (fun W h => shapeOf_any k hk hn W h)
    have hsl : (sh (k : Int)).2.2.length ≤ 1000 := by have := upto_at shs_len k hk; rwa [Nat.ble_eq] at this
    have he : (nm (k : Int) == []) = false := by simpa using h0
    have HG1 := Lib.hid (HG.out.below (al1 w (.cells #[.int .i64 0, .string ⟨#[]⟩, .int .i64 0, .int .i64 0, .slice none 0 0] 41)))
    clear hc hn h0 hk
    generalize sh (k : Int) = s at *
    obtain ⟨c, al, o⟩ := s
    have HO := Lib.hid (fun W => operands_any o hsl W)
    clear hsl
    generalize nm (k : Int) = l at *
    go_enter Tryz.func14, Tryz.ntmps14
    go_wp2_with (first
      | (go_at_call 23; refine (HN.out _ HG1.out).mono ?_; rintro e w1 ⟨rfl, n, hw1⟩; have hb1 := drewN_bel (w.alloc (.cells #[.int .i64 0, .string ⟨#[]⟩, .int .i64 0, .int .i64 0, .slice none 0 0] 41)) n; rw [← hw1] at hb1; have HB1 := Lib.hid hb1; have HB0 := Lib.hid ((oq0 w).below hb1); clear hb1 hw1)
      | (go_at_call 24; refine (HS.out _ (HG1.out.below HB1.out)).mono ?_; rintro e w2 ⟨rfl, hb2⟩; have HX : Hid (Of9 w w2.heap.size c al o (w2.alloc (.cells #[.int .i64 c, .int .i64 al, .string (sb o)] 66))) := ⟨(HB0.out.below hb2).below (al1 _ _), Bk.new w2 _ [.int .i64 c, .int .i64 al, .string (sb o)], (HB0.out.below hb2).lt, bel2 (bel2 (bel2 (al1 _ _) HB1.out) hb2) (al1 _ _)⟩; clear hb2 HB0 HB1))
    clear HN HS HG1
    generalize w2.alloc (Obj.cells #[Value.int IntKind.i64 c, Value.int IntKind.i64 al, Value.string (sb o)] 66) = W at *
    generalize w2.heap.size = g at *
    have x0 := HX.out.var.cell 0 _ rfl
    have x1 := HX.out.var.cell 1 _ rfl
    have x2 := HX.out.var.cell 2 _ rfl
    have hgl := HX.out.var.lt
    have hq := HX.out.res.lt
    have hgq := HX.out.g0
    have hne : g ≠ w.heap.size := by omega
    have xd0 : W.drew.cell? ⟨g, 0, none⟩ = some (.int .i64 c) := x0
    have xd1 : W.drew.cell? ⟨g, 1, none⟩ = some (.int .i64 al) := x1
    have xd2 : W.drew.cell? ⟨g, 2, none⟩ = some (.string (sb o)) := x2
    have HXd := Lib.hid (HX.out.below ((Below.refl _ _).drew))
    have HPF : Hid (∀ (w3 : World) (A : Option Addr) (n cc : Nat), Ro w3 (.slice A n cc) (opl o) → Ab W.drew.heap.size (Bl (.slice A n cc)) → Below W.drew.heap.size W.drew w3 → _) := Lib.hid fun (w3 : World) (A : Option Addr) (n cc : Nat) hr ha hb => HXd.out.fin (W' := w3) (u := .slice A n cc) (x := ⟨k, l, c, al, opl o⟩) hr ha hb
    go_region_held3 (fun w' => w'.cell? ⟨g, 0, none⟩ = some (.int .i64 c) ∧ w'.cell? ⟨g, 1, none⟩ = some (.int .i64 al) ∧ w'.cell? ⟨g, 2, none⟩ = some (.string (sb o)))
      (first | (with_reducible exact ⟨z0, z1, z2⟩) | (with_reducible exact ⟨xd0, xd1, xd2⟩) | (with_reducible exact ⟨x0, x1, x2⟩) | (exact ⟨far5 hne z0, far5 hne z1, far5 hne z2⟩))
      ((go_at_call 25; refine (HO.out _).mono ?_; rintro e w3 ⟨A, n, cc, rfl, hr, ha, hb⟩; have HF := Lib.hid (HPF.out w3 A n cc hr ha hb); have hX3 := HXd.out.below hb; have z0 := hX3.var.cell 0 _ rfl; have z1 := hX3.var.cell 1 _ rfl; have z2 := hX3.var.cell 2 _ rfl; have y0 := hX3.res.cell 0 _ rfl; have y1 := hX3.res.cell 1 _ rfl; have y2 := hX3.res.cell 2 _ rfl; have y3 := hX3.res.cell 3 _ rfl; have y4 := hX3.res.cell 4 _ rfl; have yf := hX3.res.free; clear hX3 hr ha hb))
    all_goals
      go_wp2
      refine bodyPost_ret (v := .tuple #[(⟨k, l, c, al, opl o⟩ : Oq).val (.slice A n cc), .bool true]) (by simp [results, Tryz.results14, go_sem, y0, y1, y2, y3, y4]) rfl ?_
      show FoundE _ _ _ _
      rw [HP.out]
      exact ⟨_, rfl, HF.out _ _ _ _ _⟩

end Go.Proofs.YtppkpfkoggnbmaaGreatDoor.Cs.Ia

/- Contracts of package isa: Find; what each statement asks first. -/
namespace Go.Proofs.YtppkpfkoggnbmaaGreatDoor.Cs.Ia
open Go.RowKit

/-- The tables, and a variable for what is answered. -/
structure Fn (w : World) (W : World) : Prop where
  res : Bk W w.heap.size 41 [.int .i64 0, .string ⟨#[]⟩, .int .i64 0, .int .i64 0, .slice none 0 0]
  gl : Gl W
  bel : Below w.heap.size w W
theorem Fn.below {w W W' : World} (h : Fn w W) (b : Below W.heap.size W W') : Fn w W' := ⟨h.res.below b, h.gl.below b, bel_trans h.bel b h.bel.size⟩
theorem Fn.fin {w W W' : World} (h : Fn w W) {u : Value} {x : Oq} (ho : Op1 W.heap.size W' x u) (hb : Below W.heap.size W W') (a0 a1 a2 a3 a4 : Value) :
    Op1 w.heap.size (((((W'.setCell ⟨w.heap.size, 0, none⟩ a0).setCell ⟨w.heap.size, 1, none⟩ a1).setCell ⟨w.heap.size, 2, none⟩ a2).setCell ⟨w.heap.size, 3, none⟩ a3).setCell ⟨w.heap.size, 4, none⟩ a4) x u ∧
      Below w.heap.size w (((((W'.setCell ⟨w.heap.size, 0, none⟩ a0).setCell ⟨w.heap.size, 1, none⟩ a1).setCell ⟨w.heap.size, 2, none⟩ a2).setCell ⟨w.heap.size, 3, none⟩ a3).setCell ⟨w.heap.size, 4, none⟩ a4) := by
  have hs := h.res.lt
  have hn : ¬ Bl u w.heap.size := fun k => by have := ho.2 _ k; omega
  have b := bel_trans h.bel hb h.bel.size
  exact ⟨⟨own_set (own_set (own_set (own_set (own_set ho.1 hn _ _) hn _ _) hn _ _) hn _ _) hn _ _, fun k hk => by have := ho.2 k hk; omega⟩,
   ((((b.setCell (Nat.le_refl _) _).setCell (Nat.le_refl _) _).setCell (Nat.le_refl _) _).setCell (Nat.le_refl _) _).setCell (Nat.le_refl _) _⟩
theorem Fn.fin2 {w W : World} (h : Fn w W) (a0 a1 a2 a3 a4 : Value) :
    Below w.heap.size w (((((W.setCell ⟨w.heap.size, 0, none⟩ a0).setCell ⟨w.heap.size, 1, none⟩ a1).setCell ⟨w.heap.size, 2, none⟩ a2).setCell ⟨w.heap.size, 3, none⟩ a3).setCell ⟨w.heap.size, 4, none⟩ a4) :=
  ((((h.bel.setCell (Nat.le_refl _) _).setCell (Nat.le_refl _) _).setCell (Nat.le_refl _) _).setCell (Nat.le_refl _) _).setCell (Nat.le_refl _) _

set_option maxHeartbeats 3200000 in
set_option maxRecDepth 100000 in
theorem find_any (n : List UInt8) (w : World) (hg : Gl w) : Calls Tryz.prog 78 #[.string (sb n)] w (FoundE w (fnd (docs.find? fun x => x.name == n))) := by
  have HF : Hid (Fn w (w.alloc (.cells #[.int .i64 0, .string ⟨#[]⟩, .int .i64 0, .int .i64 0, .slice none 0 0] 41))) := ⟨oq0 w, hg.below (al1 _ _), al1 _ _⟩
  clear hg
  by_cases h0 : n = []
  · have HP := Lib.hid (name_not n (.inl h0))
    subst h0
    generalize fnd (docs.find? fun x => x.name == []) = p at *
    go_enter Tryz.func78, Tryz.ntmps78
    go_wp2
    refine bodyPost_ret (v := .tuple #[zq.val (.slice none 0 0), .bool false]) (by simp [results, Tryz.results78, go_sem, zq]) rfl ?_
    show FoundE _ _ _ _
    rw [HP.out]
    exact ⟨_, rfl, op_none _ _ _ rfl, al1 _ _⟩
  · have he : (n == []) = false := by simpa using h0
    have HE := Lib.hid h0
    have HQ : Hid (∀ k : Nat, k < 256 → nm (k : Int) = n → fnd (docs.find? fun x => x.name == n) = prg k) := fun k hk h => by
      subst h
      exact name_at k hk h0
    have HR : Hid ((∀ j : Nat, j < 256 → nm (j : Int) ≠ n) → fnd (docs.find? fun x => x.name == n) = (zq, false)) := fun h => name_not n (.inr h)
    clear h0
    generalize fnd (docs.find? fun x => x.name == n) = p at *
    obtain ⟨x, b⟩ := p
    go_enter Tryz.func78, Tryz.ntmps78
    go_wp2
    generalize w.alloc (Obj.cells #[Value.int IntKind.i64 0, Value.string ⟨#[]⟩, Value.int IntKind.i64 0, Value.int IntKind.i64 0, Value.slice none 0 0] 41) = W at *
    go_loopw [8] (fun i wr => ∃ k : Nat, k ≤ 256 ∧ i = .int .i64 k ∧ Fn w wr ∧ ∀ j : Nat, j < k → nm (j : Int) ≠ n) (fun i _ => 256 - (intOf i).toNat)
    case atStart => exact ⟨0, Nat.zero_le _, rfl, HF.out, fun j hj => absurd hj (by omega)⟩
    case round =>
      clear HF
      obtain ⟨k, hk, rfl, hF, hN⟩ := hrel
      have HF := Lib.hid hF
      have HN := Lib.hid hN
      clear hF hN
      by_cases hlt : k < 256
      · have HA := Lib.hid (fun W' h => nameOf_any (k : Int) W' h)
        by_cases hm : nm (k : Int) = n
        · have HO := Lib.hid (fun W' h => of_any (k : Int) W' h)
          rw [← HQ.out k hlt hm] at HO
          rw [hm] at HA
          clear hm HQ HR HN
          go_wp2_with (first
            | (go_at_call 23; refine (HA.out _ HF.out.gl).mono ?_; rintro e w1 ⟨rfl, m, hw1⟩; have hb1 := drewN_bel wr m; rw [← hw1] at hb1; have HF1 := Lib.hid (HF.out.below hb1); clear hb1 hw1)
            | (go_at_call 14; refine (HO.out _ HF1.out.gl).mono ?_; rintro e w2 ⟨u, rfl, ho, hb⟩; obtain ⟨A, c, rfl⟩ := ro_slice ho.1; have HX := Lib.hid (HF1.out.fin ho hb); have hr := HF1.out.res.below hb; have y0 := hr.cell 0 _ rfl; have y1 := hr.cell 1 _ rfl; have y2 := hr.cell 2 _ rfl; have y3 := hr.cell 3 _ rfl; have y4 := hr.cell 4 _ rfl; have yf := hr.free; clear hr ho hb HF1))
          refine bodyPost_ret (v := .tuple #[x.val (.slice A x.ops.length c), .bool b]) (by simp [results, Tryz.results78, go_sem, y0, y1, y2, y3, y4]) rfl ?_
          exact ⟨_, rfl, HX.out _ _ _ _ _⟩
        · have hb1 : (nm (k : Int) == n) = false := by simpa using hm
          have HT : Hid (∀ j : Nat, j < k + 1 → nm (j : Int) ≠ n) := fun j hj => by
            rcases Nat.lt_succ_iff_lt_or_eq.1 hj with h | h
            · exact HN.out j h
            · rw [h]; exact hm
          clear hm HN HQ HR
          generalize nm (k : Int) = l at *
          go_wp2_with (go_at_call 23; refine (HA.out _ HF.out.gl).mono ?_; rintro e w1 ⟨rfl, m, hw1⟩; have hb2 := drewN_bel wr m; rw [← hw1] at hb2; have HF1 := Lib.hid (HF.out.below hb2); clear hb2 hw1)
          go_roundw
          case rel => exact ⟨k + 1, by omega, by go_num, HF1.out, HT.out⟩
          case measure => first | (simp [intOf]; done) | (simp [intOf]; omega)
      · have HP := Lib.hid (HR.out (fun j hj => HN.out j (by omega)))
        have hr := HF.out.res
        have y0 := hr.cell 0 _ rfl
        have y1 := hr.cell 1 _ rfl
        have y2 := hr.cell 2 _ rfl
        have y3 := hr.cell 3 _ rfl
        have y4 := hr.cell 4 _ rfl
        have yf := hr.free
        clear hr HQ HR HN
        go_wp2
        refine bodyPost_ret (v := .tuple #[zq.val (.slice none 0 0), .bool false]) (by simp [results, Tryz.results78, go_sem, y0, y1, y2, y3, y4, zq]) rfl ?_
        show FoundE _ _ _ _
        rw [HP.out]
        exact ⟨_, rfl, op_none _ _ _ rfl, HF.out.fin2 _ _ _ _ _⟩

end Go.Proofs.YtppkpfkoggnbmaaGreatDoor.Cs.Ia
