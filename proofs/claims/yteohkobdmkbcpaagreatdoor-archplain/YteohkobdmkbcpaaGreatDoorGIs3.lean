import Derived.Shelf.Strings.Replace
import Derived.Test.YteohkobdmkbcpaaGreatDoorProg
import Derived.Test.YteohkobdmkbcpaaGreatDoorGIs2
import Derived.StillTailTactics
import Derived.Deep.RegionHeld3
import Derived.Laws.MakeOwn
import Derived.IntWalk

/- Contracts of Go's library, as the shelf has them, at this program (its numbers alone are laid here): strings_ReplaceAll. -/
namespace Go.Proofs.YteohkobdmkbcpaaGreatDoor.Tl.Ia
open Go.Shelf
def lays155_ren : Go.Shelf.Ren := ⟨fun | 155 => 145 | 154 => 203 | 138 => 239 | 165 => 240 | 143 => 241 | 166 => 242 | 197 => 243 | 169 => 244 | 195 => 255 | 218 => 256 | 240 => 257 | 241 => 258 | 219 => 259 | 260 => 260 | 276 => 264 | 277 => 246 | 217 => 263 | 225 => 265 | 224 => 266 | 267 => 267 | 266 => 268 | 314 => 269 | n => n, fun | 9 => 9 | 3 => 3 | 4 => 4 | 72 => 266 | 0 => 0 | 76 => 270 | 105 => 272 | 21 => 21 | 5 => 5 | 70 => 264 | 20 => 20 | 37 => 22 | 75 => 269 | 127 => 285 | 164 => 290 | 46 => 54 | 119 => 293 | 139 => 296 | 138 => 295 | 146 => 286 | 51 => 23 | 80 => 274 | n => n, fun | 1 => 4 | 3 => 5 | 4 => 6 | n => n⟩
theorem lays155 : Go.Proofs.Lays.n155 Tryz.prog lays155_ren := {
  mixed := by kernel_rfl
  f138 := Tryz.func239.trans (congrArg some (by kernel_rfl))
  f143 := Tryz.func241.trans (congrArg some (by kernel_rfl))
  f154 := Tryz.func203.trans (congrArg some (by kernel_rfl))
  f155 := Tryz.func145.trans (congrArg some (by kernel_rfl))
  f165 := Tryz.func240.trans (congrArg some (by kernel_rfl))
  f166 := Tryz.func242.trans (congrArg some (by kernel_rfl))
  f169 := Tryz.func244.trans (congrArg some (by kernel_rfl))
  f195 := Tryz.func255.trans (congrArg some (by kernel_rfl))
  f197 := Tryz.func243.trans (congrArg some (by kernel_rfl))
  f217 := Tryz.func263.trans (congrArg some (by kernel_rfl))
  f218 := Tryz.func256.trans (congrArg some (by kernel_rfl))
  f219 := Tryz.func259.trans (congrArg some (by kernel_rfl))
  f224 := Tryz.func266.trans (congrArg some (by kernel_rfl))
  f225 := Tryz.func265.trans (congrArg some (by kernel_rfl))
  f240 := Tryz.func257.trans (congrArg some (by kernel_rfl))
  f241 := Tryz.func258.trans (congrArg some (by kernel_rfl))
  f260 := Tryz.func260.trans (congrArg some (by kernel_rfl))
  f266 := Tryz.func268.trans (congrArg some (by kernel_rfl))
  f267 := Tryz.func267.trans (congrArg some (by kernel_rfl))
  f276 := Tryz.func264.trans (congrArg some (by kernel_rfl))
  f277 := Tryz.func246.trans (congrArg some (by kernel_rfl))
  f314 := Tryz.func269.trans (congrArg some (by kernel_rfl))
  t0 := Tryz.underlying0
  a0 := Tryz.isAgg0
  z0 := Tryz.sizeOf0
  v0 := Tryz.zeroValue0
  t3 := Tryz.underlying3
  a3 := Tryz.isAgg3
  z3 := Tryz.sizeOf3
  v3 := Tryz.zeroValue3
  t4 := Tryz.underlying4
  a4 := Tryz.isAgg4
  z4 := Tryz.sizeOf4
  v4 := Tryz.zeroValue4
  t5 := Tryz.underlying5
  a5 := Tryz.isAgg5
  z5 := Tryz.sizeOf5
  v5 := Tryz.zeroValue5
  t9 := Tryz.underlying9
  a9 := Tryz.isAgg9
  z9 := Tryz.sizeOf9
  v9 := Tryz.zeroValue9
  t20 := Tryz.underlying20
  a20 := Tryz.isAgg20
  z20 := Tryz.sizeOf20
  v20 := Tryz.zeroValue20
  t21 := Tryz.underlying21
  a21 := Tryz.isAgg21
  z21 := Tryz.sizeOf21
  v21 := Tryz.zeroValue21
  t37 := Tryz.underlying22
  a37 := Tryz.isAgg22
  z37 := Tryz.sizeOf22
  v37 := Tryz.zeroValue22
  t46 := Tryz.underlying54
  a46 := Tryz.isAgg54
  z46 := Tryz.sizeOf54
  v46 := Tryz.zeroValue54
  t51 := Tryz.underlying23
  a51 := Tryz.isAgg23
  z51 := Tryz.sizeOf23
  v51 := Tryz.zeroValue23
  t70 := Tryz.underlying264
  a70 := Tryz.isAgg264
  z70 := Tryz.sizeOf264
  v70 := Tryz.zeroValue264
  t72 := Tryz.underlying266
  a72 := Tryz.isAgg266
  z72 := Tryz.sizeOf266
  v72 := Tryz.zeroValue266
  t75 := Tryz.underlying269
  a75 := Tryz.isAgg269
  z75 := Tryz.sizeOf269
  v75 := Tryz.zeroValue269
  t76 := Tryz.underlying270
  a76 := Tryz.isAgg270
  z76 := Tryz.sizeOf270
  v76 := Tryz.zeroValue270
  t105 := Tryz.underlying272
  a105 := Tryz.isAgg272
  z105 := Tryz.sizeOf272
  v105 := Tryz.zeroValue272
  t119 := Tryz.underlying293
  a119 := Tryz.isAgg293
  z119 := Tryz.sizeOf293
  t127 := Tryz.underlying285
  a127 := Tryz.isAgg285
  z127 := Tryz.sizeOf285
  v127 := Tryz.zeroValue285
  t138 := Tryz.underlying295
  a138 := Tryz.isAgg295
  z138 := Tryz.sizeOf295
  v138 := Tryz.zeroValue295
  t139 := Tryz.underlying296
  a139 := Tryz.isAgg296
  z139 := Tryz.sizeOf296
  v139 := Tryz.zeroValue296
  t146 := Tryz.underlying286
  a146 := Tryz.isAgg286
  z146 := Tryz.sizeOf286
  v146 := Tryz.zeroValue286
  t164 := Tryz.underlying290
  a164 := Tryz.isAgg290
  z164 := Tryz.sizeOf290
  v164 := Tryz.zeroValue290
  g1 := by kernel_rfl
  g3 := by kernel_rfl
  g4 := by kernel_rfl }
theorem Builder_Extra_155 : Builder.Extra Tryz.prog lays155_ren := {
  sizeBuilder := by kernel_rfl
  liesBuilder := by kernel_rfl
  t5 := Tryz.underlying5
  a5 := Tryz.isAgg5
  z5 := Tryz.sizeOf5
  v5 := Tryz.zeroValue5
  infoByte := by kernel_rfl
  cellsByte := by kernel_rfl
  sizeByte := by kernel_rfl
  neB5 := by decide }
open Go.RowKit Go.Lib in
theorem strings_ReplaceAll (s old new : ByteArray) (m : Int) (w : World) (hs : s.size < 4294967281) (hm : w.cell? ⟨4, 0, none⟩ = some (.int .i64 m)) (h1 : 1 ≤ old.size) (hlen : s.size + Lib.countB s old * new.size ≤ 140737488355328) :
    Calls Tryz.prog 145 #[.string s, .string old, .string new] w fun e w' =>
      e = .returned (.string ⟨(Lib.replaceAll s.data.toList old.data.toList new.data.toList).toArray⟩) ∧ Below w.heap.size w w' := Any.strings_ReplaceAll lays155 Builder_Extra_155 s old new m w hs hm h1 hlen

end Go.Proofs.YteohkobdmkbcpaaGreatDoor.Tl.Ia

/- Contracts of package isa: shapeOf. -/
namespace Go.Proofs.YteohkobdmkbcpaaGreatDoor.Tl.Ia
open Go.RowKit

/-- A family's shape with a letter. -/
def fml (a : Nat) (c : UInt8) : Int × Int × List UInt8 := ((fms.getD a (0, 0, [])).1, (fms.getD a (0, 0, [])).2.1, Lib.replaceAll (fms.getD a (0, 0, [])).2.2 [120] [c])
theorem fml_all : upto 24 (fun a => decide (fam.getD a [] = []) || (decide (fml a 98 = sh ((128 + a : Nat) : Int)) && (decide (fml a 119 = sh ((160 + a : Nat) : Int)) && decide (fml a 108 = sh ((192 + a : Nat) : Int))))) = true := by kernel_rfl
theorem fms_len : upto 24 (fun a => Nat.ble (fms.getD a (0, 0, [])).2.2.length 100) = true := by kernel_rfl
theorem fms_cnt : upto 24 (fun a => Nat.ble (Lib.countB (sb (fms.getD a (0, 0, [])).2.2) (sb [120])) 100) = true := by kernel_rfl
theorem fam_nms : upto 24 (fun a => !decide (fam.getD a [] = []) || (decide (nms.getD (128 + a) [] = []) && (decide (nms.getD (160 + a) [] = []) && decide (nms.getD (192 + a) [] = [])))) = true := by kernel_rfl
theorem sh0 (w : World) : Bk (w.alloc (.cells #[.int .i64 0, .int .i64 0, .string ⟨#[]⟩] 144)) w.heap.size 144 [.int .i64 0, .int .i64 0, .string ⟨#[]⟩] := Bk.new w _ [.int .i64 0, .int .i64 0, .string ⟨#[]⟩]
theorem replace_any (l : List UInt8) (c : UInt8) (w : World) (hl : l.length ≤ 100) (hc : Lib.countB (sb l) (sb [120]) ≤ 100) (hm : ∃ m, w.cell? ⟨4, 0, none⟩ = some (.int .i64 m)) :
    Calls Tryz.prog 145 #[.string (sb l), .string (sb [120]), .string (sb [c])] w fun e w' => e = .returned (.string (sb (Lib.replaceAll l [120] [c]))) ∧ Below w.heap.size w w' := by
  obtain ⟨m, hm⟩ := hm
  have h1 : (sb l).size ≤ 100 := by rw [sb_size]; exact hl
  have h2 : (sb [c]).size = 1 := by rw [sb_size]; rfl
  exact strings_ReplaceAll (sb l) (sb [120]) (sb [c]) m w (by omega) hm (by rw [sb_size]; decide) (by rw [h2]; omega)

/-- One of the switches answers. -/
theorem fin3 {w w1 : World} (hb : Below (w.alloc (.cells #[.int .i64 0, .int .i64 0, .string ⟨#[]⟩] 144)).heap.size (w.alloc (.cells #[.int .i64 0, .int .i64 0, .string ⟨#[]⟩] 144)) w1) (a0 a1 a2 : Value) :
    Below w.heap.size w (((w1.setCell ⟨w.heap.size, 0, none⟩ a0).setCell ⟨w.heap.size, 1, none⟩ a1).setCell ⟨w.heap.size, 2, none⟩ a2) :=
  (((bel2 (al1 _ _) hb).setCell (Nat.le_refl _) _).setCell (Nat.le_refl _) _).setCell (Nat.le_refl _) _

set_option maxHeartbeats 3200000 in
set_option maxRecDepth 100000 in
theorem shapeOf_early (k : Nat) (hk : k < 64) (hn : nms.getD k [] ≠ []) (w : World) : Calls Tryz.prog 82 #[.int .i64 k] w (ShE w (sh (k : Int))) := by
  have hin : k ∈ eaC := by
    have := upto_at ea_in k (by omega)
    simp only [Bool.or_eq_true, decide_eq_true_eq, Nat.ble_eq] at this
    rcases this with (h | h) | h
    · exact absurd h hn
    · omega
    · simpa using h
  have HE := Lib.hid (fun W => ea_at k hin W)
  clear hn hin
  generalize sh (k : Int) = s at *
  obtain ⟨c, a, o⟩ := s
  go_enter Tryz.func82, Tryz.ntmps82
  go_wp2_with (go_at_call 141; refine (HE.out _).mono ?_; rintro e w1 ⟨rfl, hb⟩; have hB := (sh0 w).below hb; have d0 := hB.cell 0 _ rfl; have d1 := hB.cell 1 _ rfl; have d2 := hB.cell 2 _ rfl; have dz := hB.free; have HB := Lib.hid hb; clear hb hB)
  exact bodyPost_ret (v := shv (c, a, o)) (by simp [results, Tryz.results82, go_sem, d0, d1, d2]) rfl ⟨rfl, fin3 HB.out _ _ _⟩

set_option maxHeartbeats 3200000 in
set_option maxRecDepth 100000 in
theorem shapeOf_late (k : Nat) (hk : 224 ≤ k) (hk2 : k < 256) (hn : nms.getD k [] ≠ []) (w : World) : Calls Tryz.prog 82 #[.int .i64 k] w (ShE w (sh (k : Int))) := by
  have hin : k ∈ laC := by
    have := upto_at la_in k (by omega)
    simp only [Bool.or_eq_true, decide_eq_true_eq, Bool.not_eq_true'] at this
    rcases this with (h | h) | h
    · exact absurd h hn
    · have : Nat.ble 224 k = true := Nat.ble_eq_true_of_le hk
      rw [this] at h; cases h
    · simpa using h
  have HE := Lib.hid (fun W => la_at k hin W)
  clear hn hin
  generalize sh (k : Int) = s at *
  obtain ⟨c, a, o⟩ := s
  go_enter Tryz.func82, Tryz.ntmps82
  go_wp2_with (go_at_call 142; refine (HE.out _).mono ?_; rintro e w1 ⟨rfl, hb⟩; have hB := (sh0 w).below hb; have d0 := hB.cell 0 _ rfl; have d1 := hB.cell 1 _ rfl; have d2 := hB.cell 2 _ rfl; have dz := hB.free; have HB := Lib.hid hb; clear hb hB)
  exact bodyPost_ret (v := shv (c, a, o)) (by simp [results, Tryz.results82, go_sem, d0, d1, d2]) rfl ⟨rfl, fin3 HB.out _ _ _⟩

set_option maxHeartbeats 3200000 in
set_option maxRecDepth 100000 in
theorem shapeOf_odd (k r a : Nat) (hr : r < 4) (ha : a < 32) (h24 : 24 ≤ a) (hka : k = 96 + 32 * r + a) (hn : nms.getD k [] ≠ []) (w : World) : Calls Tryz.prog 82 #[.int .i64 k] w (ShE w (sh (k : Int))) := by
  have hin : k ∈ odC := by
    have := upto_at od_in k (by omega)
    simp only [Bool.or_eq_true, decide_eq_true_eq, Bool.not_eq_true', Nat.ble_eq] at this
    rcases this with (h | h | h | h) | h
    · exact absurd h hn
    · have : Nat.ble 96 k = true := Nat.ble_eq_true_of_le (by omega)
      rw [this] at h; cases h
    · omega
    · have : Nat.ble 24 ((k - 96) % 32) = true := Nat.ble_eq_true_of_le (by omega)
      rw [this] at h; cases h
    · simpa using h
  have HE := Lib.hid (fun W => od_at k hin W)
  have HP := Lib.hid (fun W => place_any (k : Int) r a (by omega) hr ha W)
  have k0 : 96 ≤ k := by omega
  have k1 : k < 224 := by omega
  have a1 : (24 : Int) ≤ (a : Int) := by omega
  clear hn hin hka
  generalize sh (k : Int) = s at *
  obtain ⟨c, al, o⟩ := s
  go_enter Tryz.func82, Tryz.ntmps82
  go_wp2_with (first
    | (go_at_call 139; refine (HP.out _).mono ?_; rintro e w' ⟨rfl, rfl⟩)
    | (go_at_call 143; refine (HE.out _).mono ?_; rintro e w1 ⟨rfl, hb⟩; have hB := (sh0 w).below hb; have d0 := hB.cell 0 _ rfl; have d1 := hB.cell 1 _ rfl; have d2 := hB.cell 2 _ rfl; have dz := hB.free; have HB := Lib.hid hb; clear hb hB))
  exact bodyPost_ret (v := shv (c, al, o)) (by simp [results, Tryz.results82, go_sem, d0, d1, d2]) rfl ⟨rfl, fin3 HB.out _ _ _⟩

/-- A shape in a variable, another variable for what is answered. -/
structure Sf (w : World) (g : Nat) (c al : Int) (o : List UInt8) (W : World) : Prop where
  res : Bk W w.heap.size 144 [.int .i64 0, .int .i64 0, .string ⟨#[]⟩]
  var : Bk W g 144 [.int .i64 c, .int .i64 al, .string (sb o)]
  ne : w.heap.size ≠ g
  g0 : w.heap.size ≤ g
  bel : Below w.heap.size w W
theorem Sf.below {w W W' : World} {g : Nat} {c al : Int} {o : List UInt8} (h : Sf w g c al o W) (b : Below W.heap.size W W') : Sf w g c al o W' := ⟨h.res.below b, h.var.below b, h.ne, h.g0, bel_trans h.bel b h.bel.size⟩
theorem Sf.ops {w W : World} {g : Nat} {c al : Int} {o : List UInt8} (h : Sf w g c al o W) (p : List UInt8) : Sf w g c al p (W.setCell ⟨g, 2, none⟩ (.string (sb p))) := ⟨h.res.other h.ne _ _, h.var.set 2 _, h.ne, h.g0, h.bel.setCell h.g0 _⟩
theorem Sf.first {w w1 : World} {c al : Int} {o : List UInt8} (hb : Below (w.alloc (.cells #[.int .i64 0, .int .i64 0, .string ⟨#[]⟩] 144)).heap.size (w.alloc (.cells #[.int .i64 0, .int .i64 0, .string ⟨#[]⟩] 144)) w1) :
    Sf w w1.heap.size c al o (w1.alloc (.cells #[.int .i64 c, .int .i64 al, .string (sb o)] 144)) := by
  have hB := (sh0 w).below hb
  have hl := hB.lt
  have b : Below w1.heap.size w1 (w1.alloc (.cells #[.int .i64 c, .int .i64 al, .string (sb o)] 144)) := al1 _ _
  exact ⟨hB.below b, Bk.new w1 _ [.int .i64 c, .int .i64 al, .string (sb o)], by omega, by omega, bel2 (bel2 (al1 _ _) hb) b⟩

set_option maxHeartbeats 3200000 in
set_option maxRecDepth 100000 in
theorem shapeOf_fam1 (a : Nat) (ha : a < 24) (hn : nms.getD (128 + a) [] ≠ []) (w : World) (hg : Gl w) : Calls Tryz.prog 82 #[.int .i64 ((128 + a : Nat) : Int)] w (ShE w (sh ((128 + a : Nat) : Int))) := by
  have hf : fam.getD a [] ≠ [] := by
    have := upto_at fam_nms a ha
    simp only [Bool.or_eq_true, Bool.and_eq_true, decide_eq_true_eq, Bool.not_eq_true', decide_eq_false_iff_not] at this
    rcases this with h | h
    · exact h
    · exact absurd h.1 hn
  have hin : a ∈ faC := by
    have := upto_at fa_in a ha
    simp only [Bool.or_eq_true, decide_eq_true_eq] at this
    rcases this with h | h
    · exact absurd h hf
    · simpa using h
  have hml : fml a 98 = sh ((128 + a : Nat) : Int) := by
    have := upto_at fml_all a ha
    simp only [Bool.or_eq_true, Bool.and_eq_true, decide_eq_true_eq] at this
    rcases this with h | h
    · exact absurd h hf
    · exact h.1
  have HL : Hid ((fms.getD a (0, 0, [])).2.2.length ≤ 100) := by have := upto_at fms_len a ha; rwa [Nat.ble_eq] at this
  have HC : Hid (Lib.countB (sb (fms.getD a (0, 0, [])).2.2) (sb [120]) ≤ 100) := by have := upto_at fms_cnt a ha; rwa [Nat.ble_eq] at this
  have HE := Lib.hid (fun W => fa_at a hin W)
  have HP := Lib.hid (fun W => place_any ((128 + a : Nat) : Int) 1 a (by omega) (by omega) (by omega) W)
  have HG := Lib.hid hg
  rw [← hml]
  unfold fml
  clear hn hin hf hml hg
  generalize fms.getD a (0, 0, []) = s at *
  obtain ⟨c, al, o⟩ := s
  simp only at HL HC
  have k0 : 96 ≤ ((128 + a : Nat) : Int) := by omega
  have k1 : ((128 + a : Nat) : Int) < 224 := by omega
  generalize ((128 + a : Nat) : Int) = code at *
  have hx : (ByteArray.mk #[98, 119, 108]).extract 0 1 = sb [98] := by kernel_rfl
  go_enter Tryz.func82, Tryz.ntmps82
  go_wp2_with (first
    | (go_at_call 139; refine (HP.out _).mono ?_; rintro e w' ⟨rfl, rfl⟩)
    | (go_at_call 144; refine (HE.out _).mono ?_; rintro e w1 ⟨rfl, hb⟩; have hB := (sh0 w).below hb; have d0 := hB.cell 0 _ rfl; have d1 := hB.cell 1 _ rfl; have d2 := hB.cell 2 _ rfl; have dz := hB.free; have dl := hB.lt; have HB := Lib.hid hb; clear hb hB))
  have HS := Lib.hid (Sf.first (c := c) (al := al) (o := o) HB.out)
  clear d0 d1 d2 dz dl HB
  generalize w1.alloc (Obj.cells #[Value.int IntKind.i64 c, Value.int IntKind.i64 al, Value.string (sb o)] 144) = W at *
  generalize w1.heap.size = g at *
  have u2 := HS.out.var.cell 2 _ rfl
  have hw0 : IntKind.i64.wrap 0 = 0 := by kernel_rfl
  go_still_tail 6, (by kernel_rfl)
  change wpList _ _ _ _ _ W.drew
  have HV := Lib.hid (HG.out.below HS.out.bel.drew)
  have HS1 := Lib.hid (HS.out.below ((Below.refl _ _).drew))
  clear u2 HS
  generalize W.drew = V at *
  go_wp2_with (first
    | (go_at_call 145; refine (replace_any o 98 _ HL.out HC.out HV.out.ml).mono ?_; rintro e w2 ⟨rfl, hb⟩; have HS2 := Lib.hid (HS1.out.below hb); clear hb HS1 HV; generalize Lib.replaceAll o [120] [98] = o2 at *; have x0 := HS2.out.var.cell 0 _ rfl; have x1 := HS2.out.var.cell 1 _ rfl; have x2 := HS2.out.var.cell 2 _ rfl; have xf := HS2.out.var.free; have y0 := HS2.out.res.cell 0 _ rfl; have y1 := HS2.out.res.cell 1 _ rfl; have y2 := HS2.out.res.cell 2 _ rfl; have yf := HS2.out.res.free; have ne := HS2.out.ne; have ll := HS2.out.var.lt; have lr := HS2.out.res.lt)
    | fail)
  exact bodyPost_ret (v := shv (c, al, o2)) (by simp [results, Tryz.results82, go_sem, y0, y1, y2]) rfl ⟨rfl, (((((HS2.out.bel.setCell HS2.out.g0 _).setCell (Nat.le_refl _) _).setCell (Nat.le_refl _) _).setCell (Nat.le_refl _) _))⟩

set_option maxHeartbeats 3200000 in
set_option maxRecDepth 100000 in
theorem shapeOf_fam2 (a : Nat) (ha : a < 24) (hn : nms.getD (160 + a) [] ≠ []) (w : World) (hg : Gl w) : Calls Tryz.prog 82 #[.int .i64 ((160 + a : Nat) : Int)] w (ShE w (sh ((160 + a : Nat) : Int))) := by
  have hf : fam.getD a [] ≠ [] := by
    have := upto_at fam_nms a ha
    simp only [Bool.or_eq_true, Bool.and_eq_true, decide_eq_true_eq, Bool.not_eq_true', decide_eq_false_iff_not] at this
    rcases this with h | h
    · exact h
    · exact absurd h.2.1 hn
  have hin : a ∈ faC := by
    have := upto_at fa_in a ha
    simp only [Bool.or_eq_true, decide_eq_true_eq] at this
    rcases this with h | h
    · exact absurd h hf
    · simpa using h
  have hml : fml a 119 = sh ((160 + a : Nat) : Int) := by
    have := upto_at fml_all a ha
    simp only [Bool.or_eq_true, Bool.and_eq_true, decide_eq_true_eq] at this
    rcases this with h | h
    · exact absurd h hf
    · exact h.2.1
  have HL : Hid ((fms.getD a (0, 0, [])).2.2.length ≤ 100) := by have := upto_at fms_len a ha; rwa [Nat.ble_eq] at this
  have HC : Hid (Lib.countB (sb (fms.getD a (0, 0, [])).2.2) (sb [120]) ≤ 100) := by have := upto_at fms_cnt a ha; rwa [Nat.ble_eq] at this
  have HE := Lib.hid (fun W => fa_at a hin W)
  have HP := Lib.hid (fun W => place_any ((160 + a : Nat) : Int) 2 a (by omega) (by omega) (by omega) W)
  have HG := Lib.hid hg
  rw [← hml]
  unfold fml
  clear hn hin hf hml hg
  generalize fms.getD a (0, 0, []) = s at *
  obtain ⟨c, al, o⟩ := s
  simp only at HL HC
  have k0 : 96 ≤ ((160 + a : Nat) : Int) := by omega
  have k1 : ((160 + a : Nat) : Int) < 224 := by omega
  generalize ((160 + a : Nat) : Int) = code at *
  have hx : (ByteArray.mk #[98, 119, 108]).extract 1 2 = sb [119] := by kernel_rfl
  go_enter Tryz.func82, Tryz.ntmps82
  go_wp2_with (first
    | (go_at_call 139; refine (HP.out _).mono ?_; rintro e w' ⟨rfl, rfl⟩)
    | (go_at_call 144; refine (HE.out _).mono ?_; rintro e w1 ⟨rfl, hb⟩; have hB := (sh0 w).below hb; have d0 := hB.cell 0 _ rfl; have d1 := hB.cell 1 _ rfl; have d2 := hB.cell 2 _ rfl; have dz := hB.free; have dl := hB.lt; have HB := Lib.hid hb; clear hb hB))
  have HS := Lib.hid (Sf.first (c := c) (al := al) (o := o) HB.out)
  clear d0 d1 d2 dz dl HB
  generalize w1.alloc (Obj.cells #[Value.int IntKind.i64 c, Value.int IntKind.i64 al, Value.string (sb o)] 144) = W at *
  generalize w1.heap.size = g at *
  have u2 := HS.out.var.cell 2 _ rfl
  have hw0 : IntKind.i64.wrap 1 = 1 := by kernel_rfl
  go_still_tail 6, (by kernel_rfl)
  change wpList _ _ _ _ _ W.drew
  have HV := Lib.hid (HG.out.below HS.out.bel.drew)
  have HS1 := Lib.hid (HS.out.below ((Below.refl _ _).drew))
  clear u2 HS
  generalize W.drew = V at *
  go_wp2_with (first
    | (go_at_call 145; refine (replace_any o 119 _ HL.out HC.out HV.out.ml).mono ?_; rintro e w2 ⟨rfl, hb⟩; have HS2 := Lib.hid (HS1.out.below hb); clear hb HS1 HV; generalize Lib.replaceAll o [120] [119] = o2 at *; have x0 := HS2.out.var.cell 0 _ rfl; have x1 := HS2.out.var.cell 1 _ rfl; have x2 := HS2.out.var.cell 2 _ rfl; have xf := HS2.out.var.free; have y0 := HS2.out.res.cell 0 _ rfl; have y1 := HS2.out.res.cell 1 _ rfl; have y2 := HS2.out.res.cell 2 _ rfl; have yf := HS2.out.res.free; have ne := HS2.out.ne; have ll := HS2.out.var.lt; have lr := HS2.out.res.lt)
    | fail)
  exact bodyPost_ret (v := shv (c, al, o2)) (by simp [results, Tryz.results82, go_sem, y0, y1, y2]) rfl ⟨rfl, (((((HS2.out.bel.setCell HS2.out.g0 _).setCell (Nat.le_refl _) _).setCell (Nat.le_refl _) _).setCell (Nat.le_refl _) _))⟩

set_option maxHeartbeats 3200000 in
set_option maxRecDepth 100000 in
theorem shapeOf_fam3 (a : Nat) (ha : a < 24) (hn : nms.getD (192 + a) [] ≠ []) (w : World) (hg : Gl w) : Calls Tryz.prog 82 #[.int .i64 ((192 + a : Nat) : Int)] w (ShE w (sh ((192 + a : Nat) : Int))) := by
  have hf : fam.getD a [] ≠ [] := by
    have := upto_at fam_nms a ha
    simp only [Bool.or_eq_true, Bool.and_eq_true, decide_eq_true_eq, Bool.not_eq_true', decide_eq_false_iff_not] at this
    rcases this with h | h
    · exact h
    · exact absurd h.2.2 hn
  have hin : a ∈ faC := by
    have := upto_at fa_in a ha
    simp only [Bool.or_eq_true, decide_eq_true_eq] at this
    rcases this with h | h
    · exact absurd h hf
    · simpa using h
  have hml : fml a 108 = sh ((192 + a : Nat) : Int) := by
    have := upto_at fml_all a ha
    simp only [Bool.or_eq_true, Bool.and_eq_true, decide_eq_true_eq] at this
    rcases this with h | h
    · exact absurd h hf
    · exact h.2.2
  have HL : Hid ((fms.getD a (0, 0, [])).2.2.length ≤ 100) := by have := upto_at fms_len a ha; rwa [Nat.ble_eq] at this
  have HC : Hid (Lib.countB (sb (fms.getD a (0, 0, [])).2.2) (sb [120]) ≤ 100) := by have := upto_at fms_cnt a ha; rwa [Nat.ble_eq] at this
  have HE := Lib.hid (fun W => fa_at a hin W)
  have HP := Lib.hid (fun W => place_any ((192 + a : Nat) : Int) 3 a (by omega) (by omega) (by omega) W)
  have HG := Lib.hid hg
  rw [← hml]
  unfold fml
  clear hn hin hf hml hg
  generalize fms.getD a (0, 0, []) = s at *
  obtain ⟨c, al, o⟩ := s
  simp only at HL HC
  have k0 : 96 ≤ ((192 + a : Nat) : Int) := by omega
  have k1 : ((192 + a : Nat) : Int) < 224 := by omega
  generalize ((192 + a : Nat) : Int) = code at *
  have hx : (ByteArray.mk #[98, 119, 108]).extract 2 3 = sb [108] := by kernel_rfl
  go_enter Tryz.func82, Tryz.ntmps82
  go_wp2_with (first
    | (go_at_call 139; refine (HP.out _).mono ?_; rintro e w' ⟨rfl, rfl⟩)
    | (go_at_call 144; refine (HE.out _).mono ?_; rintro e w1 ⟨rfl, hb⟩; have hB := (sh0 w).below hb; have d0 := hB.cell 0 _ rfl; have d1 := hB.cell 1 _ rfl; have d2 := hB.cell 2 _ rfl; have dz := hB.free; have dl := hB.lt; have HB := Lib.hid hb; clear hb hB))
  have HS := Lib.hid (Sf.first (c := c) (al := al) (o := o) HB.out)
  clear d0 d1 d2 dz dl HB
  generalize w1.alloc (Obj.cells #[Value.int IntKind.i64 c, Value.int IntKind.i64 al, Value.string (sb o)] 144) = W at *
  generalize w1.heap.size = g at *
  have u2 := HS.out.var.cell 2 _ rfl
  have hw0 : IntKind.i64.wrap 2 = 2 := by kernel_rfl
  go_still_tail 6, (by kernel_rfl)
  change wpList _ _ _ _ _ W.drew
  have HV := Lib.hid (HG.out.below HS.out.bel.drew)
  have HS1 := Lib.hid (HS.out.below ((Below.refl _ _).drew))
  clear u2 HS
  generalize W.drew = V at *
  go_wp2_with (first
    | (go_at_call 145; refine (replace_any o 108 _ HL.out HC.out HV.out.ml).mono ?_; rintro e w2 ⟨rfl, hb⟩; have HS2 := Lib.hid (HS1.out.below hb); clear hb HS1 HV; generalize Lib.replaceAll o [120] [108] = o2 at *; have x0 := HS2.out.var.cell 0 _ rfl; have x1 := HS2.out.var.cell 1 _ rfl; have x2 := HS2.out.var.cell 2 _ rfl; have xf := HS2.out.var.free; have y0 := HS2.out.res.cell 0 _ rfl; have y1 := HS2.out.res.cell 1 _ rfl; have y2 := HS2.out.res.cell 2 _ rfl; have yf := HS2.out.res.free; have ne := HS2.out.ne; have ll := HS2.out.var.lt; have lr := HS2.out.res.lt)
    | fail)
  exact bodyPost_ret (v := shv (c, al, o2)) (by simp [results, Tryz.results82, go_sem, y0, y1, y2]) rfl ⟨rfl, (((((HS2.out.bel.setCell HS2.out.g0 _).setCell (Nat.le_refl _) _).setCell (Nat.le_refl _) _).setCell (Nat.le_refl _) _))⟩

theorem shapeOf_any (k : Nat) (hk : k < 256) (hn : nms.getD k [] ≠ []) (w : World) (hg : Gl w) : Calls Tryz.prog 82 #[.int .i64 k] w (ShE w (sh (k : Int))) := by
  by_cases h1 : k < 64
  · exact shapeOf_early k h1 hn w
  by_cases h2 : 224 ≤ k
  · exact shapeOf_late k h2 hk hn w
  by_cases h3 : k < 120
  · exfalso
    have := upto_at gap_all (k - 64) (by omega)
    rw [show 64 + (k - 64) = k by omega] at this
    exact hn (by simpa using this)
  obtain ⟨r, a, hr, ha, hka⟩ : ∃ r a, r < 4 ∧ a < 32 ∧ k = 96 + 32 * r + a := ⟨(k - 96) / 32, (k - 96) % 32, by omega, by omega, by omega⟩
  by_cases h24 : 24 ≤ a
  · exact shapeOf_odd k r a hr ha h24 hka hn w
  have hr0 : r = 1 ∨ r = 2 ∨ r = 3 := by omega
  rcases hr0 with rfl | rfl | rfl
  · obtain rfl : k = 128 + a := by omega
    exact shapeOf_fam1 a (by omega) hn w hg
  · obtain rfl : k = 160 + a := by omega
    exact shapeOf_fam2 a (by omega) hn w hg
  · obtain rfl : k = 192 + a := by omega
    exact shapeOf_fam3 a (by omega) hn w hg

end Go.Proofs.YteohkobdmkbcpaaGreatDoor.Tl.Ia

/- Contracts of package isa: operands. -/
namespace Go.Proofs.YteohkobdmkbcpaaGreatDoor.Tl.Ia
open Go.RowKit

/-- Operands that a slice of the call's own holds: those that are told, and nothing behind. -/
def ol (l : List UInt8) (k : Nat) : List (Int × Int) := (List.range (l.length / 2)).map fun i => if i < k then (((l.getD (2 * i) 0).toNat : Int), szp (l.getD (2 * i + 1) 0)) else (0, 0)
theorem ol_len (l : List UInt8) (k : Nat) : (ol l k).length = l.length / 2 := by simp [ol]
theorem opl_get (l : List UInt8) : opl l = (List.range (l.length / 2)).map fun i => (((l.getD (2 * i) 0).toNat : Int), szp (l.getD (2 * i + 1) 0)) := by
  match l with
  | [] => rfl
  | [a] => simp [opl]
  | a :: b :: l =>
    have h : (a :: b :: l).length / 2 = l.length / 2 + 1 := by simp only [List.length_cons]; omega
    rw [h, List.range_succ_eq_map, List.map_cons, List.map_map, opl, opl_get l]
    congr 1
theorem ol_all (l : List UInt8) (k : Nat) (h : l.length / 2 ≤ k) : ol l k = opl l := by
  rw [opl_get]
  unfold ol
  apply List.map_congr_left
  intro i hi
  rw [List.mem_range] at hi
  rw [if_pos (by omega)]
theorem cop_set (xs : List (Int × Int)) (k : Nat) (o : Int × Int) (h : k < xs.length) : cop (xs.set k o) = ((cop xs).set (k * 2) (.int .u8 o.1)).set (k * 2 + 1) (.int .i64 o.2) := by
  induction xs generalizing k with
  | nil => simp at h
  | cons r xs ih =>
    cases k with
    | zero => simp [cop]
    | succ k =>
      rw [show (k + 1) * 2 = k * 2 + 1 + 1 by omega]
      simp only [List.set_cons_succ, cop]
      rw [ih k (by simpa using h)]
theorem ol_succ (l : List UInt8) (k : Nat) (h : k < l.length / 2) : ol l (k + 1) = (ol l k).set k (((l.getD (2 * k) 0).toNat : Int), szp (l.getD (2 * k + 1) 0)) := by
  apply List.ext_getElem?
  intro i
  rw [List.getElem?_set]
  simp only [ol, List.getElem?_map, List.length_map, List.length_range]
  by_cases e : k = i
  · subst e
    simp [h]
  · simp only [if_neg e]
    by_cases hi : i < l.length / 2
    · rw [List.getElem?_range hi]
      simp only [Option.map_some, Option.some.injEq]
      by_cases h1 : i < k
      · rw [if_pos h1, if_pos (by omega)]
      · rw [if_neg h1, if_neg (by omega)]
    · rw [List.getElem?_eq_none (by simp; omega)]
      rfl
/-- Rounds of operands. -/
structure Or (w : World) (l : List UInt8) (b k : Nat) (W : World) : Prop where
  row : Bk W b 120 (cop (ol l k))
  ab : w.heap.size ≤ b
  bel : Below w.heap.size w W
theorem Or.next {w W : World} {l : List UInt8} {b k : Nat} (h : Or w l b k W) (hk : k < l.length / 2) :
    Or w l b (k + 1) ((W.setCell ⟨b, k * 2, none⟩ (.int .u8 ((l.getD (2 * k) 0).toNat : Int))).setCell ⟨b, k * 2 + 1, none⟩ (.int .i64 (szp (l.getD (2 * k + 1) 0)))) := by
  refine ⟨?_, h.ab, (h.bel.setCell h.ab _).setCell h.ab _⟩
  rw [ol_succ l k hk, cop_set _ _ _ (by rw [ol_len]; exact hk)]
  exact (h.row.set _ _).set _ _
theorem Or.drew {w W : World} {l : List UInt8} {b k : Nat} (h : Or w l b k W) : Or w l b k W.drew := ⟨h.row.drew, h.ab, h.bel.drew⟩
theorem Or.fin {w W : World} {l : List UInt8} {b k : Nat} (h : Or w l b k W) (hk : l.length / 2 ≤ k) (hl : l.length ≤ 1000) : Ro W (.slice (some ⟨b, 0, none⟩) (l.length / 2) (l.length / 2)) (opl l) ∧ Ab w.heap.size (Bl (.slice (some ⟨b, 0, none⟩) (l.length / 2) (l.length / 2))) := by
  have hr := h.row
  rw [ol_all l k hk] at hr
  have hn : (opl l).length = l.length / 2 := by rw [← ol_all l k hk, ol_len]
  refine ⟨⟨by rw [cop_length], .inr ⟨b, l.length / 2, (cop (opl l)).toArray, by rw [hn], Nat.zero_le _, hr, by rw [hn]; exact Nat.le_refl _, by unfold maxLen; omega, by simp [cop_length, hn], ?_⟩⟩, fun k hk => ?_⟩
  · simp only [hn]
    rw [List.take_of_length_le (by simp [cop_length, hn])]
  · simp [Bl, Value.ownBlock] at hk
    have := h.ab
    omega

theorem cop_rep (n : Nat) : madeCells (Value.agg #[.int .u8 0, .int .i64 0]).cells (n * 2) = (cop (List.replicate n (0, 0))).toArray := by
  apply Array.ext
  · rw [size_madeCells]; simp [cop_length]
  · intro i h1 h2
    rw [size_madeCells] at h1
    have hc : (Value.agg #[.int .u8 0, .int .i64 0]).cells = #[.int .u8 0, .int .i64 0] := rfl
    have key : (cop (List.replicate n (0, 0)))[i]? = some ((#[Value.int .u8 0, .int .i64 0] : Array Value)[i % 2]!) := by
      have hd : i = i / 2 * 2 + i % 2 := by omega
      have hl : i / 2 < (List.replicate n ((0 : Int), (0 : Int))).length := by simp; omega
      have ho : opn (List.replicate n ((0 : Int), (0 : Int))) (i / 2) = (0, 0) := by simp [opn, List.getD, List.getElem?_replicate]; split <;> rfl
      rcases Nat.mod_two_eq_zero_or_one i with h | h
      · rw [h] at hd ⊢
        rw [hd, Nat.add_zero, cop_get0 _ _ hl, ho]
        rfl
      · rw [h] at hd ⊢
        rw [hd, cop_get1 _ _ hl, ho]
        rfl
    have h3 : i < (cop (List.replicate n (0, 0))).length := by simpa using h2
    rw [List.getElem?_eq_getElem h3] at key
    injection key with key
    simp only [madeCells, Array.getElem_map, Array.getElem_range, hc, List.getElem_toArray]
    rw [key]
    rfl
theorem run_make_ops (n : Nat) (hn : n ≤ 1000) (w : World) :
    (Instr.makeSlice 107 (.int .i64 (n : Int)) (.int .i64 (n : Int))).run Tryz.prog w = .ok (.slice (some ⟨w.heap.size, 0, none⟩) n n) (w.alloc (.cells (cop (List.replicate n (0, 0))).toArray 120)) := by
  obtain ⟨i, hi, hz, hs, hb⟩ := info_parts opr_info
  have hr := run_make (P := Tryz.prog) w _ _ i _ under_ops hi hz .i64 .i64 n n (by omega) (by omega) (by rw [hb]; omega) (by omega)
  rw [hs] at hr
  simp only [Int.toNat_natCast] at hr
  rw [hr, cop_rep]
theorem ol_zero (l : List UInt8) : ol l 0 = List.replicate (l.length / 2) (0, 0) := by
  apply List.ext_getElem?
  intro i
  simp only [ol, List.getElem?_map, List.getElem?_replicate]
  by_cases h : i < l.length / 2
  · rw [List.getElem?_range h, if_pos h]; simp
  · rw [if_neg h, List.getElem?_eq_none (by simp; omega)]; rfl

set_option maxHeartbeats 3200000 in
set_option maxRecDepth 100000 in
theorem operands_any (l : List UInt8) (hl : l.length ≤ 1000) (w : World) :
    Calls Tryz.prog 83 #[.string (sb l)] w fun e w' => ∃ A n c, e = .returned (.slice A n c) ∧ Ro w' (.slice A n c) (opl l) ∧ Ab w.heap.size (Bl (.slice A n c)) ∧ Below w.heap.size w w' := by
  have hS : (sb l).size = l.length := sb_size l
  have hg : ∀ k (hk : k < (sb l).size), (sb l)[k] = l.getD k 0 := sb_get l
  have HZ := Lib.hid (fun c W => size_any c W)
  generalize sb l = s at *
  have hs1 : s.size ≤ 1000 := by omega
  have HS := Lib.hid hS
  have HG := Lib.hid hg
  clear hS hg
  obtain ⟨n, hn⟩ : ∃ n, l.length / 2 = n := ⟨_, rfl⟩
  have hn1 : n ≤ 500 := by omega
  have hq : ((s.size : Int)) / 2 = (n : Int) := by have := HS.out; omega
  have h2n : 2 * n ≤ s.size := by have := HS.out; omega
  have hmk := fun W => run_make_ops n (by omega) W
  have HO : Hid (Or w l w.heap.size 0 (w.alloc (.cells (cop (List.replicate n (0, 0))).toArray 120))) := by
    refine ⟨?_, Nat.le_refl _, al1 _ _⟩
    rw [ol_zero, hn]
    exact Bk.new _ _ _
  have HN := Lib.hid hn
  clear hn hl
  go_enter Tryz.func83, Tryz.ntmps83
  go_wp2
  clear hmk
  generalize w.heap.size = b at HO ⊢
  go_loopw [11] (fun i wr => ∃ k : Nat, k ≤ n ∧ i = .int .i64 k ∧ Or w l b k wr) (fun i _ => n - (intOf i).toNat)
  case atStart => exact ⟨0, Nat.zero_le _, rfl, HO.out⟩
  case round =>
    clear HO
    obtain ⟨k, hk, rfl, hR⟩ := hrel
    have HR := Lib.hid hR
    by_cases hlt : k < n
    · have hkl : k < l.length / 2 := by rw [HN.out]; exact hlt
      have hb2 := hR.row.lt
      have hol : k < (ol l k).length := by rw [ol_len]; exact hkl
      have f0 := hR.row.free (k * 2)
      have f1 := hR.row.free (k * 2 + 1)
      have c0 := hR.row.cell _ _ (cop_get0 _ _ hol)
      have c1 := hR.row.cell _ _ (cop_get1 _ _ hol)
      have HX := Lib.hid (HR.out.drew.next hkl)
      have i0 : 2 * k < s.size := by omega
      have i1 : 2 * k + 1 < s.size := by omega
      have g0 := HG.out (2 * k) i0
      have g1 := HG.out (2 * k + 1) i1
      clear hR hkl hol
      generalize opn (ol l k) k = o at *
      obtain ⟨oa, os⟩ := o
      simp only at c0 c1
      generalize l.getD (2 * k) 0 = x0 at *
      generalize l.getD (2 * k + 1) 0 = x1 at *
      have HZ1 := Lib.hid (HZ.out x1)
      have z0 : IntKind.i64.wrap (2 * (k : Int)) = ((2 * k : Nat) : Int) := by unfold IntKind.wrap; simp [IntKind.signed, IntKind.bits]; omega
      have z1 : IntKind.i64.wrap (((2 * k : Nat) : Int) + 1) = ((2 * k + 1 : Nat) : Int) := by unfold IntKind.wrap; simp [IntKind.signed, IntKind.bits]; omega
      generalize hj0 : 2 * k = j0 at *
      clear hj0
      go_wp2
      go_region_held3 (fun w' => w'.frozen? ⟨b, k * 2, none⟩ = false ∧ w'.frozen? ⟨b, k * 2 + 1, none⟩ = false)
        (first | go_keep | exact ⟨f0, f1⟩)
        ((go_at_call 146; refine (HZ1.out _).mono ?_; rintro r9 w9 ⟨rfl, rfl⟩))
      all_goals
        go_wp2
        go_roundw
        case rel => exact ⟨k + 1, by omega, by go_num, HX.out⟩
        case measure => first | (simp [intOf]; done) | (simp [intOf]; omega)
    · have HF := Lib.hid (HR.out.fin (by have := HN.out; omega) (by have := HS.out; omega))
      rw [HN.out] at HF
      have HB := Lib.hid hR.bel
      clear hR HR
      go_wp2
      go_ret
      exact ⟨_, _, _, rfl, HF.out.1, HF.out.2, HB.out⟩

end Go.Proofs.YteohkobdmkbcpaaGreatDoor.Tl.Ia

/- Contracts of package isa: Of. -/
namespace Go.Proofs.YteohkobdmkbcpaaGreatDoor.Tl.Ia
open Go.RowKit

/-- A variable for what is answered, and a shape in another. -/
structure Of9 (w : World) (g : Nat) (c al : Int) (o : List UInt8) (W : World) : Prop where
  res : Bk W w.heap.size 109 [.int .i64 0, .string ⟨#[]⟩, .int .i64 0, .int .i64 0, .slice none 0 0]
  var : Bk W g 144 [.int .i64 c, .int .i64 al, .string (sb o)]
  g0 : w.heap.size < g
  bel : Below w.heap.size w W
theorem Of9.below {w W W' : World} {g : Nat} {c al : Int} {o : List UInt8} (h : Of9 w g c al o W) (b : Below W.heap.size W W') : Of9 w g c al o W' := ⟨h.res.below b, h.var.below b, h.g0, bel_trans h.bel b h.bel.size⟩
theorem oq0 (w : World) : Bk (w.alloc (.cells #[.int .i64 0, .string ⟨#[]⟩, .int .i64 0, .int .i64 0, .slice none 0 0] 109)) w.heap.size 109 [.int .i64 0, .string ⟨#[]⟩, .int .i64 0, .int .i64 0, .slice none 0 0] := Bk.new w _ [.int .i64 0, .string ⟨#[]⟩, .int .i64 0, .int .i64 0, .slice none 0 0]
theorem Of9.fin {w W W' : World} {g : Nat} {c al : Int} {o : List UInt8} (h : Of9 w g c al o W) {u : Value} {x : Oq} (hr : Ro W' u x.ops) (ha : Ab W.heap.size (Bl u)) (hb : Below W.heap.size W W') (a0 a1 a2 a3 a4 : Value) :
    Op1 w.heap.size (((((W'.setCell ⟨w.heap.size, 0, none⟩ a0).setCell ⟨w.heap.size, 1, none⟩ a1).setCell ⟨w.heap.size, 2, none⟩ a2).setCell ⟨w.heap.size, 3, none⟩ a3).setCell ⟨w.heap.size, 4, none⟩ a4) x u ∧
      Below w.heap.size w (((((W'.setCell ⟨w.heap.size, 0, none⟩ a0).setCell ⟨w.heap.size, 1, none⟩ a1).setCell ⟨w.heap.size, 2, none⟩ a2).setCell ⟨w.heap.size, 3, none⟩ a3).setCell ⟨w.heap.size, 4, none⟩ a4) := by
  have hs := h.res.lt
  have hn : ¬ Bl u w.heap.size := fun k => by have := ha _ k; omega
  have b := bel_trans h.bel hb h.bel.size
  exact ⟨⟨own_set (own_set (own_set (own_set (own_set hr hn _ _) hn _ _) hn _ _) hn _ _) hn _ _, fun k hk => by have := ha k hk; omega⟩,
   ((((b.setCell (Nat.le_refl _) _).setCell (Nat.le_refl _) _).setCell (Nat.le_refl _) _).setCell (Nat.le_refl _) _).setCell (Nat.le_refl _) _⟩
theorem far5 {W : World} {g q j : Nat} {v a0 a1 a2 a3 a4 : Value} (hne : g ≠ q) (h : W.cell? ⟨g, j, none⟩ = some v) :
    (((((W.setCell ⟨q, 0, none⟩ a0).setCell ⟨q, 1, none⟩ a1).setCell ⟨q, 2, none⟩ a2).setCell ⟨q, 3, none⟩ a3).setCell ⟨q, 4, none⟩ a4).cell? ⟨g, j, none⟩ = some v := by
  simp only [World.cell?, World.setCell] at h ⊢
  simp only [Array.getElem?_modify]
  simp only [if_neg (show ¬ q = g from fun e => hne e.symm)]
  exact h
theorem drewN_bel (W : World) (n : Nat) : Below W.heap.size W (W.drewN n) := by
  induction n with
  | zero => exact Below.refl _ _
  | succ n ih => exact ih.drew

theorem shs_len : upto 256 (fun k => Nat.ble (shs.getD k (0, 0, [])).2.2.length 1000) = true := by kernel_rfl

set_option maxHeartbeats 3200000 in
set_option maxRecDepth 100000 in
theorem of_any (code : Int) (w : World) (hg : Gl w) : Calls Tryz.prog 57 #[.int .i64 code] w (FoundE w (prg code)) := by
  have HN := Lib.hid (fun W h => nameOf_any code W h)
  have HG := Lib.hid hg
  clear hg
  by_cases h0 : nm code = []
  · have HP : Hid (prg code = (zq, false)) := by show prg code = _; unfold prg; rw [if_pos h0]
    rw [h0] at HN
    clear h0
    have HG1 := Lib.hid (HG.out.below (al1 w (.cells #[.int .i64 0, .string ⟨#[]⟩, .int .i64 0, .int .i64 0, .slice none 0 0] 109)))
    go_enter Tryz.func57, Tryz.ntmps57
    go_wp2_with (go_at_call 81; refine (HN.out _ HG1.out).mono ?_; rintro e w1 ⟨rfl, n, hw1⟩; have hb := drewN_bel (w.alloc (.cells #[.int .i64 0, .string ⟨#[]⟩, .int .i64 0, .int .i64 0, .slice none 0 0] 109)) n; rw [← hw1] at hb; have hB := (oq0 w).below hb; have d0 := hB.cell 0 _ rfl; have d1 := hB.cell 1 _ rfl; have d2 := hB.cell 2 _ rfl; have d3 := hB.cell 3 _ rfl; have d4 := hB.cell 4 _ rfl; have dz := hB.free; have HB := Lib.hid hb; clear hb hB hw1)
    refine bodyPost_ret (v := .tuple #[zq.val (.slice none 0 0), .bool false]) (by simp [results, Tryz.results57, go_sem, d0, d1, d2, d3, d4, zq]) rfl ?_
    show FoundE _ _ _ _
    rw [HP.out]
    exact ⟨_, rfl, op_none _ _ _ rfl, ((((((bel2 (al1 _ _) HB.out).setCell (Nat.le_refl _) _).setCell (Nat.le_refl _) _).setCell (Nat.le_refl _) _).setCell (Nat.le_refl _) _).setCell (Nat.le_refl _) _)⟩
  · have hc : 0 ≤ code ∧ code < 256 := by
      rcases Classical.em (0 ≤ code ∧ code < 256) with h | h
      · exact h
      · exact absurd (show nm code = [] by unfold nm; rw [if_neg h]) h0
    obtain ⟨k, rfl⟩ : ∃ k : Nat, code = k := ⟨code.toNat, by omega⟩
    have hk : k < 256 := by omega
    have hn : nms.getD k [] ≠ [] := by rw [← nm_at k hk]; exact h0
    have HP : Hid (prg (k : Int) = (⟨k, nm k, (sh k).1, (sh k).2.1, opl (sh k).2.2⟩, true)) := by show prg (k : Int) = _; unfold prg; rw [if_neg h0]
    have HS := Lib.hid (fun W h => shapeOf_any k hk hn W h)
    have hsl : (sh (k : Int)).2.2.length ≤ 1000 := by have := upto_at shs_len k hk; rwa [Nat.ble_eq] at this
    have he : (nm (k : Int) == []) = false := by simpa using h0
    have HG1 := Lib.hid (HG.out.below (al1 w (.cells #[.int .i64 0, .string ⟨#[]⟩, .int .i64 0, .int .i64 0, .slice none 0 0] 109)))
    clear hc hn h0 hk
    generalize sh (k : Int) = s at *
    obtain ⟨c, al, o⟩ := s
    have HO := Lib.hid (fun W => operands_any o hsl W)
    clear hsl
    generalize nm (k : Int) = l at *
    go_enter Tryz.func57, Tryz.ntmps57
    go_wp2_with (first
      | (go_at_call 81; refine (HN.out _ HG1.out).mono ?_; rintro e w1 ⟨rfl, n, hw1⟩; have hb1 := drewN_bel (w.alloc (.cells #[.int .i64 0, .string ⟨#[]⟩, .int .i64 0, .int .i64 0, .slice none 0 0] 109)) n; rw [← hw1] at hb1; have HB1 := Lib.hid hb1; have HB0 := Lib.hid ((oq0 w).below hb1); clear hb1 hw1)
      | (go_at_call 82; refine (HS.out _ (HG1.out.below HB1.out)).mono ?_; rintro e w2 ⟨rfl, hb2⟩; have HX : Hid (Of9 w w2.heap.size c al o (w2.alloc (.cells #[.int .i64 c, .int .i64 al, .string (sb o)] 144))) := ⟨(HB0.out.below hb2).below (al1 _ _), Bk.new w2 _ [.int .i64 c, .int .i64 al, .string (sb o)], (HB0.out.below hb2).lt, bel2 (bel2 (bel2 (al1 _ _) HB1.out) hb2) (al1 _ _)⟩; clear hb2 HB0 HB1))
    clear HN HS HG1
    generalize w2.alloc (Obj.cells #[Value.int IntKind.i64 c, Value.int IntKind.i64 al, Value.string (sb o)] 144) = W at *
    generalize w2.heap.size = g at *
    have x0 := HX.out.var.cell 0 _ rfl
    have x1 := HX.out.var.cell 1 _ rfl
    have x2 := HX.out.var.cell 2 _ rfl
    have hgl := HX.out.var.lt
    have hq := HX.out.res.lt
    have hgq := HX.out.g0
    have hne : g ≠ w.heap.size := by omega
    have xd0 : W.drew.cell? ⟨g, 0, none⟩ = some (.int .i64 c) := x0
    have xd1 : W.drew.cell? ⟨g, 1, none⟩ = some (.int .i64 al) := x1
    have xd2 : W.drew.cell? ⟨g, 2, none⟩ = some (.string (sb o)) := x2
    have HXd := Lib.hid (HX.out.below ((Below.refl _ _).drew))
    have HPF : Hid (∀ (w3 : World) (A : Option Addr) (n cc : Nat), Ro w3 (.slice A n cc) (opl o) → Ab W.drew.heap.size (Bl (.slice A n cc)) → Below W.drew.heap.size W.drew w3 → _) := Lib.hid fun (w3 : World) (A : Option Addr) (n cc : Nat) hr ha hb => HXd.out.fin (W' := w3) (u := .slice A n cc) (x := ⟨k, l, c, al, opl o⟩) hr ha hb
    go_region_held3 (fun w' => w'.cell? ⟨g, 0, none⟩ = some (.int .i64 c) ∧ w'.cell? ⟨g, 1, none⟩ = some (.int .i64 al) ∧ w'.cell? ⟨g, 2, none⟩ = some (.string (sb o)))
      (first | (with_reducible exact ⟨z0, z1, z2⟩) | (with_reducible exact ⟨xd0, xd1, xd2⟩) | (with_reducible exact ⟨x0, x1, x2⟩) | (exact ⟨far5 hne z0, far5 hne z1, far5 hne z2⟩))
      ((go_at_call 83; refine (HO.out _).mono ?_; rintro e w3 ⟨A, n, cc, rfl, hr, ha, hb⟩; have HF := Lib.hid (HPF.out w3 A n cc hr ha hb); have hX3 := HXd.out.below hb; have z0 := hX3.var.cell 0 _ rfl; have z1 := hX3.var.cell 1 _ rfl; have z2 := hX3.var.cell 2 _ rfl; have y0 := hX3.res.cell 0 _ rfl; have y1 := hX3.res.cell 1 _ rfl; have y2 := hX3.res.cell 2 _ rfl; have y3 := hX3.res.cell 3 _ rfl; have y4 := hX3.res.cell 4 _ rfl; have yf := hX3.res.free; clear hX3 hr ha hb))
    all_goals
      go_wp2
      refine bodyPost_ret (v := .tuple #[(⟨k, l, c, al, opl o⟩ : Oq).val (.slice A n cc), .bool true]) (by simp [results, Tryz.results57, go_sem, y0, y1, y2, y3, y4]) rfl ?_
      show FoundE _ _ _ _
      rw [HP.out]
      exact ⟨_, rfl, HF.out _ _ _ _ _⟩

end Go.Proofs.YteohkobdmkbcpaaGreatDoor.Tl.Ia
