/- AsmData: numbers that are written down are bytes. -/
import Derived.Test.YtppkpfkoggnbmaaGreatDoorKDig
import Derived.Test.YtppkpfkoggnbmaaGreatDoorGShp
import Derived.BigRegion
import Derived.Deep.RegionHeld
namespace Go.Proofs.YtppkpfkoggnbmaaGreatDoor.Cs.Ka
open Go.RowKit Es
open Ia (sb)
set_option linter.unusedVariables false
set_option linter.unusedSimpArgs false

theorem zer8 (n : Nat) : madeCells (Value.int .u8 0).cells n = (cel (List.replicate n 0)).toArray := by
  apply Array.ext
  · rw [size_madeCells]; simp [cel]
  · intro i h1 h2
    have hc : (Value.int .u8 0).cells = #[.int .u8 0] := rfl
    simp [madeCells, cel, hc, Nat.mod_one]
theorem run_zer8 (n : Nat) (hn : n ≤ 1000000) (w : World) :
    (Instr.makeSlice 22 (.int .i64 (n : Int)) (.int .i64 (n : Int))).run Tryz.prog w = .ok (.slice (some ⟨w.heap.size, 0, none⟩) n n) (w.alloc (.cells (cel (List.replicate n 0)).toArray 5)) := by
  obtain ⟨i, hi, hz, hs, hb⟩ := info_parts u8_info
  have hr := run_make (P := Tryz.prog) w _ _ i _ under_slice hi hz .i64 .i64 n n (by omega) (by omega) (by rw [hb]; omega) (by omega)
  rw [hs] at hr
  simp only [Int.toNat_natCast, Nat.mul_one] at hr
  rw [hr, zer8]
/-- bytes as a text -/
theorem str_txt (ys : List Int) : str ys = sb (ys.map fun n => UInt8.ofNat n.toNat) := by
  have key : ∀ (ys : List Int) (l : Tx), ys.foldl (fun (r : ByteArray) n => r.push (UInt8.ofNat n.toNat)) (sb l) = sb (l ++ ys.map fun n => UInt8.ofNat n.toNat) := by
    intro ys
    induction ys with
    | nil => intro l; simp
    | cons y ys ih =>
      intro l
      rw [List.foldl_cons]
      have e : (sb l).push (UInt8.ofNat y.toNat) = sb (l ++ [UInt8.ofNat y.toNat]) := by
        simp [ByteArray.push]
      rw [e, ih]
      simp
  exact key ys []
theorem str_app (a b : List Int) : str (a ++ b) = str a ++ str b := by
  rw [str_txt, str_txt, str_txt, List.map_append]
  exact (Ia.sb_append _ _).symm
theorem str_size (a : List Int) : (str a).size = a.length := by rw [str_txt, Ia.sb_size, List.length_map]
/-- three rows of bytes that the call made -/
structure Dt (w : World) (l1 l2 l4 : List Int) (v1 v2 v4 : Value) (W : World) : Prop where
  r1 : R8 W v1 l1
  r2 : R8 W v2 l2
  r4 : R8 W v4 l4
  a12 : Apart (Bl v1) (Bl v2)
  a14 : Apart (Bl v1) (Bl v4)
  a24 : Apart (Bl v2) (Bl v4)
  b1 : Ab w.heap.size (Bl v1)
  b2 : Ab w.heap.size (Bl v2)
  b4 : Ab w.heap.size (Bl v4)
  bel : Below w.heap.size w W
section
variable {w W V : World} {l1 l2 l4 l : List Int} {v1 v2 v4 v : Value}
theorem Dt.new (b : Below w.heap.size w W) : Dt w [] [] [] (.slice none 0 0) (.slice none 0 0) (.slice none 0 0) W := by
  have hz : ∀ k, ¬ Bl (.slice none 0 0) k := fun k h => by simp [Bl, Value.ownBlock] at h
  exact ⟨R8.nil _, R8.nil _, R8.nil _, fun k h => absurd h (hz k), fun k h => absurd h (hz k), fun k h => absurd h (hz k), fun k h => absurd h (hz k), fun k h => absurd h (hz k), fun k h => absurd h (hz k), b⟩
theorem Dt.below (h : Dt w l1 l2 l4 v1 v2 v4 W) (b : Below W.heap.size W V) : Dt w l1 l2 l4 v1 v2 v4 V :=
  ⟨own_below h.r1 b, own_below h.r2 b, own_below h.r4 b, h.a12, h.a14, h.a24, h.b1, h.b2, h.b4, bel2 h.bel b⟩
theorem Dt.put1 (h : Dt w l1 l2 l4 v1 v2 v4 W) (hR : R8 V v l) (hS : Step (Bl v1) (Bl v) W V) : Dt w l l2 l4 v v2 v4 V :=
  ⟨hR, own_mods h.r2 hS.mods h.a12, own_mods h.r4 hS.mods h.a14, hS.apart h.a12 (own_lo h.r2), hS.apart h.a14 (own_lo h.r4), h.a24, hS.ab h.b1 h.bel.size, h.b2, h.b4, hS.below h.bel h.b1 h.bel.size⟩
theorem Dt.put2 (h : Dt w l1 l2 l4 v1 v2 v4 W) (hR : R8 V v l) (hS : Step (Bl v2) (Bl v) W V) : Dt w l1 l l4 v1 v v4 V :=
  ⟨own_mods h.r1 hS.mods h.a12.symm, hR, own_mods h.r4 hS.mods h.a24, (hS.apart h.a12.symm (own_lo h.r1)).symm, h.a14, hS.apart h.a24 (own_lo h.r4), h.b1, hS.ab h.b2 h.bel.size, h.b4, hS.below h.bel h.b2 h.bel.size⟩
theorem Dt.put4 (h : Dt w l1 l2 l4 v1 v2 v4 W) (hR : R8 V v l) (hS : Step (Bl v4) (Bl v) W V) : Dt w l1 l2 l v1 v2 v V :=
  ⟨own_mods h.r1 hS.mods h.a14.symm, own_mods h.r2 hS.mods h.a24.symm, hR, h.a12, (hS.apart h.a14.symm (own_lo h.r1)).symm, (hS.apart h.a24.symm (own_lo h.r2)).symm, h.b1, h.b2, hS.ab h.b4 h.bel.size, hS.below h.bel h.b4 h.bel.size⟩
end
/-- append of bytes that were laid just now -/
theorem app_lit {W : World} {v : Value} {ys : List Int} (zs : List Int) (n : Nat) (hn : zs.length = n) (hm : n ≤ 1000) (hz : Byt zs) (h : R8 W v ys) (hl : ys.length ≤ 1000000) :
    ∃ v' w', (Builtin.append_ #[22, 22] 22 #[v, .slice (some ⟨W.heap.size, 0, none⟩) n n]).run Tryz.prog (W.alloc (.cells (cel zs).toArray 5)) = .ok v' w' ∧
      Hid (R8 w' v' (ys ++ zs) ∧ Step (Bl v) (Bl v') W w') := by
  obtain ⟨A', c', w', hrun, hR, hS⟩ := run_app8 (W.alloc (.cells (cel zs).toArray 5)) v ys zs (some ⟨W.heap.size, 0, none⟩) n n (own_below h (Es.al1 _ _)) ((R8.lit W zs n hn hm).by hn hz) (by omega)
  exact ⟨_, w', hrun, hR, (Step.of_below (Es.al1 W _)).trans hS⟩
theorem md (x : Int) : 0 ≤ x % 256 ∧ x % 256 < 256 := by omega
/-- one number behind each row, and where the rows stand then -/
theorem app_three {w W : World} {l1 l2 l4 : List Int} {v1 v2 v4 : Value} (h : Dt w l1 l2 l4 v1 v2 v4 W) (y : Int) (hl : l1.length ≤ 1000 ∧ l2.length ≤ 1000 ∧ l4.length ≤ 1000) :
    ∃ u1 W1 u2 W2 u4 W4,
      (Builtin.append_ #[22, 22] 22 #[v1, .slice (some ⟨W.heap.size, 0, none⟩) 1 1]).run Tryz.prog (W.alloc (.cells #[.int .u8 (y % 256)] 5)) = .ok u1 W1 ∧
      (Builtin.append_ #[22, 22] 22 #[v2, .slice (some ⟨W1.heap.size, 0, none⟩) 2 2]).run Tryz.prog (W1.alloc (.cells #[.int .u8 (y % 256), .int .u8 (y / 256 % 256)] 5)) = .ok u2 W2 ∧
      (Builtin.append_ #[22, 22] 22 #[v4, .slice (some ⟨W2.heap.size, 0, none⟩) 4 4]).run Tryz.prog (W2.alloc (.cells #[.int .u8 (y % 256), .int .u8 (y / 256 % 256), .int .u8 (y / 65536 % 256), .int .u8 (y / 16777216 % 256)] 5)) = .ok u4 W4 ∧
      Dt w (l1 ++ low y 1) (l2 ++ low y 2) (l4 ++ low y 4) u1 u2 u4 W4 := by
  obtain ⟨h1, h2, h4⟩ := hl
  obtain ⟨u1, W1, r1, s1⟩ := app_lit [y % 256] 1 rfl (by omega) (Byt.cons (md _) Byt.nil) h.r1 (by omega)
  have d1 := h.put1 s1.out.1 s1.out.2
  obtain ⟨u2, W2, r2, s2⟩ := app_lit [y % 256, y / 256 % 256] 2 rfl (by omega) (Byt.cons (md _) (Byt.cons (md _) Byt.nil)) d1.r2 (by omega)
  have d2 := d1.put2 s2.out.1 s2.out.2
  obtain ⟨u4, W4, r4, s4⟩ := app_lit [y % 256, y / 256 % 256, y / 65536 % 256, y / 16777216 % 256] 4 rfl (by omega) (Byt.cons (md _) (Byt.cons (md _) (Byt.cons (md _) (Byt.cons (md _) Byt.nil)))) d2.r4 (by omega)
  have d4 := d2.put4 s4.out.1 s4.out.2
  rw [← low_one, ← low_two, ← low_four] at d4
  exact ⟨u1, W1, u2, W2, u4, W4, r1, r2, r4, d4⟩

/-- a line so far -/
def Tl (k : Nat) (sep : Tx) (xs : List Nat) : Tx := dNm k ++ 32 :: jd sep xs
theorem tl_le (k : Nat) (sep : Tx) (hs : sep.length ≤ 2) (xs : List Nat) (hl : xs.length ≤ 60) (hx : ∀ x ∈ xs, x < 4294967296) : (Tl k sep xs).length ≤ 3000 := by
  have h1 := jd_len sep hs xs hx
  have h2 : (dNm k).length = 5 := by unfold dNm; split; rfl; split <;> rfl
  unfold Tl
  simp only [List.length_append, List.length_cons, h2]
  omega
theorem tl_zero (k : Nat) (sep : Tx) (y : Nat) : sb (Tl k sep []) ++ sb (dd y) = sb (Tl k sep [y]) := by
  rw [Ia.sb_append]
  simp [Tl, jd]
theorem tl_more (k : Nat) (sep : Tx) (xs : List Nat) (y : Nat) (h : xs ≠ []) : sb (Tl k sep xs) ++ sb sep ++ sb (dd y) = sb (Tl k sep (xs ++ [y])) := by
  rw [Ia.sb_append, Ia.sb_append]
  unfold Tl
  rw [jd_snoc, if_neg h]
  simp
theorem glue_dat (ys : List Nat) (n : Nat) : ((((((sb (Tl 1 sp1 ys) ++ ⟨#[10]⟩) ++ sb (Tl 2 sp2 ys)) ++ ⟨#[10]⟩) ++ sb (Tl 4 sp4 ys)) ++ ⟨#[10, 46, 115, 112, 97, 99, 101, 32]⟩) ++ sb (dd n)) = sb (datT ys n) := by
  have e1 : (⟨#[10]⟩ : ByteArray) = sb [10] := rfl
  have e2 : (⟨#[10, 46, 115, 112, 97, 99, 101, 32]⟩ : ByteArray) = sb [10, 46, 115, 112, 97, 99, 101, 32] := rfl
  rw [e1, e2, Ia.sb_append, Ia.sb_append, Ia.sb_append, Ia.sb_append, Ia.sb_append, Ia.sb_append]
  congr 1
  simp [Tl, datT, spN]
/-- what Assemble answers of the law's text -/
theorem dat_any (ys : List Nat) (n : Nat) (V : World) (ht : Tz V) (h0 : ys ≠ []) (hl : ys.length ≤ 60) (hx : ∀ y ∈ ys, y < 4294967296) (hn : n ≤ 4096) : Calls Tryz.prog 11 #[.string (sb (datT ys n))] V fun e w' =>
    ∃ A m c, e = .returned (.tuple #[.slice A m c, .int .i64 0, .int .i64 0]) ∧ By w' A m c (datC ys n) ∧ Below V.heap.size V w' := by
  obtain ⟨h1, h2, h3⟩ := asm_dat h0 hl hx hn
  refine (assemble_any V (datT ys n) h2 (by omega) ht.lo ht.gt ht.gl).mono ?_
  rintro e w' ⟨A, c, he, hB, hb⟩
  rw [h1] at he hB
  exact ⟨A, _, c, he, hB, hb⟩
abbrev fl (k : Nat) (xs : List Nat) : List Int := xs.flatMap fun (y : Nat) => low (y : Int) k
theorem r8_shape {w : World} {v : Value} {l : List Int} (h : R8 w v l) : ∃ A m c, l.length = m ∧ v = .slice A m c := by
  obtain ⟨A, c, e⟩ := h.shape
  exact ⟨A, _, c, rfl, e⟩
theorem fl_byt (k : Nat) (xs : List Nat) : Byt (fl k xs) := fun y hy => by
  rw [List.mem_flatMap] at hy
  obtain ⟨x, _, hy⟩ := hy
  exact low_byt _ _ y hy
theorem zer_byt (n : Nat) : Byt (List.replicate n 0) := fun y hy => by rw [List.eq_of_mem_replicate hy]; omega
theorem zer_row (w : World) (n : Nat) (hn : n ≤ 10000) : R8 (w.alloc (.cells (cel (List.replicate n 0)).toArray 5)) (.slice (some ⟨w.heap.size, 0, none⟩) n n) (List.replicate n 0) := by
  have := World.ownsRow_lit (e := 5) (size := 1) (base := 0) w (cel (List.replicate n 0)).toArray n (Nat.zero_le _) (by simp only [maxLen]; omega) (by simp [cel])
  have e : (List.replicate n (0 : Int)).length = n := List.length_replicate
  show w.alloc _ |>.ownsRow 0 _ 1 _ (List.replicate n (0 : Int)).length _
  rw [e]
  exact this
theorem fl_snoc (k : Nat) (xs : List Nat) (y : Nat) : fl k (xs ++ [y]) = fl k xs ++ low (y : Int) k := by simp [fl]
theorem take_snoc (ys : List Nat) (k : Nat) (h : k < ys.length) : ys.take (k + 1) = ys.take k ++ [ys.getD k 0] := by
  rw [List.take_succ_eq_append_getElem h]
  simp [List.getD, h]

set_option maxHeartbeats 6400000 in
set_option maxRecDepth 100000 in
theorem asmdata_out (A : Option Addr) (n c : Nat) (s : Int) (w : World) (ht : Tz w) (h : 60 < n ∨ (¬ 60 < n ∧ n = 0) ∨ (¬ 60 < n ∧ n ≠ 0 ∧ s < 0) ∨ (¬ 60 < n ∧ n ≠ 0 ∧ ¬ s < 0 ∧ 4096 < s)) :
    Calls Tryz.prog 7 #[.slice A n c, .int .i64 s] w fun e w' => e = .returned (.bool true) ∧ Below w.heap.size w w' := by
  have HA := Lib.hid (alive w ht.lo ht.gt ht.gl)
  clear ht
  rcases h with h1 | ⟨h1, rfl⟩ | ⟨h1, h2, h3⟩ | ⟨h1, h2, h3, h4⟩
  · have g1 : (60 : Int) < (n : Int) := by omega
    clear h1
    go_enter Tryz.func7, Tryz.ntmps7
    go_wp2_with (first | (go_at_call 8; refine HA.out.mono ?_; rintro e w1 ⟨rfl, hb⟩; have HL := Lib.hid hb; clear hb) | fail)
    go_ret
    exact ⟨rfl, HL.out⟩
  · go_enter Tryz.func7, Tryz.ntmps7
    go_wp2_with (first | (go_at_call 8; refine HA.out.mono ?_; rintro e w1 ⟨rfl, hb⟩; have HL := Lib.hid hb; clear hb) | fail)
    go_ret
    exact ⟨rfl, HL.out⟩
  all_goals
    have g1 : ¬ (60 : Int) < (n : Int) := by omega
    have g2 : ((n : Int) == 0) = false := by apply beq_false_of_ne; omega
    clear h1 h2
    go_enter Tryz.func7, Tryz.ntmps7
    go_wp2_with (first | (go_at_call 8; refine HA.out.mono ?_; rintro e w1 ⟨rfl, hb⟩; have HL := Lib.hid hb; clear hb) | fail)
    go_ret
    exact ⟨rfl, HL.out⟩

set_option maxHeartbeats 12800000 in
set_option maxRecDepth 100000 in
theorem asmdata_in (A : Option Addr) (n c : Nat) (ys : List Nat) (s : Nat) (w : World) (h : Src w A n ys) (ht : Tz w) (h1 : ¬ 60 < n) (h2 : n ≠ 0) (h4 : s ≤ 4096) :
    Calls Tryz.prog 7 #[.slice A n c, .int .i64 (s : Int)] w fun e w' => e = .returned (.bool true) ∧ Below w.heap.size w w' := by
  have HA := Lib.hid (alive w ht.lo ht.gt ht.gl)
  have g1 : ¬ (60 : Int) < (n : Int) := by omega
  have g2 : ((n : Int) == 0) = false := by apply beq_false_of_ne; omega
  have HT := Lib.hid (fun V (hV : Below w.heap.size w V) => ht.below hV)
  have HS := Lib.hid h
  have hlen := h.len
  have HLen := Lib.hid hlen
  have HNum := Lib.hid h.num
  have hA : ∃ ad, A = some ad := by
    obtain ⟨ad, e, _⟩ := h.cell 0 (by omega)
    exact ⟨ad, e⟩
  obtain ⟨ad, rfl⟩ := hA
  clear h ht hlen
  go_enter Tryz.func7, Tryz.ntmps7
  go_wp2_with (first | (go_at_call 8; refine HA.out.mono ?_; rintro e w1 ⟨rfl, hb⟩; have HL := Lib.hid hb; clear hb) | fail)
  have HD := Lib.hid (Dt.new HL.out)
  have hk1 : w1.heap.size = w1.heap.size := rfl
  go_loopw [5, 6, 7, 8, 9, 10, 11, 12, 13, 37] (fun s1 s2 s4 v1 v2 v4 _ _ _ i wr => ∃ (k : Nat) (t1 t2 t4 : ByteArray), k ≤ n ∧ i = .int .i64 k ∧ s1 = .string t1 ∧ s2 = .string t2 ∧ s4 = .string t4 ∧ t1 = sb (Tl 1 sp1 (ys.take k)) ∧ t2 = sb (Tl 2 sp2 (ys.take k)) ∧ t4 = sb (Tl 4 sp4 (ys.take k)) ∧ Dt w (fl 1 (ys.take k)) (fl 2 (ys.take k)) (fl 4 (ys.take k)) v1 v2 v4 wr) (fun _ _ _ _ _ _ _ _ _ i _ => n - (intOf i).toNat)
  case atStart => exact ⟨0, _, _, _, Nat.zero_le _, rfl, rfl, rfl, rfl, rfl, rfl, rfl, HD.out⟩
  case round =>
    clear HD
    obtain ⟨k, t1, t2, t4, hk, rfl, rfl, rfl, rfl, ht1, ht2, ht4, hD⟩ := hrel
    have HDt := Lib.hid hD
    by_cases hlt : k < n
    · obtain ⟨ad', e, hc⟩ := HS.out.at_ hD.bel hlt
      obtain rfl := Option.some.inj e
      have hy : ys.getD k 0 < 4294967296 := by
        have hl := HLen.out
        simp only [List.getD, List.getElem?_eq_getElem (by omega : k < ys.length), Option.getD_some]
        exact HNum.out _ (List.getElem_mem _)
      have htk : (ys.take k).length = k := by rw [List.length_take, HLen.out]; omega
      have hsn := take_snoc ys k (by have := HLen.out; omega)
      have HSn := Lib.hid hsn
      have HTk := Lib.hid htk
      have hz1 : t1.size ≤ 3000 := by rw [ht1, Ia.sb_size]; exact tl_le _ _ (by decide) _ (by omega) (fun y hm => HNum.out y (List.mem_of_mem_take hm))
      have hz2 : t2.size ≤ 3000 := by rw [ht2, Ia.sb_size]; exact tl_le _ _ (by decide) _ (by omega) (fun y hm => HNum.out y (List.mem_of_mem_take hm))
      have hz4 : t4.size ≤ 3000 := by rw [ht4, Ia.sb_size]; exact tl_le _ _ (by decide) _ (by omega) (fun y hm => HNum.out y (List.mem_of_mem_take hm))
      have hfl : (fl 1 (ys.take k)).length ≤ 1000 ∧ (fl 2 (ys.take k)).length ≤ 1000 ∧ (fl 4 (ys.take k)).length ≤ 1000 := by
        simp only [fl, low_flat_len, htk]
        omega
      have HFl := Lib.hid hfl
      clear hfl
      have HDg := Lib.hid (fun V => digits_any (ys.getD k 0) hy V)
      have hdl := ddn_len (ys.getD k 0) hy
      have H1 := Lib.hid ht1
      have H2 := Lib.hid ht2
      have H4 := Lib.hid ht4
      have HY := Lib.hid hy
      clear hD ht1 ht2 ht4 hsn htk hy
      generalize ys.getD k 0 = y at *
      generalize hdd : dd y = d at *
      have HDd := Lib.hid hdd
      clear hdd
      by_cases hk0 : k = 0
      · have hnil : ys.take k = [] := by rw [hk0]; rfl
        have E1 : Hid (t1 ++ sb d = sb (Tl 1 sp1 (ys.take (k + 1)))) := by show _ = _; rw [HSn.out, H1.out, hnil, ← HDd.out]; exact tl_zero 1 sp1 y
        have E2 : Hid (t2 ++ sb d = sb (Tl 2 sp2 (ys.take (k + 1)))) := by show _ = _; rw [HSn.out, H2.out, hnil, ← HDd.out]; exact tl_zero 2 sp2 y
        have E4 : Hid (t4 ++ sb d = sb (Tl 4 sp4 (ys.take (k + 1)))) := by show _ = _; rw [HSn.out, H4.out, hnil, ← HDd.out]; exact tl_zero 4 sp4 y
        have gk : ¬ (0 : Int) < (k : Int) := by omega
        clear hk0 hnil
        go_wp2_with (first
          | (go_at_call 13; refine (HDg.out _).mono ?_; rintro e w2 ⟨rfl, hb2⟩; obtain ⟨u1, w3, u2, w4, u4, w5, hr1, hr2, hr4, hD2⟩ := app_three (HDt.out.below hb2) (y : Int) HFl.out; have HR1 := Lib.hid hr1; have HR2 := Lib.hid hr2; have HR4 := Lib.hid hr4; have HD2 := Lib.hid hD2; clear hb2 hr1 hr2 hr4 hD2)
          | (at_builtin; refine Lib.wpList_append_run _ rfl _ _ _ _ rfl _ _ rfl rfl _ _ HR1.out ?_)
          | (at_builtin; refine Lib.wpList_append_run _ rfl _ _ _ _ rfl _ _ rfl rfl _ _ HR2.out ?_)
          | (at_builtin; refine Lib.wpList_append_run _ rfl _ _ _ _ rfl _ _ rfl rfl _ _ HR4.out ?_)
          | fail)
        go_roundw
        case rel => exact ⟨k + 1, _, _, _, by omega, by go_num, rfl, rfl, rfl, E1.out, E2.out, E4.out, by rw [HSn.out, fl_snoc, fl_snoc, fl_snoc]; exact HD2.out⟩
        case measure => first | (simp [intOf]; done) | (simp [intOf]; omega)
      · have hne : ys.take k ≠ [] := fun h => by
          have e := HTk.out
          rw [h] at e
          simp at e
          omega
        have E1 : Hid ((t1 ++ ⟨#[44, 32]⟩) ++ sb d = sb (Tl 1 sp1 (ys.take (k + 1)))) := by show _ = _; rw [HSn.out, H1.out, ← HDd.out]; exact tl_more 1 sp1 _ y hne
        have E2 : Hid ((t2 ++ ⟨#[44]⟩) ++ sb d = sb (Tl 2 sp2 (ys.take (k + 1)))) := by show _ = _; rw [HSn.out, H2.out, ← HDd.out]; exact tl_more 2 sp2 _ y hne
        have E4 : Hid ((t4 ++ ⟨#[32, 44]⟩) ++ sb d = sb (Tl 4 sp4 (ys.take (k + 1)))) := by show _ = _; rw [HSn.out, H4.out, ← HDd.out]; exact tl_more 4 sp4 _ y hne
        have gk : (0 : Int) < (k : Int) := by omega
        clear hk0 hne
        go_wp2_with (first
          | (go_at_call 13; refine (HDg.out _).mono ?_; rintro e w2 ⟨rfl, hb2⟩; obtain ⟨u1, w3, u2, w4, u4, w5, hr1, hr2, hr4, hD2⟩ := app_three (HDt.out.below hb2) (y : Int) HFl.out; have HR1 := Lib.hid hr1; have HR2 := Lib.hid hr2; have HR4 := Lib.hid hr4; have HD2 := Lib.hid hD2; clear hb2 hr1 hr2 hr4 hD2)
          | (at_builtin; refine Lib.wpList_append_run _ rfl _ _ _ _ rfl _ _ rfl rfl _ _ HR1.out ?_)
          | (at_builtin; refine Lib.wpList_append_run _ rfl _ _ _ _ rfl _ _ rfl rfl _ _ HR2.out ?_)
          | (at_builtin; refine Lib.wpList_append_run _ rfl _ _ _ _ rfl _ _ rfl rfl _ _ HR4.out ?_)
          | fail)
        go_roundw
        case rel => exact ⟨k + 1, _, _, _, by omega, by go_num, rfl, rfl, rfl, E1.out, E2.out, E4.out, by rw [HSn.out, fl_snoc, fl_snoc, fl_snoc]; exact HD2.out⟩
        case measure => first | (simp [intOf]; done) | (simp [intOf]; omega)
    · obtain rfl : k = n := by omega
      have hty : ys.take k = ys := List.take_of_length_le (by rw [HLen.out]; exact Nat.le_refl _)
      rw [hty] at ht1 ht2 ht4 HDt
      have hz1 : t1.size ≤ 3000 := by rw [ht1, Ia.sb_size]; exact tl_le _ _ (by decide) _ (by rw [HLen.out]; omega) HNum.out
      have hz2 : t2.size ≤ 3000 := by rw [ht2, Ia.sb_size]; exact tl_le _ _ (by decide) _ (by rw [HLen.out]; omega) HNum.out
      have hz4 : t4.size ≤ 3000 := by rw [ht4, Ia.sb_size]; exact tl_le _ _ (by decide) _ (by rw [HLen.out]; omega) HNum.out
      have hgl : ((((((t1 ++ ⟨#[10]⟩) ++ t2) ++ ⟨#[10]⟩) ++ t4) ++ ⟨#[10, 46, 115, 112, 97, 99, 101, 32]⟩) ++ sb (dd s)) = sb (datT ys s) := by
        rw [ht1, ht2, ht4]
        exact glue_dat ys s
      have HAs := Lib.hid (fun V hV => dat_any ys s V hV (fun h0 => by rw [h0] at HLen; exact h2 HLen.out.symm) (by rw [HLen.out]; omega) HNum.out h4)
      rw [← hgl] at HAs
      have HDg := Lib.hid (fun V => digits_any s (by omega) V)
      have hdl := ddn_len s (by omega)
      obtain ⟨A1, m1, cc1, hm1, rfl⟩ := r8_shape HDt.out.r1
      obtain ⟨A2, m2, cc2, hm2, rfl⟩ := r8_shape HDt.out.r2
      obtain ⟨A4, m4, cc4, hm4, rfl⟩ := r8_shape HDt.out.r4
      have HM1 := Lib.hid hm1
      have HM2 := Lib.hid hm2
      have HM4 := Lib.hid hm4
      clear hm1 hm2 hm4
      clear hD ht1 ht2 ht4 hty hgl
      generalize hdd : dd s = d at *
      clear hdd
      go_upto_region 20 with (first
        | (go_at_call 13; refine (HDg.out _).mono ?_; rintro e w2 ⟨rfl, hb2⟩; have HD2 := Lib.hid (HDt.out.below hb2); clear hb2)
        | (go_at_call 11; refine (HAs.out _ (HT.out _ HD2.out.bel)).mono ?_; intro e w3 hr; obtain ⟨A3, n3, c3, rfl, hB, hb3⟩ := hr; have HD3 := Lib.hid (HD2.out.below hb3); have HB3 := Lib.hid hB; clear hB hb3)
        | fail)
      have hD := HD3.out
      have hB3 := HB3.out
      have hy1 := hD.r1.by HM1.out (fl_byt 1 ys)
      have hy2 := hD.r2.by HM2.out (fl_byt 2 ys)
      have hy4 := hD.r4.by HM4.out (fl_byt 4 ys)
      have hv1 : Below w3.heap.size w3 w3.drew := (Below.refl _ _).drew
      have hv2 : Below w3.heap.size w3 (w3.drew.alloc (.cells (cel (List.replicate s 0)).toArray 5)) := hv1.alloc (Nat.le_refl _) _
      have hv3 := Es.al1 w3.drew (.cells (cel (List.replicate s 0)).toArray 5)
      have a1 := run_str (hB3.below hv1 (Nat.le_refl _))
      have a2 := run_str (hB3.below hv2 (Nat.le_refl _))
      have b1 := run_str (hy1.below hv1 (Nat.le_refl _))
      have b2 := run_str (hy1.below hv2 (Nat.le_refl _))
      have c1' := run_str (hy2.below hv1 (Nat.le_refl _))
      have c2' := run_str (hy2.below hv2 (Nat.le_refl _))
      have d1 := run_str (hy4.below hv1 (Nat.le_refl _))
      have d2 := run_str (hy4.below hv2 (Nat.le_refl _))
      have e2 := run_str ((zer_row w3.drew s (by omega)).by (by simp) (zer_byt s))
      rw [show w3.drew.heap.size = w3.heap.size from rfl] at e2
      have hmk := run_zer8 s (by omega) w3.drew
      have hsum : str (datC ys s) = str (fl 1 ys) ++ str (fl 2 ys) ++ str (fl 4 ys) ++ str (List.replicate s 0) := by
        unfold datC
        rw [str_app, str_app, str_app]
      rw [hsum] at a1 a2
      have z1 := str_size (fl 1 ys)
      have z2 := str_size (fl 2 ys)
      have z4 := str_size (fl 4 ys)
      have z0 := str_size (List.replicate s 0)
      have hfl : (fl 1 ys).length ≤ 1000 ∧ (fl 2 ys).length ≤ 1000 ∧ (fl 4 ys).length ≤ 1000 := by
        simp only [fl, low_flat_len, HLen.out]
        omega
      obtain ⟨n1, n2, n4⟩ := hfl
      rw [List.length_replicate] at z0
      have y1 : (str (fl 1 ys)).size ≤ 1000 := by omega
      have y2 : (str (fl 2 ys)).size ≤ 1000 := by omega
      have y4 : (str (fl 4 ys)).size ≤ 1000 := by omega
      have y0 : (str (List.replicate s 0)).size ≤ 5000 := by omega
      have HBel := Lib.hid hD.bel
      clear hsum z1 z2 z4 z0 hD hB3 hy1 hy2 hy4 hv1 hv2 hv3 n1 n2 n4 HAs HDg HM1 HM2 HM4
      generalize str (fl 1 ys) = q1 at *
      generalize str (fl 2 ys) = q2 at *
      generalize str (fl 4 ys) = q4 at *
      generalize str (List.replicate s 0) = q0 at *
      generalize hZ : w3.drew.alloc (.cells (cel (List.replicate s 0)).toArray 5) = WZ at *
      have p1 := fun W => run_string_add_sum (P := Tryz.prog) W q1 q2 (by omega)
      have p2 := fun W => run_string_add_sum (P := Tryz.prog) W (q1 ++ q2) q4 (by rw [ByteArray.size_append]; omega)
      have p3 := fun W => run_string_add_sum (P := Tryz.prog) W (q1 ++ q2 ++ q4) q0 (by rw [ByteArray.size_append, ByteArray.size_append]; omega)
      have HF1 := Lib.hid (And.intro a1 (And.intro b1 (And.intro c1' d1)))
      have HF2 := Lib.hid (And.intro a2 (And.intro b2 (And.intro c2' d2)))
      clear a1 b1 c1' d1 a2 b2 c2' d2
      go_region_held (fun w' => (convert 22 9 (.slice A3 n3 c3)).run Tryz.prog w' = .ok (.string (q1 ++ q2 ++ q4 ++ q0)) w' ∧ (convert 22 9 (.slice A1 m1 cc1)).run Tryz.prog w' = .ok (.string q1) w' ∧ (convert 22 9 (.slice A2 m2 cc2)).run Tryz.prog w' = .ok (.string q2) w' ∧ (convert 22 9 (.slice A4 m4 cc4)).run Tryz.prog w' = .ok (.string q4) w')
        (first | (with_reducible exact HF1.out) | (with_reducible exact HF2.out))
        (fail)
      all_goals go_wp2_with fail
      all_goals go_ret
      all_goals exact ⟨rfl, hZ ▸ (HBel.out.drew.alloc (by have := HBel.out.size; simpa using this) _)⟩

theorem asmdata_walk (A : Option Addr) (n c : Nat) (ys : List Nat) (s : Int) (w : World) (h : Src w A n ys) (ht : Tz w) :
    Calls Tryz.prog 7 #[.slice A n c, .int .i64 s] w fun e w' => e = .returned (.bool true) ∧ Below w.heap.size w w' := by
  by_cases h1 : 60 < n
  · exact asmdata_out A n c s w ht (.inl h1)
  · by_cases h2 : n = 0
    · exact asmdata_out A n c s w ht (.inr (.inl ⟨h1, h2⟩))
    · by_cases h3 : s < 0
      · exact asmdata_out A n c s w ht (.inr (.inr (.inl ⟨h1, h2, h3⟩)))
      · by_cases h4 : 4096 < s
        · exact asmdata_out A n c s w ht (.inr (.inr (.inr ⟨h1, h2, h3, h4⟩)))
        · obtain ⟨j, rfl⟩ : ∃ j : Nat, s = j := ⟨s.toNat, by omega⟩
          exact asmdata_in A n c ys j w h ht h1 h2 (by omega)

end Go.Proofs.YtppkpfkoggnbmaaGreatDoor.Cs.Ka
