/- Contracts of package isa: place, lettered, nameOf, size, String. -/
import Derived.Test.YtppkpfkoggnbmaaGreatDoorILit
import Derived.Lib.SlicesS
namespace Go.Proofs.YtppkpfkoggnbmaaGreatDoor.Cs.Ia
open Go.RowKit

/-- The family's names. -/
def fam : List (List UInt8) := [[65, 68, 68, 50], [65, 68, 68, 51], [83, 85, 66, 50], [83, 85, 66, 51], [77, 85, 76, 50], [77, 85, 76, 51], [68, 73, 86, 50], [68, 73, 86, 51], [66, 73, 83, 50], [66, 73, 83, 51], [66, 73, 67, 50], [66, 73, 67, 51], [88, 79, 82, 50], [88, 79, 82, 51], [77, 78, 69, 71], [], [77, 79, 86], [67, 77, 80], [77, 67, 79, 77], [66, 73, 84], [67, 76, 82], [84, 83, 84], [73, 78, 67], [68, 69, 67]]
/-- The package's tables as they lie. -/
structure Gl (w : World) : Prop where
  ea : ∀ i, i < 64 → w.cell? ⟨0, i, none⟩ = some (.string (sb (nms.getD i [])))
  la : ∀ i, i < 32 → w.cell? ⟨1, i, none⟩ = some (.string (sb (nms.getD (224 + i) [])))
  od : ∀ i j, i < 4 → j < 8 → w.cell? ⟨2, i * 8 + j, none⟩ = some (.string (sb (nms.getD (120 + 32 * i + j) [])))
  fa : ∀ i, i < 24 → w.cell? ⟨3, i, none⟩ = some (.string (sb (fam.getD i [])))
  ml : ∃ m, w.cell? ⟨6, 0, none⟩ = some (.int .i64 m)
theorem Gl.below {w w' : World} (h : Gl w) (b : Below w.heap.size w w') : Gl w' := by
  have k : ∀ (r i : Nat) (v : Value), w.cell? ⟨r, i, none⟩ = some v → w'.cell? ⟨r, i, none⟩ = some v := fun r i v hc => (b.cell (p := ⟨r, i, none⟩) (lt_of_cell hc)).trans hc
  obtain ⟨m, hm⟩ := h.ml
  exact ⟨fun i hi => k _ _ _ (h.ea i hi), fun i hi => k _ _ _ (h.la i hi), fun i j hi hj => k _ _ _ (h.od i j hi hj), fun i hi => k _ _ _ (h.fa i hi), m, k _ _ _ hm⟩

/-- A family's name with a letter. -/
def lt (l c : List UInt8) : List UInt8 := if l = [] then [] else if l.getD (l.length - 1) 0 = 50 ∨ l.getD (l.length - 1) 0 = 51 then l.take (l.length - 1) ++ c ++ l.drop (l.length - 1) else l ++ c
theorem lt_all : upto 24 (fun a => decide (lt (fam.getD a []) [66] = nms.getD (128 + a) []) && (decide (lt (fam.getD a []) [87] = nms.getD (160 + a) []) && decide (lt (fam.getD a []) [76] = nms.getD (192 + a) []))) = true := by kernel_rfl
theorem gap_all : upto 56 (fun a => decide (nms.getD (64 + a) [] = [])) = true := by kernel_rfl
theorem nms_len : upto 256 (fun a => Nat.ble (nms.getD a []).length 8) = true := by kernel_rfl
theorem fam_len : upto 24 (fun a => Nat.ble (fam.getD a []).length 8) = true := by kernel_rfl

set_option maxHeartbeats 800000 in
set_option maxRecDepth 100000 in
theorem place_any (code : Int) (r a : Nat) (h : code = 96 + 32 * r + a) (hr : r < 4) (ha : a < 32) (w : World) :
    Calls Tryz.prog 48 #[.int .i64 code] w fun e w' => e = .returned (.tuple #[.int .i64 r, .int .i64 a]) ∧ w = w' := by
  have h0 : 96 ≤ code := by omega
  have h1 : code ≤ 223 := by omega
  have H := Lib.hid h
  clear h
  go_enter Tryz.func48, Tryz.ntmps48
  go_wp2
  go_ret2
  have h := H.out
  have e1 : (code - 96) / 32 = r := by omega
  have e2 : (code - 96) % 32 = a := by omega
  refine ⟨?_, rfl⟩
  first | (rw [e1, e2]; done) | (simp only [e1, e2]; done) | (simp [e1, e2])

theorem ret_str {a b : ByteArray} (h : a = b) : Ending.returned (.string a) = .returned (.string b) := by rw [h]
theorem not_empty {s : ByteArray} {n : Nat} (h : s.size = n + 1) : s.toList.isEmpty = false := by
  cases e : s.toList.isEmpty with
  | false => rfl
  | true =>
    have e' : s.toList = [] := List.isEmpty_iff.1 e
    have := (Lib.bytes_beq_iff s ⟨#[]⟩).1 (by rw [e']; decide +kernel)
    rw [this] at h
    cases h

set_option maxHeartbeats 1600000 in
set_option maxRecDepth 100000 in
theorem lettered_any (l c : List UInt8) (hl : l.length ≤ 1000) (hc : c.length ≤ 1000) (w : World) :
    Calls Tryz.prog 49 #[.string (sb l), .string (sb c)] w fun e w' => e = .returned (.string (sb (lt l c))) ∧ ∃ n, w' = w.drewN n := by
  by_cases h0 : l = []
  · subst h0
    go_enter Tryz.func49, Tryz.ntmps49
    go_wp2
    go_ret
    exact ⟨rfl, 0, rfl⟩
  · have hS : (sb l).size = l.length := sb_size l
    have hC : (sb c).size = c.length := sb_size c
    have hg : ∀ k (hk : k < (sb l).size), (sb l)[k] = l.getD k 0 := sb_get l
    have hx : ∀ a b, (sb l).extract a b = sb ((l.drop a).take (b - a)) := sb_extract l
    have he : (l == []) = false := by simpa using h0
    obtain ⟨n, hn⟩ : ∃ n, l.length = n + 1 := ⟨l.length - 1, by have : l.length ≠ 0 := fun h => h0 (List.length_eq_zero_iff.1 h); omega⟩
    have hz : (sb l).size = n + 1 := by omega
    have hz' : n < (sb l).size := by omega
    have hgn := hg n hz'
    have hn1 : n ≤ 1000 := by omega
    have hr : ∀ a b, sb ((l.drop a).take (b - a)) = (sb l).extract a b := fun a b => (hx a b).symm
    have HX := Lib.hid hx
    have HN := Lib.hid hn
    have H0 := Lib.hid h0
    clear hx hn h0 hg hr hS hl
    generalize hs : sb l = s at *
    have HS := Lib.hid hs
    generalize ht : sb c = t at *
    have HT := Lib.hid ht
    clear hs ht
    have hC' : t.size ≤ 1000 := by omega
    clear hC hc
    have hem : s.toList.isEmpty = false := not_empty hz
    by_cases h2 : l.getD n 0 = 50 ∨ l.getD n 0 = 51
    · have HL : Hid (lt l c = l.take n ++ c ++ l.drop n) := by
        show lt l c = _
        have e : l.length - 1 = n := by have := HN.out; omega
        unfold lt
        rw [if_neg H0.out, e, if_pos h2]
      have hb : (s[n].toNat : Int) = 50 ∨ (s[n].toNat : Int) = 51 := by rw [hgn]; rcases h2 with h | h <;> rw [h] <;> decide
      clear hgn h2
      have fin : s.extract 0 n ++ t ++ s.extract n (n + 1) = sb (lt l c) := by
        have := HN.out
        rw [HL.out, HX.out, HX.out, ← HT.out, List.drop_zero, Nat.sub_zero, sb_append, sb_append, show n + 1 - n = (l.drop n).length by simp; omega, List.take_length]
      have FN := Lib.hid fin
      clear fin
      rcases hb with hb | hb
      · have b1 : ((s[n].toNat : Int) == 50) = true := by simpa using hb
        clear hb
        go_enter Tryz.func49, Tryz.ntmps49
        go_wp2
        go_region
        go_wp2
        go_ret
        exact ⟨ret_str FN.out, 1, rfl⟩
      · have b0 : ((s[n].toNat : Int) == 50) = false := by simp [hb]
        have b1 : ((s[n].toNat : Int) == 51) = true := by simpa using hb
        clear hb
        go_enter Tryz.func49, Tryz.ntmps49
        go_wp2
        go_region
        go_wp2
        go_ret
        exact ⟨ret_str FN.out, 1, rfl⟩
    · have HL : Hid (lt l c = l ++ c) := by
        show lt l c = _
        have e : l.length - 1 = n := by have := HN.out; omega
        unfold lt
        rw [if_neg H0.out, e, if_neg h2]
      have hb : ¬ (s[n].toNat : Int) = 50 ∧ ¬ (s[n].toNat : Int) = 51 := by
        rw [hgn]
        generalize l.getD n 0 = x at h2
        constructor
        · intro e; exact h2 (.inl (by rw [← UInt8.toNat_inj]; simp; omega))
        · intro e; exact h2 (.inr (by rw [← UInt8.toNat_inj]; simp; omega))
      have b0 : ((s[n].toNat : Int) == 50) = false := by simp [hb.1]
      have b1 : ((s[n].toNat : Int) == 51) = false := by simp [hb.2]
      clear hb hgn h2
      go_enter Tryz.func49, Tryz.ntmps49
      go_wp2
      go_ret
      exact ⟨ret_str (by rw [HL.out, ← sb_append, HS.out, HT.out]), 0, rfl⟩

theorem nm_at (k : Nat) (hk : k < 256) : nm (k : Int) = nms.getD k [] := by
  unfold nm
  rw [if_pos (by omega)]
  rfl
def NameE (w : World) (l : List UInt8) (e : Ending) (w' : World) : Prop := e = .returned (.string (sb l)) ∧ ∃ n, w' = w.drewN n

set_option maxHeartbeats 3200000 in
set_option maxRecDepth 100000 in
theorem nameOf_any (code : Int) (w : World) (hg : Gl w) : Calls Tryz.prog 23 #[.int .i64 code] w (NameE w (nm code)) := by
  by_cases h0 : code < 0
  · have HM : Hid (nm code = []) := by show nm code = []; unfold nm; rw [if_neg (by omega)]
    clear hg
    go_enter Tryz.func23, Tryz.ntmps23
    go_wp2
    go_ret
    exact ⟨ret_str (congrArg sb HM.out.symm), 0, rfl⟩
  have h0' : 0 ≤ code := by omega
  by_cases h1 : 256 ≤ code
  · have HM : Hid (nm code = []) := by show nm code = []; unfold nm; rw [if_neg (by omega)]
    clear hg
    go_enter Tryz.func23, Tryz.ntmps23
    go_wp2
    go_ret
    exact ⟨ret_str (congrArg sb HM.out.symm), 0, rfl⟩
  obtain ⟨k, rfl⟩ : ∃ k : Nat, code = k := ⟨code.toNat, by omega⟩
  have hk : k < 256 := by omega
  have HM : Hid (nm (k : Int) = nms.getD k []) := nm_at k hk
  clear h0 h1 h0'
  by_cases h64 : k < 64
  · have hc := hg.ea k h64
    clear hg
    generalize nms.getD k [] = l at *
    go_enter Tryz.func23, Tryz.ntmps23
    go_wp2
    go_ret
    exact ⟨ret_str (congrArg sb HM.out.symm), 0, rfl⟩
  have h64' : 64 ≤ k := by omega
  clear h64
  by_cases h96 : k < 96
  · have e : nms.getD k [] = [] := by
      have := upto_at gap_all (k - 64) (by omega)
      rw [show 64 + (k - 64) = k by omega] at this
      simpa using this
    rw [e] at HM
    clear hg e
    go_enter Tryz.func23, Tryz.ntmps23
    go_wp2
    go_ret
    exact ⟨ret_str (congrArg sb HM.out.symm), 0, rfl⟩
  have h96' : 96 ≤ k := by omega
  clear h96 h64'
  by_cases h224 : 224 ≤ k
  · obtain ⟨j, rfl⟩ : ∃ j, k = 224 + j := ⟨k - 224, by omega⟩
    have hc := hg.la j (by omega)
    clear hg
    generalize nms.getD (224 + j) [] = l at *
    have hj : j < 32 := by omega
    have e1 : ((224 + j : Nat) : Int) - 224 = (j : Int) := by omega
    generalize hcd : ((224 + j : Nat) : Int) = code at *
    have c1 : 224 ≤ code := by omega
    have c2 : code < 256 := by omega
    clear hcd h96' h224 hk
    go_enter Tryz.func23, Tryz.ntmps23
    go_wp2
    go_ret
    exact ⟨ret_str (congrArg sb HM.out.symm), 0, rfl⟩
  have h224' : k < 224 := by omega
  clear h224 hk
  obtain ⟨r, a, hr, ha, hka⟩ : ∃ r a, r < 4 ∧ a < 32 ∧ k = 96 + 32 * r + a := ⟨(k - 96) / 32, (k - 96) % 32, by omega, by omega, by omega⟩
  have HP := Lib.hid (fun W => place_any (k : Int) r a (by omega) hr ha W)
  by_cases h24 : 24 ≤ a
  · obtain ⟨j, rfl⟩ : ∃ j, a = 24 + j := ⟨a - 24, by omega⟩
    have hc := hg.od r j hr (by omega)
    rw [show 120 + 32 * r + j = k by omega] at hc
    clear hg hka
    generalize nms.getD k [] = l at *
    have hj : j < 8 := by omega
    have e1 : ((24 + j : Nat) : Int) - 24 = (j : Int) := by omega
    have c0 : (24 : Int) ≤ ((24 + j : Nat) : Int) := by omega
    generalize ((24 + j : Nat) : Int) = aa at *
    clear ha
    go_enter Tryz.func23, Tryz.ntmps23
    go_wp2_with (go_at_call 48; refine (HP.out _).mono ?_; rintro e w' ⟨rfl, rfl⟩)
    go_ret
    exact ⟨ret_str (congrArg sb HM.out.symm), 0, rfl⟩
  have HF : Hid (a < 24) := by show a < 24; omega
  have ha24 : a < 24 := HF.out
  clear ha h24
  have hr0 : r = 0 ∨ r = 1 ∨ r = 2 ∨ r = 3 := by omega
  rcases hr0 with rfl | rfl | rfl | rfl
  · have e : nms.getD k [] = [] := by
      have := upto_at gap_all (k - 64) (by omega)
      rw [show 64 + (k - 64) = k by omega] at this
      simpa using this
    rw [e] at HM
    clear hg e hka hr
    go_enter Tryz.func23, Tryz.ntmps23
    go_wp2_with (go_at_call 48; refine (HP.out _).mono ?_; rintro e w' ⟨rfl, rfl⟩)
    go_ret
    exact ⟨ret_str (congrArg sb HM.out.symm), 0, rfl⟩
  · have hlt := upto_at lt_all a HF.out
    have hfl := upto_at fam_len a HF.out
    simp only [Bool.and_eq_true, decide_eq_true_eq] at hlt
    rw [Nat.ble_eq] at hfl
    have hc := hg.fa a HF.out
    have e : lt (fam.getD a []) [66] = nms.getD k [] := by rw [show k = 128 + a by omega]; exact hlt.1
    rw [← e] at HM
    clear hlt e hg hka hr
    generalize fam.getD a [] = l at *
    have HLT := Lib.hid (fun W => lettered_any l [66] (by omega) (by decide) W)
    have hx : (ByteArray.mk #[66, 87, 76]).extract 0 (0 + 1) = sb [66] := by kernel_rfl
    go_enter Tryz.func23, Tryz.ntmps23
    go_wp2_with (go_at_call 48; refine (HP.out _).mono ?_; rintro e w' ⟨rfl, rfl⟩)
    go_quiet ((go_at_call 49; exact Calls.quiet_of (HLT.out _)))
    go_wp2
    go_ret
    exact ⟨ret_str (congrArg sb HM.out.symm), _, rfl⟩
  · have hlt := upto_at lt_all a HF.out
    have hfl := upto_at fam_len a HF.out
    simp only [Bool.and_eq_true, decide_eq_true_eq] at hlt
    rw [Nat.ble_eq] at hfl
    have hc := hg.fa a HF.out
    have e : lt (fam.getD a []) [87] = nms.getD k [] := by rw [show k = 160 + a by omega]; exact hlt.2.1
    rw [← e] at HM
    clear hlt e hg hka hr
    generalize fam.getD a [] = l at *
    have HLT := Lib.hid (fun W => lettered_any l [87] (by omega) (by decide) W)
    have hx : (ByteArray.mk #[66, 87, 76]).extract 1 (1 + 1) = sb [87] := by kernel_rfl
    go_enter Tryz.func23, Tryz.ntmps23
    go_wp2_with (go_at_call 48; refine (HP.out _).mono ?_; rintro e w' ⟨rfl, rfl⟩)
    go_quiet ((go_at_call 49; exact Calls.quiet_of (HLT.out _)))
    go_wp2
    go_ret
    exact ⟨ret_str (congrArg sb HM.out.symm), _, rfl⟩
  · have hlt := upto_at lt_all a HF.out
    have hfl := upto_at fam_len a HF.out
    simp only [Bool.and_eq_true, decide_eq_true_eq] at hlt
    rw [Nat.ble_eq] at hfl
    have hc := hg.fa a HF.out
    have e : lt (fam.getD a []) [76] = nms.getD k [] := by rw [show k = 192 + a by omega]; exact hlt.2.2
    rw [← e] at HM
    clear hlt e hg hka hr
    generalize fam.getD a [] = l at *
    have HLT := Lib.hid (fun W => lettered_any l [76] (by omega) (by decide) W)
    have hx : (ByteArray.mk #[66, 87, 76]).extract 2 (2 + 1) = sb [76] := by kernel_rfl
    go_enter Tryz.func23, Tryz.ntmps23
    go_wp2_with (go_at_call 48; refine (HP.out _).mono ?_; rintro e w' ⟨rfl, rfl⟩)
    go_quiet ((go_at_call 49; exact Calls.quiet_of (HLT.out _)))
    go_wp2
    go_ret
    exact ⟨ret_str (congrArg sb HM.out.symm), _, rfl⟩

set_option maxHeartbeats 800000 in
set_option maxRecDepth 100000 in
theorem size_any (c : UInt8) (w : World) : Calls Tryz.prog 55 #[.int .u8 (c.toNat : Int)] w fun e w' => e = .returned (.int .i64 (szp c)) ∧ w = w' := by
  have HC : Hid (∀ n : Nat, c.toNat = n → n < 256 → c = UInt8.ofNat n) := fun n h _ => by rw [← h]; simp
  have hb : c.toNat < 256 := UInt8.toNat_lt c
  by_cases h1 : c = 98
  · subst h1
    go_enter Tryz.func55, Tryz.ntmps55
    go_wp2
    go_ret
    exact ⟨rfl, rfl⟩
  by_cases h2 : c = 119
  · subst h2
    go_enter Tryz.func55, Tryz.ntmps55
    go_wp2
    go_ret
    exact ⟨rfl, rfl⟩
  have HS : Hid (szp c = 4) := by show szp c = 4; unfold szp; rw [if_neg h1, if_neg h2]
  have b1 : ((c.toNat : Int) == 98) = false := by
    have : c.toNat ≠ 98 := fun h => h1 (by rw [← UInt8.toNat_inj]; exact h)
    simp; omega
  have b2 : ((c.toNat : Int) == 119) = false := by
    have : c.toNat ≠ 119 := fun h => h2 (by rw [← UInt8.toNat_inj]; exact h)
    simp; omega
  clear h1 h2 HC hb
  generalize (c.toNat : Int) = x at *
  go_enter Tryz.func55, Tryz.ntmps55
  go_wp2
  go_ret
  exact ⟨ret_int HS.out.symm, rfl⟩

end Go.Proofs.YtppkpfkoggnbmaaGreatDoor.Cs.Ia
