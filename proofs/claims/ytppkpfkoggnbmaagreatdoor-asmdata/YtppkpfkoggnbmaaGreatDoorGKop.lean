import Derived.Test.YtppkpfkoggnbmaaGreatDoorGKtx
import Derived.Test.YtppkpfkoggnbmaaGreatDoorIIsa1
import Derived.BigQuiet
import Derived.Deep.QuietTactic

/- Contracts of package asm: numbers, names, registers. -/
namespace Go.Proofs.YtppkpfkoggnbmaaGreatDoor.Cs.Ka
open Go.RowKit
open Ia (sb cst sb_size sb_get sb_append)
set_option linter.unusedVariables false

theorem ret_bool {a b : Bool} (h : a = b) : Ending.returned (.bool a) = .returned (.bool b) := by rw [h]
theorem dgv_rg (h : Bool) (c : UInt8) : -1 ≤ dgv h c ∧ dgv h c ≤ 15 := by
  have := dgv_ix h c
  unfold dgv
  split
  · omega
  · split <;> omega
theorem acc_rg {h : Bool} {most n m : Int} {l : Tx} (h0 : 0 ≤ n) (h1 : n ≤ most) (ha : acc h most n l = some m) : 0 ≤ m ∧ m ≤ most := by
  induction l generalizing n with
  | nil => simp [acc] at ha; omega
  | cons c l ih =>
    unfold acc at ha
    split at ha
    · cases ha
    · split at ha
      · cases ha
      · have hb : 0 ≤ n * bs h := by unfold bs; split <;> omega
        exact ih (by omega) (by omega) ha
theorem drop_get (l : Tx) (k : Nat) (h : k < l.length) : l.drop k = l.getD k 0 :: l.drop (k + 1) := by
  rw [List.drop_eq_getElem_cons h]
  simp [List.getD, h]
theorem lt_app : ([48, 49, 50, 51, 52, 53, 54, 55, 56, 57] ++ [97, 98, 99, 100, 101, 102] : Tx) = [48, 49, 50, 51, 52, 53, 54, 55, 56, 57, 97, 98, 99, 100, 101, 102] := rfl

theorem numh_rg (m h : Bool) (l : Tx) : 0 ≤ (numh m h l).1 ∧ (numh m h l).1 < 4294967296 := by
  unfold numh
  cases ha : acc h (mst m) 0 l with
  | none => simp
  | some n =>
    have := acc_rg (Int.le_refl 0) (by unfold mst; split <;> omega) ha
    simp only
    split
    · omega
    · next hm => simp [mst, hm] at this; omega
theorem numb_rg (l : Tx) : 0 ≤ (numb l).1 ∧ (numb l).1 < 4294967296 := numh_rg _ _ _

set_option maxHeartbeats 1600000 in
set_option maxRecDepth 100000 in
theorem isLetter_any (c : UInt8) (w : World) : Calls Tryz.prog 100 #[.int .u8 c.toNat] w fun e w' => e = .returned (.bool (ltr c)) ∧ w = w' := by
  have hc := c.toNat_lt
  unfold ltr
  have e95 : (c == 95) = ((c.toNat : Int) == 95) := by
    rw [Bool.eq_iff_iff, beq_iff_eq, beq_iff_eq, ← UInt8.toNat_inj]
    show c.toNat = 95 ↔ _
    omega
  rw [e95]
  generalize c.toNat = n at *
  go_enter Tryz.func100, Tryz.ntmps100
  go_wp2
  all_goals go_ret
  all_goals exact ⟨ret_bool (Bool.eq_iff_iff.2 (by simp <;> omega)), rfl⟩

theorem nmh_cons (f : Bool) (c : UInt8) (l : Tx) : nmh f (c :: l) = ((ltr c || (!f && dig c)) && nmh false l) := rfl
set_option maxHeartbeats 3200000 in
set_option maxRecDepth 100000 in
theorem isName_any (l : Tx) (w : World) (hl : l.length ≤ 1000000) : Calls Tryz.prog 74 #[.string (sb l)] w fun e w' => e = .returned (.bool (isnm l)) ∧ w = w' := by
  have hS : (sb l).size = l.length := sb_size l
  have hg : ∀ k (hk : k < (sb l).size), (sb l)[k] = l.getD k 0 := sb_get l
  have HN : Hid (∀ k : Nat, k < (sb l).size → (l.drop k) = l.getD k 0 :: l.drop (k + 1)) := fun k h => drop_get l k (by omega)
  have HE : Hid (isnm l = (nmh true l && (decide (0 < (sb l).size) && decide ((sb l).size ≤ 24)))) := by
    show isnm l = _
    unfold isnm
    rw [hS]
    cases l <;> simp
  generalize sb l = s at *
  have HL := Lib.hid (fun c W => isLetter_any c W)
  have HG := Lib.hid hg
  have HZ := Lib.hid hS
  have hm : s.size ≤ 1000000 := by omega
  clear hg hS
  go_enter Tryz.func74, Tryz.ntmps74
  go_wp2
  go_loop [7] (fun i => ∃ k : Nat, k ≤ s.size ∧ i = .int .i64 k ∧ nmh (k == 0) (l.drop k) = nmh true l) (fun i => s.size - (intOf i).toNat)
  case atStart => exact ⟨0, Nat.zero_le _, rfl, rfl⟩
  case round =>
    obtain ⟨k, hk, rfl, hA⟩ := hrel
    by_cases hlt : k < s.size
    · have e := HG.out k hlt
      have hC := HN.out k hlt
      rw [hC, ← e, nmh_cons] at hA
      clear hC e
      obtain ⟨c, hcc⟩ : ∃ c, s[k] = c := ⟨_, rfl⟩
      rw [hcc] at hA
      have hx : (s[k].toNat : Int) = (c.toNat : Int) := by rw [hcc]
      clear hcc
      have hc := c.toNat_lt
      have HC := Lib.hid (HL.out c)
      by_cases h1 : ltr c = true
      · rw [h1] at HC
        have HA : Hid (nmh (k + 1 == 0) (l.drop (k + 1)) = nmh true l) := by show _ = _; rw [← hA, h1]; simp
        clear hA h1
        go_wp2_with (go_at_call 100; refine (HC.out _).mono ?_; rintro e w' ⟨rfl, rfl⟩)
        go_round
        case rel => exact ⟨k + 1, by omega, by go_num, HA.out⟩
        case measure => first | (simp [intOf]; done) | (simp [intOf]; omega)
      · have h1' : ltr c = false := by simpa using h1
        rw [h1'] at HC
        by_cases h0 : k = 0
        · subst h0
          have HF : Hid (isnm l = false) := by show _ = _; rw [HE.out, ← hA, h1']; rfl
          clear hA h1 h1'
          go_wp2_with (go_at_call 100; refine (HC.out _).mono ?_; rintro e w' ⟨rfl, rfl⟩)
          go_ret
          exact ⟨ret_bool HF.out.symm, rfl⟩
        · have hk1 : 0 < k := by omega
          have hk0 : ((k : Int) == 0) = false := by apply beq_false_of_ne; omega
          have e0 : (k == 0) = false := beq_false_of_ne h0
          rw [h1', e0] at hA
          by_cases hd : 48 ≤ c.toNat ∧ c.toNat ≤ 57
          · obtain ⟨d0, d1⟩ := hd
            have HA : Hid (nmh (k + 1 == 0) (l.drop (k + 1)) = nmh true l) := by show _ = _; rw [← hA]; simp [dig, d0, d1]
            clear hA h1 h1' e0 h0
            generalize c.toNat = n at *
            go_wp2_with (go_at_call 100; refine (HC.out _).mono ?_; rintro e w' ⟨rfl, rfl⟩)
            go_round
            case rel => exact ⟨k + 1, by omega, by go_num, HA.out⟩
            case measure => first | (simp [intOf]; done) | (simp [intOf]; omega)
          · have HF : Hid (isnm l = false) := by
              show _ = _
              rw [HE.out, ← hA]
              have : dig c = false := by unfold dig; simp; omega
              simp [this]
            have hd2 : c.toNat < 48 ∨ (48 ≤ c.toNat ∧ 57 < c.toNat) := by omega
            clear hA h1 h1' e0 h0 hd
            generalize c.toNat = n at *
            rcases hd2 with hd | ⟨hd, hd3⟩
            all_goals
              go_wp2_with (go_at_call 100; refine (HC.out _).mono ?_; rintro e w' ⟨rfl, rfl⟩)
              go_ret
              exact ⟨ret_bool HF.out.symm, rfl⟩
    · have e2 : l.drop k = [] := List.drop_eq_nil_of_le (by rw [← HZ.out]; omega)
      have HT : Hid (isnm l = (decide (0 < s.size) && decide (s.size ≤ 24))) := by
        show _ = _
        rw [HE.out, ← hA, e2]; simp [nmh]
      clear hA e2
      by_cases h0 : 0 < s.size
      · by_cases h24 : s.size ≤ 24
        · have HT2 : Hid (isnm l = true) := by show _ = _; rw [HT.out]; simp [h0, h24]
          go_wp2
          go_ret
          exact ⟨ret_bool (by rw [HT2.out]; exact decide_eq_true (by omega)), rfl⟩
        · have HT2 : Hid (isnm l = false) := by show _ = _; rw [HT.out]; simp [h24]
          go_wp2
          go_ret
          exact ⟨ret_bool (by rw [HT2.out]; exact decide_eq_false (by omega)), rfl⟩
      · have HT2 : Hid (isnm l = false) := by show _ = _; rw [HT.out]; simp [h0]
        go_wp2
        go_ret
        exact ⟨ret_bool HT2.out.symm, rfl⟩

theorem ret2i {k : IntKind} {a b : Int} {x y : Bool} (h : a = b) (g : x = y) : Ending.returned (.tuple #[.int k a, .bool x]) = .returned (.tuple #[.int k b, .bool y]) := by rw [h, g]

end Go.Proofs.YtppkpfkoggnbmaaGreatDoor.Cs.Ka

/- Contracts of package asm: the number that a text is. -/
namespace Go.Proofs.YtppkpfkoggnbmaaGreatDoor.Cs.Ka
open Go.RowKit
open Ia (sb cst sb_size sb_get sb_append)
set_option linter.unusedVariables false

theorem pref_le (p l : Tx) : (pref p l).1.length ≤ l.length := by unfold pref; split <;> simp
theorem acc_cons (h : Bool) (most n : Int) (c : UInt8) (l : Tx) : acc h most n (c :: l) = if dgv h c < 0 then none else if most < n * bs h + dgv h c then none else acc h most (n * bs h + dgv h c) l := rfl
theorem numh_none {m h : Bool} {t : Tx} (e : acc h (mst m) 0 t = none) : numh m h t = (0, false) := by unfold numh; rw [e]
theorem numh_some {m h : Bool} {t : Tx} {x : Int} (e : acc h (mst m) 0 t = some x) : numh m h t = (if m = true then (-x) % 4294967296 else x, !t.isEmpty) := by unfold numh; rw [e]
theorem ixb_t (c : UInt8) (w : World) : Calls Tryz.prog 56 #[.string (sb [48, 49, 50, 51, 52, 53, 54, 55, 56, 57, 97, 98, 99, 100, 101, 102]), .int .u8 c.toNat] w fun e w' => e = .returned (.int .i64 (dgv true c)) ∧ w = w' := ixb_any true c w
theorem ixb_f (c : UInt8) (w : World) : Calls Tryz.prog 56 #[.string (sb [48, 49, 50, 51, 52, 53, 54, 55, 56, 57]), .int .u8 c.toNat] w fun e w' => e = .returned (.int .i64 (dgv false c)) ∧ w = w' := ixb_any false c w
theorem empty_nil : (sb ([] : Tx)).toList.isEmpty = true := by decide +kernel

set_option maxHeartbeats 6400000 in
set_option maxRecDepth 100000 in
theorem number_any (l : Tx) (w : World) (hl : l.length ≤ 1000000) : Calls Tryz.prog 101 #[.string (sb l)] w fun e w' => e = .returned (.tuple #[.int .u32 (numb l).1, .bool (numb l).2]) ∧ w = w' := by
  have H1 := Lib.hid (fun W => cutp_any [45] l W)
  have HB := numb_rg l
  have HE : Hid (numb l = numh (pref [45] l).2 (pref [48, 120] (pref [45] l).1).2 (pref [48, 120] (pref [45] l).1).1) := rfl
  have hq := pref_le [48, 120] (pref [45] l).1
  have hp := pref_le [45] l
  generalize numb l = r at *
  generalize pref [45] l = p at *
  obtain ⟨l1, m⟩ := p
  have H2 := Lib.hid (fun W => cutp_any [48, 120] l1 W)
  simp only at HE
  generalize pref [48, 120] l1 = q at *
  obtain ⟨t, h⟩ := q
  simp only at HE
  have hS : (sb t).size = t.length := sb_size t
  have hg : ∀ k (hk : k < (sb t).size), (sb t)[k] = t.getD k 0 := sb_get t
  have HN : Hid (∀ k : Nat, k < (sb t).size → (t.drop k) = t.getD k 0 :: t.drop (k + 1)) := fun k h => drop_get t k (by omega)
  have HY : Hid (t = [] → (sb t).toList.isEmpty = true) := fun e => by rw [e]; exact empty_nil
  have HX : Hid (t ≠ [] → (sb t).toList.isEmpty = false) := fun e => by
    cases t with
    | nil => exact absurd rfl e
    | cons c t => exact Ia.not_empty (n := t.length) (by rw [sb_size]; rfl)
  have hm : t.length ≤ 1000000 := by simp only at hp hq; omega
  rw [← hS] at hm
  clear hp hq
  generalize sb t = s at *
  have HG := Lib.hid hg
  have HZ := Lib.hid hS
  clear hg hS
  cases h <;> cases m
  · go_enter Tryz.func101, Tryz.ntmps101
    go_wp2_with (first
      | ((go_at_call 125; with_reducible refine (H1.out _).mono ?_); rintro e w' ⟨rfl, rfl⟩)
      | ((go_at_call 125; with_reducible refine (H2.out _).mono ?_); rintro e w' ⟨rfl, rfl⟩)
      | fail)
    go_loop [8, 27] (fun n i => ∃ k : Nat, ∃ x : Int, k ≤ s.size ∧ i = .int .i64 k ∧ n = .int .u64 x ∧ 0 ≤ x ∧ x ≤ 4294967295 ∧ acc false 4294967295 x (t.drop k) = acc false 4294967295 0 t) (fun _ i => s.size - (intOf i).toNat)
    case atStart => exact ⟨0, 0, Nat.zero_le _, rfl, rfl, by omega, by omega, rfl⟩
    case round =>
      obtain ⟨k, x, hk, rfl, rfl, hx0, hx1, hA⟩ := hrel
      by_cases hlt : k < s.size
      · have e := HG.out k hlt
        have hC := HN.out k hlt
        rw [hC, ← e] at hA
        clear hC e
        obtain ⟨c, hcc⟩ : ∃ c, s[k] = c := ⟨_, rfl⟩
        rw [hcc, acc_cons] at hA
        have hx : (s[k].toNat : Int) = (c.toNat : Int) := by rw [hcc]
        clear hcc
        have hc := c.toNat_lt
        have HC := Lib.hid (fun W => ixb_f c W)
        obtain ⟨hd0, hd1⟩ := dgv_rg false c
        rw [show bs false = 10 from rfl] at hA
        generalize dgv false c = d at *
        by_cases h1 : d < 0
        · rw [if_pos h1] at hA
          have HR : Hid (r = (0, false)) := by show _ = _; rw [HE.out]; exact numh_none hA.symm
          clear hA
          go_wp2_with (first | (go_at_call 56; refine (HC.out _).mono ?_; rintro e w' ⟨rfl, rfl⟩) | fail)
          go_ret2
          exact ⟨by rw [HR.out]; rfl, rfl⟩
        · have hd2 : 0 ≤ d := by omega
          rw [if_neg h1] at hA
          clear h1 hd0
          by_cases h2 : 4294967295 < x * 10 + d
          · rw [if_pos h2] at hA
            have HR : Hid (r = (0, false)) := by show _ = _; rw [HE.out]; exact numh_none hA.symm
            clear hA
            go_wp2_with (first | (go_at_call 56; refine (HC.out _).mono ?_; rintro e w' ⟨rfl, rfl⟩) | fail)
            go_ret2
            exact ⟨by rw [HR.out]; rfl, rfl⟩
          · rw [if_neg h2] at hA
            have HA := Lib.hid hA
            have h3 : x * 10 + d ≤ 4294967295 := by omega
            clear hA h2
            go_wp2_with (first | (go_at_call 56; refine (HC.out _).mono ?_; rintro e w' ⟨rfl, rfl⟩) | fail)
            go_round
            case rel => exact ⟨k + 1, x * 10 + d, by omega, by go_num, rfl, by omega, h3, HA.out⟩
            case measure => first | (simp [intOf]; done) | (simp [intOf]; omega)
      · have e2 : t.drop k = [] := List.drop_eq_nil_of_le (by rw [← HZ.out]; omega)
        rw [e2] at hA
        have HR : Hid (r = (x, !t.isEmpty)) := by show _ = _; rw [HE.out]; exact numh_some hA.symm
        clear hA e2
        by_cases ht : t = []
        · have y1 := HY.out ht
          have HR2 : Hid (r = (x, false)) := by show _ = _; rw [HR.out, ht]; rfl
          clear HR
          go_wp2
          go_ret2
          exact ⟨by rw [HR2.out]; exact ret2i (by first | rfl | omega | (simp [IntKind.wrap, IntKind.signed, IntKind.bits]; done)) rfl, rfl⟩
        · have y1 := HX.out ht
          have HR2 : Hid (r = (x, true)) := by
            show _ = _; rw [HR.out]
            cases t with
            | nil => exact absurd rfl ht
            | cons _ _ => rfl
          clear HR
          go_wp2
          go_ret2
          exact ⟨by rw [HR2.out]; exact ret2i (by first | rfl | omega | (simp [IntKind.wrap, IntKind.signed, IntKind.bits]; done)) rfl, rfl⟩
  · go_enter Tryz.func101, Tryz.ntmps101
    go_wp2_with (first
      | ((go_at_call 125; with_reducible refine (H1.out _).mono ?_); rintro e w' ⟨rfl, rfl⟩)
      | ((go_at_call 125; with_reducible refine (H2.out _).mono ?_); rintro e w' ⟨rfl, rfl⟩)
      | fail)
    go_loop [8, 27] (fun n i => ∃ k : Nat, ∃ x : Int, k ≤ s.size ∧ i = .int .i64 k ∧ n = .int .u64 x ∧ 0 ≤ x ∧ x ≤ 2147483648 ∧ acc false 2147483648 x (t.drop k) = acc false 2147483648 0 t) (fun _ i => s.size - (intOf i).toNat)
    case atStart => exact ⟨0, 0, Nat.zero_le _, rfl, rfl, by omega, by omega, rfl⟩
    case round =>
      obtain ⟨k, x, hk, rfl, rfl, hx0, hx1, hA⟩ := hrel
      by_cases hlt : k < s.size
      · have e := HG.out k hlt
        have hC := HN.out k hlt
        rw [hC, ← e] at hA
        clear hC e
        obtain ⟨c, hcc⟩ : ∃ c, s[k] = c := ⟨_, rfl⟩
        rw [hcc, acc_cons] at hA
        have hx : (s[k].toNat : Int) = (c.toNat : Int) := by rw [hcc]
        clear hcc
        have hc := c.toNat_lt
        have HC := Lib.hid (fun W => ixb_f c W)
        obtain ⟨hd0, hd1⟩ := dgv_rg false c
        rw [show bs false = 10 from rfl] at hA
        generalize dgv false c = d at *
        by_cases h1 : d < 0
        · rw [if_pos h1] at hA
          have HR : Hid (r = (0, false)) := by show _ = _; rw [HE.out]; exact numh_none hA.symm
          clear hA
          go_wp2_with (first | (go_at_call 56; refine (HC.out _).mono ?_; rintro e w' ⟨rfl, rfl⟩) | fail)
          go_ret2
          exact ⟨by rw [HR.out]; rfl, rfl⟩
        · have hd2 : 0 ≤ d := by omega
          rw [if_neg h1] at hA
          clear h1 hd0
          by_cases h2 : 2147483648 < x * 10 + d
          · rw [if_pos h2] at hA
            have HR : Hid (r = (0, false)) := by show _ = _; rw [HE.out]; exact numh_none hA.symm
            clear hA
            go_wp2_with (first | (go_at_call 56; refine (HC.out _).mono ?_; rintro e w' ⟨rfl, rfl⟩) | fail)
            go_ret2
            exact ⟨by rw [HR.out]; rfl, rfl⟩
          · rw [if_neg h2] at hA
            have HA := Lib.hid hA
            have h3 : x * 10 + d ≤ 2147483648 := by omega
            clear hA h2
            go_wp2_with (first | (go_at_call 56; refine (HC.out _).mono ?_; rintro e w' ⟨rfl, rfl⟩) | fail)
            go_round
            case rel => exact ⟨k + 1, x * 10 + d, by omega, by go_num, rfl, by omega, h3, HA.out⟩
            case measure => first | (simp [intOf]; done) | (simp [intOf]; omega)
      · have e2 : t.drop k = [] := List.drop_eq_nil_of_le (by rw [← HZ.out]; omega)
        rw [e2] at hA
        have HR : Hid (r = ((-x) % 4294967296, !t.isEmpty)) := by show _ = _; rw [HE.out]; exact numh_some hA.symm
        clear hA e2
        by_cases ht : t = []
        · have y1 := HY.out ht
          have HR2 : Hid (r = ((-x) % 4294967296, false)) := by show _ = _; rw [HR.out, ht]; rfl
          clear HR
          go_wp2
          go_ret2
          exact ⟨by rw [HR2.out]; exact ret2i (by first | rfl | omega | (simp [IntKind.wrap, IntKind.signed, IntKind.bits]; done)) rfl, rfl⟩
        · have y1 := HX.out ht
          have HR2 : Hid (r = ((-x) % 4294967296, true)) := by
            show _ = _; rw [HR.out]
            cases t with
            | nil => exact absurd rfl ht
            | cons _ _ => rfl
          clear HR
          go_wp2
          go_ret2
          exact ⟨by rw [HR2.out]; exact ret2i (by first | rfl | omega | (simp [IntKind.wrap, IntKind.signed, IntKind.bits]; done)) rfl, rfl⟩
  · go_enter Tryz.func101, Tryz.ntmps101
    go_wp2_with (first
      | ((go_at_call 125; with_reducible refine (H1.out _).mono ?_); rintro e w' ⟨rfl, rfl⟩)
      | ((go_at_call 125; with_reducible refine (H2.out _).mono ?_); rintro e w' ⟨rfl, rfl⟩)
      | fail)
    go_loop [8, 27] (fun n i => ∃ k : Nat, ∃ x : Int, k ≤ s.size ∧ i = .int .i64 k ∧ n = .int .u64 x ∧ 0 ≤ x ∧ x ≤ 4294967295 ∧ acc true 4294967295 x (t.drop k) = acc true 4294967295 0 t) (fun _ i => s.size - (intOf i).toNat)
    case atStart => exact ⟨0, 0, Nat.zero_le _, rfl, rfl, by omega, by omega, rfl⟩
    case round =>
      obtain ⟨k, x, hk, rfl, rfl, hx0, hx1, hA⟩ := hrel
      by_cases hlt : k < s.size
      · have e := HG.out k hlt
        have hC := HN.out k hlt
        rw [hC, ← e] at hA
        clear hC e
        obtain ⟨c, hcc⟩ : ∃ c, s[k] = c := ⟨_, rfl⟩
        rw [hcc, acc_cons] at hA
        have hx : (s[k].toNat : Int) = (c.toNat : Int) := by rw [hcc]
        clear hcc
        have hc := c.toNat_lt
        have HC := Lib.hid (fun W => ixb_t c W)
        obtain ⟨hd0, hd1⟩ := dgv_rg true c
        rw [show bs true = 16 from rfl] at hA
        generalize dgv true c = d at *
        by_cases h1 : d < 0
        · rw [if_pos h1] at hA
          have HR : Hid (r = (0, false)) := by show _ = _; rw [HE.out]; exact numh_none hA.symm
          clear hA
          go_wp2_with (first | (go_at_call 56; refine (HC.out _).mono ?_; rintro e w' ⟨rfl, rfl⟩) | fail)
          go_ret2
          exact ⟨by rw [HR.out]; rfl, rfl⟩
        · have hd2 : 0 ≤ d := by omega
          rw [if_neg h1] at hA
          clear h1 hd0
          by_cases h2 : 4294967295 < x * 16 + d
          · rw [if_pos h2] at hA
            have HR : Hid (r = (0, false)) := by show _ = _; rw [HE.out]; exact numh_none hA.symm
            clear hA
            go_wp2_with (first | (go_at_call 56; refine (HC.out _).mono ?_; rintro e w' ⟨rfl, rfl⟩) | fail)
            go_ret2
            exact ⟨by rw [HR.out]; rfl, rfl⟩
          · rw [if_neg h2] at hA
            have HA := Lib.hid hA
            have h3 : x * 16 + d ≤ 4294967295 := by omega
            clear hA h2
            go_wp2_with (first | (go_at_call 56; refine (HC.out _).mono ?_; rintro e w' ⟨rfl, rfl⟩) | fail)
            go_round
            case rel => exact ⟨k + 1, x * 16 + d, by omega, by go_num, rfl, by omega, h3, HA.out⟩
            case measure => first | (simp [intOf]; done) | (simp [intOf]; omega)
      · have e2 : t.drop k = [] := List.drop_eq_nil_of_le (by rw [← HZ.out]; omega)
        rw [e2] at hA
        have HR : Hid (r = (x, !t.isEmpty)) := by show _ = _; rw [HE.out]; exact numh_some hA.symm
        clear hA e2
        by_cases ht : t = []
        · have y1 := HY.out ht
          have HR2 : Hid (r = (x, false)) := by show _ = _; rw [HR.out, ht]; rfl
          clear HR
          go_wp2
          go_ret2
          exact ⟨by rw [HR2.out]; exact ret2i (by first | rfl | omega | (simp [IntKind.wrap, IntKind.signed, IntKind.bits]; done)) rfl, rfl⟩
        · have y1 := HX.out ht
          have HR2 : Hid (r = (x, true)) := by
            show _ = _; rw [HR.out]
            cases t with
            | nil => exact absurd rfl ht
            | cons _ _ => rfl
          clear HR
          go_wp2
          go_ret2
          exact ⟨by rw [HR2.out]; exact ret2i (by first | rfl | omega | (simp [IntKind.wrap, IntKind.signed, IntKind.bits]; done)) rfl, rfl⟩
  · go_enter Tryz.func101, Tryz.ntmps101
    go_wp2_with (first
      | ((go_at_call 125; with_reducible refine (H1.out _).mono ?_); rintro e w' ⟨rfl, rfl⟩)
      | ((go_at_call 125; with_reducible refine (H2.out _).mono ?_); rintro e w' ⟨rfl, rfl⟩)
      | fail)
    go_loop [8, 27] (fun n i => ∃ k : Nat, ∃ x : Int, k ≤ s.size ∧ i = .int .i64 k ∧ n = .int .u64 x ∧ 0 ≤ x ∧ x ≤ 2147483648 ∧ acc true 2147483648 x (t.drop k) = acc true 2147483648 0 t) (fun _ i => s.size - (intOf i).toNat)
    case atStart => exact ⟨0, 0, Nat.zero_le _, rfl, rfl, by omega, by omega, rfl⟩
    case round =>
      obtain ⟨k, x, hk, rfl, rfl, hx0, hx1, hA⟩ := hrel
      by_cases hlt : k < s.size
      · have e := HG.out k hlt
        have hC := HN.out k hlt
        rw [hC, ← e] at hA
        clear hC e
        obtain ⟨c, hcc⟩ : ∃ c, s[k] = c := ⟨_, rfl⟩
        rw [hcc, acc_cons] at hA
        have hx : (s[k].toNat : Int) = (c.toNat : Int) := by rw [hcc]
        clear hcc
        have hc := c.toNat_lt
        have HC := Lib.hid (fun W => ixb_t c W)
        obtain ⟨hd0, hd1⟩ := dgv_rg true c
        rw [show bs true = 16 from rfl] at hA
        generalize dgv true c = d at *
        by_cases h1 : d < 0
        · rw [if_pos h1] at hA
          have HR : Hid (r = (0, false)) := by show _ = _; rw [HE.out]; exact numh_none hA.symm
          clear hA
          go_wp2_with (first | (go_at_call 56; refine (HC.out _).mono ?_; rintro e w' ⟨rfl, rfl⟩) | fail)
          go_ret2
          exact ⟨by rw [HR.out]; rfl, rfl⟩
        · have hd2 : 0 ≤ d := by omega
          rw [if_neg h1] at hA
          clear h1 hd0
          by_cases h2 : 2147483648 < x * 16 + d
          · rw [if_pos h2] at hA
            have HR : Hid (r = (0, false)) := by show _ = _; rw [HE.out]; exact numh_none hA.symm
            clear hA
            go_wp2_with (first | (go_at_call 56; refine (HC.out _).mono ?_; rintro e w' ⟨rfl, rfl⟩) | fail)
            go_ret2
            exact ⟨by rw [HR.out]; rfl, rfl⟩
          · rw [if_neg h2] at hA
            have HA := Lib.hid hA
            have h3 : x * 16 + d ≤ 2147483648 := by omega
            clear hA h2
            go_wp2_with (first | (go_at_call 56; refine (HC.out _).mono ?_; rintro e w' ⟨rfl, rfl⟩) | fail)
            go_round
            case rel => exact ⟨k + 1, x * 16 + d, by omega, by go_num, rfl, by omega, h3, HA.out⟩
            case measure => first | (simp [intOf]; done) | (simp [intOf]; omega)
      · have e2 : t.drop k = [] := List.drop_eq_nil_of_le (by rw [← HZ.out]; omega)
        rw [e2] at hA
        have HR : Hid (r = ((-x) % 4294967296, !t.isEmpty)) := by show _ = _; rw [HE.out]; exact numh_some hA.symm
        clear hA e2
        by_cases ht : t = []
        · have y1 := HY.out ht
          have HR2 : Hid (r = ((-x) % 4294967296, false)) := by show _ = _; rw [HR.out, ht]; rfl
          clear HR
          go_wp2
          go_ret2
          exact ⟨by rw [HR2.out]; exact ret2i (by first | rfl | omega | (simp [IntKind.wrap, IntKind.signed, IntKind.bits]; done)) rfl, rfl⟩
        · have y1 := HX.out ht
          have HR2 : Hid (r = ((-x) % 4294967296, true)) := by
            show _ = _; rw [HR.out]
            cases t with
            | nil => exact absurd rfl ht
            | cons _ _ => rfl
          clear HR
          go_wp2
          go_ret2
          exact ⟨by rw [HR2.out]; exact ret2i (by first | rfl | omega | (simp [IntKind.wrap, IntKind.signed, IntKind.bits]; done)) rfl, rfl⟩

end Go.Proofs.YtppkpfkoggnbmaaGreatDoor.Cs.Ka

/- Contracts of package asm: registers by their names. -/
namespace Go.Proofs.YtppkpfkoggnbmaaGreatDoor.Cs.Ka
open Go.RowKit
open Ia (sb cst sb_size sb_get sb_append)
set_option linter.unusedVariables false

theorem rnm_dec : ∀ i : Fin 16, Lib.decDigits i.val = (rnm i.val).tail := by
  intro i
  have h := i.isLt
  by_cases h10 : i.val < 10
  · rw [Lib.decDigits_one h10]; simp [rnm, h10]
  · rw [Lib.decDigits_two h10 (by omega)]
    have e1 : i.val / 10 = 1 := by omega
    have e2 : i.val % 10 = i.val - 10 := by omega
    simp [rnm, h10, e1, e2]
theorem named_any (i : Nat) (hi : i < 16) (w : World) : Calls Tryz.prog 33 #[.int .i64 i] w fun e w' => e = .returned (.string (sb (rnm i))) ∧ w = w' := by
  have HI := Lib.hid (fun W => itoa_small i (by omega) W)
  rw [rnm_dec ⟨i, hi⟩] at HI
  have e : rnm i = 82 :: (rnm i).tail := rfl
  have HE := Lib.hid e
  have hz : (rnm i).length ≤ 3 := by unfold rnm; split <;> simp
  clear e
  generalize rnm i = r at *
  go_enter Tryz.func33, Tryz.ntmps33
  go_wp2_with (first | (go_at_call 32; refine (HI.out _).mono ?_; rintro e w' ⟨rfl, rfl⟩) | fail)
  go_ret
  refine ⟨?_, rfl⟩
  rw [HE.out]
  exact congrArg (fun x => Ending.returned (.string x)) (sb_append [82] _)

theorem rgf_step (n i : Nat) (l : Tx) : rgf (n + 1) i l = if l = rnm i then ((i : Int), true) else rgf n (i + 1) l := rfl
set_option maxHeartbeats 3200000 in
set_option maxRecDepth 100000 in
theorem register_any (l : Tx) (w : World) : Calls Tryz.prog 73 #[.string (sb l)] w fun e w' => e = .returned (.tuple #[.int .i64 (rgn l).1, .bool (rgn l).2]) ∧ w = w' := by
  have HI := Lib.hid (fun i hi W => named_any i hi W)
  have bt : ∀ k : Tx, l = k → (l == k) = true := fun k h => by simpa using h
  have bf : ∀ k : Tx, l ≠ k → (l == k) = false := fun k h => by simpa using h
  have BT := Lib.hid bt
  have BF := Lib.hid bf
  clear bt bf
  by_cases h1 : l = [65, 80]
  · have HR : Hid (rgn l = (12, true)) := by show _ = _; unfold rgn; rw [if_pos h1]
    have b1 := BT.out _ h1
    clear h1
    go_enter Tryz.func73, Tryz.ntmps73
    go_wp2
    go_ret2
    exact ⟨by rw [HR.out]; rfl, rfl⟩
  · have b1 := BF.out _ h1
    by_cases h2 : l = [70, 80]
    · have HR : Hid (rgn l = (13, true)) := by show _ = _; unfold rgn; rw [if_neg h1, if_pos h2]
      have b2 := BT.out _ h2
      clear h1 h2
      go_enter Tryz.func73, Tryz.ntmps73
      go_wp2
      go_ret2
      exact ⟨by rw [HR.out]; rfl, rfl⟩
    · have b2 := BF.out _ h2
      by_cases h3 : l = [83, 80]
      · have HR : Hid (rgn l = (14, true)) := by show _ = _; unfold rgn; rw [if_neg h1, if_neg h2, if_pos h3]
        have b3 := BT.out _ h3
        clear h1 h2 h3
        go_enter Tryz.func73, Tryz.ntmps73
        go_wp2
        go_ret2
        exact ⟨by rw [HR.out]; rfl, rfl⟩
      · have b3 := BF.out _ h3
        by_cases h4 : l = [80, 67]
        · have HR : Hid (rgn l = (15, true)) := by show _ = _; unfold rgn; rw [if_neg h1, if_neg h2, if_neg h3, if_pos h4]
          have b4 := BT.out _ h4
          clear h1 h2 h3 h4
          go_enter Tryz.func73, Tryz.ntmps73
          go_wp2
          go_ret2
          exact ⟨by rw [HR.out]; rfl, rfl⟩
        · have b4 := BF.out _ h4
          have HR : Hid (rgn l = rgf 16 0 l) := by show _ = _; unfold rgn; rw [if_neg h1, if_neg h2, if_neg h3, if_neg h4]
          clear h1 h2 h3 h4
          go_enter Tryz.func73, Tryz.ntmps73
          go_wp2
          go_loop [14] (fun i => ∃ k : Nat, k ≤ 16 ∧ i = .int .i64 k ∧ rgf (16 - k) k l = rgf 16 0 l) (fun i => 16 - (intOf i).toNat)
          case atStart => exact ⟨0, by omega, rfl, rfl⟩
          case round =>
            obtain ⟨k, hk, rfl, hA⟩ := hrel
            by_cases hlt : k < 16
            · have e : 16 - k = (15 - k) + 1 := by omega
              rw [e, rgf_step] at hA
              have HC := Lib.hid (HI.out k hlt)
              by_cases h5 : l = rnm k
              · rw [if_pos h5] at hA
                have b5 := BT.out _ h5
                have HR2 : Hid (rgn l = ((k : Int), true)) := by show _ = _; rw [HR.out, ← hA]
                clear hA h5 e
                generalize rnm k = r at *
                go_wp2_with (first | (go_at_call 33; refine (HC.out _).mono ?_; rintro e w' ⟨rfl, rfl⟩) | fail)
                go_ret2
                exact ⟨by rw [HR2.out]; rfl, rfl⟩
              · rw [if_neg h5] at hA
                have b5 := BF.out _ h5
                have HA : Hid (rgf (16 - (k + 1)) (k + 1) l = rgf 16 0 l) := by show _ = _; rw [← hA, show 16 - (k + 1) = 15 - k by omega]
                clear hA h5 e
                generalize rnm k = r at *
                go_wp2_with (first | (go_at_call 33; refine (HC.out _).mono ?_; rintro e w' ⟨rfl, rfl⟩) | fail)
                go_round
                case rel => exact ⟨k + 1, by omega, by go_num, HA.out⟩
                case measure => first | (simp [intOf]; done) | (simp [intOf]; omega)
            · obtain rfl : k = 16 := by omega
              have HR2 : Hid (rgn l = (0, false)) := by show _ = _; rw [HR.out, ← hA]; rfl
              clear hA
              go_wp2
              go_ret2
              exact ⟨by rw [HR2.out]; rfl, rfl⟩

end Go.Proofs.YtppkpfkoggnbmaaGreatDoor.Cs.Ka

/- Contracts of package asm: operands as they are written. -/
namespace Go.Proofs.YtppkpfkoggnbmaaGreatDoor.Cs.Ka
open Go.RowKit Es
open Ia (sb cst sb_size sb_get sb_append)
set_option linter.unusedVariables false
set_option linter.unusedSimpArgs false

set_option maxHeartbeats 3200000 in
set_option maxRecDepth 100000 in
theorem valued_any (k : Int) (l : Tx) (w : World) (hl : l.length ≤ 1000000) : Calls Tryz.prog 102 #[.int .i64 k, .string (sb l)] w fun e w' => e = .returned (.tuple #[(vald k l).1.val, .bool (vald k l).2]) ∧ Below w.heap.size w w' := by
  have HN := Lib.hid (fun W => number_any l W hl)
  have HM := Lib.hid (fun W => isName_any l W hl)
  have HE : Hid (vald k l = if (numb l).2 = true then (⟨⟨k, 0, -1, (numb l).1, 0⟩, []⟩, true) else if isnm l = true then (⟨⟨k, 0, -1, 0, 0⟩, l⟩, true) else (zo, false)) := rfl
  clear hl
  generalize vald k l = r at *
  generalize numb l = p at *
  generalize isnm l = q at *
  obtain ⟨x, b⟩ := p
  cases b
  · cases q
    · skip
      have HR : Hid (r = (zo, false)) := by show _ = _; rw [HE.out]; rfl
      go_enter Tryz.func102, Tryz.ntmps102
      go_wp2_with (first | (go_at_call 101; refine (HN.out _).mono ?_; rintro e w' ⟨rfl, rfl⟩) | (go_at_call 74; refine (HM.out _).mono ?_; rintro e w' ⟨rfl, rfl⟩) | fail)
      refine bodyPost_ret (v := .tuple #[(zo : Op).val, .bool false]) (by simp [results, Tryz.results102, go_sem, zo, zs]) rfl ?_
      exact ⟨by rw [HR.out], (by repeat (first | exact Below.refl _ _ | refine Below.setCell ?_ (by first | exact Nat.le_refl _ | (simp; done) | (simp; omega)) _ | refine Below.alloc ?_ (by first | exact Nat.le_refl _ | (simp; done) | (simp; omega)) _))⟩
    · skip
      have HR : Hid (r = (⟨⟨k, 0, -1, 0, 0⟩, l⟩, true)) := by show _ = _; rw [HE.out]; rfl
      go_enter Tryz.func102, Tryz.ntmps102
      go_wp2_with (first | (go_at_call 101; refine (HN.out _).mono ?_; rintro e w' ⟨rfl, rfl⟩) | (go_at_call 74; refine (HM.out _).mono ?_; rintro e w' ⟨rfl, rfl⟩) | fail)
      refine bodyPost_ret (v := .tuple #[(⟨⟨k, 0, -1, 0, 0⟩, l⟩ : Op).val, .bool true]) (by simp [results, Tryz.results102, go_sem, zo, zs]) rfl ?_
      exact ⟨by rw [HR.out], (by repeat (first | exact Below.refl _ _ | refine Below.setCell ?_ (by first | exact Nat.le_refl _ | (simp; done) | (simp; omega)) _ | refine Below.alloc ?_ (by first | exact Nat.le_refl _ | (simp; done) | (simp; omega)) _))⟩
  · skip
    have HR : Hid (r = (⟨⟨k, 0, -1, x, 0⟩, []⟩, true)) := by show _ = _; rw [HE.out]; rfl
    go_enter Tryz.func102, Tryz.ntmps102
    go_wp2_with (first | (go_at_call 101; refine (HN.out _).mono ?_; rintro e w' ⟨rfl, rfl⟩) | (go_at_call 74; refine (HM.out _).mono ?_; rintro e w' ⟨rfl, rfl⟩) | fail)
    refine bodyPost_ret (v := .tuple #[(⟨⟨k, 0, -1, x, 0⟩, []⟩ : Op).val, .bool true]) (by simp [results, Tryz.results102, go_sem, zo, zs]) rfl ?_
    exact ⟨by rw [HR.out], (by repeat (first | exact Below.refl _ _ | refine Below.setCell ?_ (by first | exact Nat.le_refl _ | (simp; done) | (simp; omega)) _ | refine Below.alloc ?_ (by first | exact Nat.le_refl _ | (simp; done) | (simp; omega)) _))⟩

end Go.Proofs.YtppkpfkoggnbmaaGreatDoor.Cs.Ka

/- Contracts of package asm: a number itself, a register in brackets. -/
namespace Go.Proofs.YtppkpfkoggnbmaaGreatDoor.Cs.Ka
open Go.RowKit Es
open Ia (sb cst sb_size sb_get sb_append)
set_option linter.unusedVariables false
set_option linter.unusedSimpArgs false

/-- A variable for what is answered, the first block of the call's. -/
structure Rz (T : Nat) (zs : List Value) (w W : World) : Prop where
  res : Es.Bk W w.heap.size T zs
  bel : Below w.heap.size w W
theorem Rz.below {T : Nat} {zs : List Value} {w W W' : World} (h : Rz T zs w W) (b : Below W.heap.size W W') : Rz T zs w W' := ⟨h.res.below b (Nat.le_refl _), bel_trans h.bel b h.bel.size⟩

theorem Rz.six {T : Nat} {zs : List Value} {w W : World} (h : Rz T zs w W) (a0 a1 a2 a3 a4 a5 : Value) :
    Below w.heap.size w ((((((W.setCell ⟨w.heap.size, 0, none⟩ a0).setCell ⟨w.heap.size, 1, none⟩ a1).setCell ⟨w.heap.size, 2, none⟩ a2).setCell ⟨w.heap.size, 3, none⟩ a3).setCell ⟨w.heap.size, 4, none⟩ a4).setCell ⟨w.heap.size, 5, none⟩ a5) :=
  (((((h.bel.setCell (Nat.le_refl _) _).setCell (Nat.le_refl _) _).setCell (Nat.le_refl _) _).setCell (Nat.le_refl _) _).setCell (Nat.le_refl _) _).setCell (Nat.le_refl _) _

theorem suf_le (c : UInt8) (l : Tx) : (suf c l).1.length ≤ l.length := by unfold suf; split <;> simp
theorem cutc_le (c : UInt8) (l : Tx) : (cutc c l).1.length ≤ l.length ∧ (cutc c l).2.1.length ≤ l.length := by
  induction l with
  | nil => simp [cutc]
  | cons b l ih =>
    unfold cutc
    split
    · simp
    · simp; omega
theorem vald_x (k : Int) (l : Tx) : 0 ≤ (vald k l).1.s.x ∧ (vald k l).1.s.x < 4294967296 := by
  unfold vald
  split
  · exact numb_rg l
  · split <;> simp [zo, zs]

set_option maxHeartbeats 3200000 in
set_option maxRecDepth 100000 in
theorem immediate_any (l : Tx) (w : World) (hl : l.length ≤ 1000000) : Calls Tryz.prog 127 #[.string (sb l)] w fun e w' => e = .returned (.tuple #[(imm l).1.val, .bool (imm l).2]) ∧ Below w.heap.size w w' := by
  have HV := Lib.hid (fun W => valued_any 12 l W hl)
  obtain ⟨hx0, hx1⟩ := vald_x 12 l
  have HE : Hid (imm l = (⟨⟨if (vald 12 l).1.l = [] ∧ (vald 12 l).1.s.x < 64 then 0 else (vald 12 l).1.s.k, (vald 12 l).1.s.r, (vald 12 l).1.s.i, (vald 12 l).1.s.x, (vald 12 l).1.s.n⟩, (vald 12 l).1.l⟩, (vald 12 l).2)) := rfl
  clear hl
  generalize imm l = r at *
  generalize vald 12 l = p at *
  obtain ⟨⟨⟨k, g, i, x, n⟩, t⟩, b⟩ := p
  simp only at hx0 hx1 HE
  simp only [Op.val] at HV
  have HW : Hid (Rz 60 [.int .i64 0, .int .i64 0, .int .i64 0, .int .u32 0, .int .i64 0, .string ⟨#[]⟩] w (w.alloc (.cells #[.int .i64 0, .int .i64 0, .int .i64 0, .int .u32 0, .int .i64 0, .string ⟨#[]⟩] 60))) := ⟨Es.Bk.new _ _ _, Es.al1 _ _⟩
  by_cases h1 : t = []
  · by_cases h2 : x < 64
    · have HR : Hid (r = (⟨⟨0, g, i, x, n⟩, t⟩, b)) := by show _ = _; rw [HE.out, if_pos ⟨h1, h2⟩]
      have b1 : (t == []) = true := by simpa using h1
      clear h1
      go_enter Tryz.func127, Tryz.ntmps127
      go_upto_region 4 with (first | (go_at_call 102; refine (HV.out _).mono ?_; rintro e w1 ⟨rfl, hb⟩; have HF := Lib.hid (HW.out.below hb); clear hb) | fail)
      have HF2 := Lib.hid (HF.out.below (Es.al1 w1 (.cells #[.int .i64 0, .int .i64 g, .int .i64 i, .int .u32 x, .int .i64 n, .string (sb t)] 60)))
      have hv := Es.Bk.new w1 60 [.int .i64 0, .int .i64 g, .int .i64 i, .int .u32 x, .int .i64 n, .string (sb t)]
      have hlt := HF.out.res.lt
      clear HF
      generalize w1.alloc (.cells #[.int .i64 0, .int .i64 g, .int .i64 i, .int .u32 x, .int .i64 n, .string (sb t)] 60) = V at *
      obtain ⟨y0, y1, y2, y3, y4, y5, yf, yl⟩ := HF2.out.res.six
      obtain ⟨z0, z1, z2, z3, z4, z5, zf, zl⟩ := hv.six
      clear hv
      go_wp2_with fail
      refine bodyPost_ret (v := .tuple #[(⟨⟨0, g, i, x, n⟩, t⟩ : Op).val, .bool b]) (by simp [results, Tryz.results127, go_sem, y0, y1, y2, y3, y4, y5, yf, yl]) rfl ?_
      exact ⟨by rw [HR.out], HF2.out.six _ _ _ _ _ _⟩
    · have HR : Hid (r = (⟨⟨k, g, i, x, n⟩, t⟩, b)) := by show _ = _; rw [HE.out, if_neg (fun h => h2 h.2)]
      have b1 : (t == []) = true := by simpa using h1
      clear h1
      go_enter Tryz.func127, Tryz.ntmps127
      go_upto_region 4 with (first | (go_at_call 102; refine (HV.out _).mono ?_; rintro e w1 ⟨rfl, hb⟩; have HF := Lib.hid (HW.out.below hb); clear hb) | fail)
      have HF2 := Lib.hid (HF.out.below (Es.al1 w1 (.cells #[.int .i64 k, .int .i64 g, .int .i64 i, .int .u32 x, .int .i64 n, .string (sb t)] 60)))
      have hv := Es.Bk.new w1 60 [.int .i64 k, .int .i64 g, .int .i64 i, .int .u32 x, .int .i64 n, .string (sb t)]
      have hlt := HF.out.res.lt
      clear HF
      generalize w1.alloc (.cells #[.int .i64 k, .int .i64 g, .int .i64 i, .int .u32 x, .int .i64 n, .string (sb t)] 60) = V at *
      obtain ⟨y0, y1, y2, y3, y4, y5, yf, yl⟩ := HF2.out.res.six
      obtain ⟨z0, z1, z2, z3, z4, z5, zf, zl⟩ := hv.six
      clear hv
      go_wp2_with fail
      refine bodyPost_ret (v := .tuple #[(⟨⟨k, g, i, x, n⟩, t⟩ : Op).val, .bool b]) (by simp [results, Tryz.results127, go_sem, y0, y1, y2, y3, y4, y5, yf, yl]) rfl ?_
      exact ⟨by rw [HR.out], HF2.out.six _ _ _ _ _ _⟩
  · have HR : Hid (r = (⟨⟨k, g, i, x, n⟩, t⟩, b)) := by show _ = _; rw [HE.out, if_neg (fun h => h1 h.1)]
    have b1 : (t == []) = false := by simpa using h1
    clear h1
    go_enter Tryz.func127, Tryz.ntmps127
    go_upto_region 4 with (first | (go_at_call 102; refine (HV.out _).mono ?_; rintro e w1 ⟨rfl, hb⟩; have HF := Lib.hid (HW.out.below hb); clear hb) | fail)
    have HF2 := Lib.hid (HF.out.below (Es.al1 w1 (.cells #[.int .i64 k, .int .i64 g, .int .i64 i, .int .u32 x, .int .i64 n, .string (sb t)] 60)))
    have hv := Es.Bk.new w1 60 [.int .i64 k, .int .i64 g, .int .i64 i, .int .u32 x, .int .i64 n, .string (sb t)]
    have hlt := HF.out.res.lt
    clear HF
    generalize w1.alloc (.cells #[.int .i64 k, .int .i64 g, .int .i64 i, .int .u32 x, .int .i64 n, .string (sb t)] 60) = V at *
    obtain ⟨y0, y1, y2, y3, y4, y5, yf, yl⟩ := HF2.out.res.six
    obtain ⟨z0, z1, z2, z3, z4, z5, zf, zl⟩ := hv.six
    clear hv
    go_wp2_with fail
    refine bodyPost_ret (v := .tuple #[(⟨⟨k, g, i, x, n⟩, t⟩ : Op).val, .bool b]) (by simp [results, Tryz.results127, go_sem, y0, y1, y2, y3, y4, y5, yf, yl]) rfl ?_
    exact ⟨by rw [HR.out], HF2.out.six _ _ _ _ _ _⟩

end Go.Proofs.YtppkpfkoggnbmaaGreatDoor.Cs.Ka

/- Contracts of package asm: a register in brackets. -/
namespace Go.Proofs.YtppkpfkoggnbmaaGreatDoor.Cs.Ka
open Go.RowKit Es
open Ia (sb cst sb_size sb_get sb_append)
set_option linter.unusedVariables false
set_option linter.unusedSimpArgs false

theorem either_any (b : Bool) (x y : Int) (w : World) : Calls Tryz.prog 141 #[.bool b, .int .i64 x, .int .i64 y] w fun e w' => e = .returned (.int .i64 (if b = true then x else y)) ∧ w = w' := by
  cases b
  all_goals
    go_enter Tryz.func141, Tryz.ntmps141
    go_wp2
    go_ret
    exact ⟨rfl, rfl⟩
theorem Rz.five {T : Nat} {zs : List Value} {w W : World} (h : Rz T zs w W) (a0 a1 a2 a3 a4 : Value) :
    Below w.heap.size w (((((W.setCell ⟨w.heap.size, 0, none⟩ a0).setCell ⟨w.heap.size, 1, none⟩ a1).setCell ⟨w.heap.size, 2, none⟩ a2).setCell ⟨w.heap.size, 3, none⟩ a3).setCell ⟨w.heap.size, 4, none⟩ a4) :=
  ((((h.bel.setCell (Nat.le_refl _) _).setCell (Nat.le_refl _) _).setCell (Nat.le_refl _) _).setCell (Nat.le_refl _) _).setCell (Nat.le_refl _) _

set_option maxHeartbeats 6400000 in
set_option maxRecDepth 100000 in
theorem addressed_any (l : Tx) (w : World) (hl : l.length ≤ 1000000) (hg : Gt w) : Calls Tryz.prog 128 #[.string (sb l)] w fun e w' => e = .returned (.tuple #[(addr l).1.val, .bool (addr l).2]) ∧ Below w.heap.size w w' := by
  have H1 := Lib.hid (fun W => cutp_any [64] l W)
  have HE : Hid (addr l = adc (pref [64] l).2 (suf 43 (pref [64] l).1).2 (cutc 40 (suf 43 (pref [64] l).1).1)) := rfl
  have l1' := pref_le [64] l
  generalize addr l = r at *
  generalize pref [64] l = p at *
  obtain ⟨l1, at_⟩ := p
  simp only at HE l1'
  have H2 := Lib.hid (fun W => cuts_any 43 l1 W (by omega))
  have l2' := suf_le 43 l1
  generalize suf 43 l1 = p at *
  obtain ⟨l2, up⟩ := p
  simp only at HE l2'
  have H3 := Lib.hid (fun W h => cut_any 40 l2 W (by omega) h)
  have l3' := cutc_le 40 l2
  generalize cutc 40 l2 = p at *
  obtain ⟨ah, l3, fd⟩ := p
  simp only at l3'
  have H4 := Lib.hid (fun W => cuts_any 41 l3 W (by omega))
  unfold adc at HE
  simp only at HE
  generalize suf 41 l3 = p at *
  obtain ⟨nm, cl⟩ := p
  have H5 := Lib.hid (fun W => register_any nm W)
  simp only at HE
  generalize rgn nm = p at *
  obtain ⟨rg, is⟩ := p
  simp only at HE
  have H6 := Lib.hid (fun W => number_any ah W (by omega))
  clear l1' l2' l3' hl
  have HW : Hid (Rz 47 [.int .i64 0, .int .i64 0, .int .i64 0, .int .u32 0, .int .i64 0] w (w.alloc (.cells #[.int .i64 0, .int .i64 0, .int .i64 0, .int .u32 0, .int .i64 0] 47))) := ⟨Es.Bk.new _ _ _, Es.al1 _ _⟩
  have HG := Lib.hid (hg.below HW.out.bel)
  clear hg
  by_cases hok : cl = true ∧ is = true
  · obtain ⟨rfl, rfl⟩ := hok
    rw [if_pos ⟨rfl, rfl⟩] at HE
    unfold adr at HE
    cases up
    · rw [if_neg (by simp)] at HE
      by_cases h1 : ah = []
      · rw [if_pos h1] at HE
        have b1 : (ah == []) = true := by simpa using h1
        clear h1
        go_enter Tryz.func128, Tryz.ntmps128
        go_upto_region 14 with (first
          | ((go_at_call 125; with_reducible refine (H1.out _).mono ?_); rintro e w' ⟨rfl, rfl⟩)
          | ((go_at_call 103; with_reducible refine (H2.out _).mono ?_); rintro e w' ⟨rfl, rfl⟩)
          | ((go_at_call 103; with_reducible refine (H4.out _).mono ?_); rintro e w' ⟨rfl, rfl⟩)
          | (go_at_call 41; refine (H3.out _ HG.out).mono ?_; rintro e w1 ⟨rfl, hb⟩; have HF := Lib.hid (HW.out.below hb); have hlt := HF.out.res.lt; clear hb)
          | (go_at_call 73; refine (H5.out _).mono ?_; rintro e w' ⟨rfl, rfl⟩)
          | (go_at_call 141; refine (H7.out _).mono ?_; rintro e w' ⟨rfl, rfl⟩)
          | (go_at_call 101; refine (H6.out _).mono ?_; rintro e w' ⟨rfl, rfl⟩)
          | fail)
        have HF2 := Lib.hid (HF.out.below (Es.al1 w1 (.cells #[.int .i64 6, .int .i64 rg, .int .i64 0, .int .u32 0, .int .i64 0] 47)))
        have hv := Es.Bk.new w1 47 [.int .i64 6, .int .i64 rg, .int .i64 0, .int .u32 0, .int .i64 0]
        clear HF
        generalize w1.alloc (.cells #[.int .i64 6, .int .i64 rg, .int .i64 0, .int .u32 0, .int .i64 0] 47) = V at *
        obtain ⟨y0, y1, y2, y3, y4, yf, yl⟩ := HF2.out.res.five
        obtain ⟨z0, z1, z2, z3, z4, zf, zl⟩ := hv.five
        clear hv
        go_wp2_with fail
        refine bodyPost_ret (v := .tuple #[.agg #[.int .i64 6, .int .i64 rg, .int .i64 0, .int .u32 0, .int .i64 0], .bool (!at_)]) (by simp [results, Tryz.results128, go_sem, y0, y1, y2, y3, y4, yf, yl]) rfl ?_
        exact ⟨by rw [HE.out], HF2.out.five _ _ _ _ _⟩
      · rw [if_neg h1] at HE
        have b1 : (ah == []) = false := by simpa using h1
        clear h1
        by_cases h2 : ah = [45]
        · rw [if_pos h2] at HE
          have b2 : (ah == [45]) = true := by simpa using h2
          clear h2
          go_enter Tryz.func128, Tryz.ntmps128
          go_upto_region 17 with (first
            | ((go_at_call 125; with_reducible refine (H1.out _).mono ?_); rintro e w' ⟨rfl, rfl⟩)
            | ((go_at_call 103; with_reducible refine (H2.out _).mono ?_); rintro e w' ⟨rfl, rfl⟩)
            | ((go_at_call 103; with_reducible refine (H4.out _).mono ?_); rintro e w' ⟨rfl, rfl⟩)
            | (go_at_call 41; refine (H3.out _ HG.out).mono ?_; rintro e w1 ⟨rfl, hb⟩; have HF := Lib.hid (HW.out.below hb); have hlt := HF.out.res.lt; clear hb)
            | (go_at_call 73; refine (H5.out _).mono ?_; rintro e w' ⟨rfl, rfl⟩)
            | (go_at_call 141; refine (H7.out _).mono ?_; rintro e w' ⟨rfl, rfl⟩)
            | (go_at_call 101; refine (H6.out _).mono ?_; rintro e w' ⟨rfl, rfl⟩)
            | fail)
          have HF2 := Lib.hid (HF.out.below (Es.al1 w1 (.cells #[.int .i64 7, .int .i64 rg, .int .i64 0, .int .u32 0, .int .i64 0] 47)))
          have hv := Es.Bk.new w1 47 [.int .i64 7, .int .i64 rg, .int .i64 0, .int .u32 0, .int .i64 0]
          clear HF
          generalize w1.alloc (.cells #[.int .i64 7, .int .i64 rg, .int .i64 0, .int .u32 0, .int .i64 0] 47) = V at *
          obtain ⟨y0, y1, y2, y3, y4, yf, yl⟩ := HF2.out.res.five
          obtain ⟨z0, z1, z2, z3, z4, zf, zl⟩ := hv.five
          clear hv
          go_wp2_with fail
          refine bodyPost_ret (v := .tuple #[.agg #[.int .i64 7, .int .i64 rg, .int .i64 0, .int .u32 0, .int .i64 0], .bool (!at_)]) (by simp [results, Tryz.results128, go_sem, y0, y1, y2, y3, y4, yf, yl]) rfl ?_
          exact ⟨by rw [HE.out], HF2.out.five _ _ _ _ _⟩
        · rw [if_neg h2] at HE
          have b2 : (ah == [45]) = false := by simpa using h2
          clear h2
          have hq := numb_rg ah
          generalize numb ah = p at *
          obtain ⟨x, b⟩ := p
          simp only at HE hq
          have H7 := Lib.hid (fun W => either_any at_ 11 10 W)
          generalize (if at_ = true then (11 : Int) else 10) = kk at *
          go_enter Tryz.func128, Tryz.ntmps128
          go_upto_region 20 with (first
            | ((go_at_call 125; with_reducible refine (H1.out _).mono ?_); rintro e w' ⟨rfl, rfl⟩)
            | ((go_at_call 103; with_reducible refine (H2.out _).mono ?_); rintro e w' ⟨rfl, rfl⟩)
            | ((go_at_call 103; with_reducible refine (H4.out _).mono ?_); rintro e w' ⟨rfl, rfl⟩)
            | (go_at_call 41; refine (H3.out _ HG.out).mono ?_; rintro e w1 ⟨rfl, hb⟩; have HF := Lib.hid (HW.out.below hb); have hlt := HF.out.res.lt; clear hb)
            | (go_at_call 73; refine (H5.out _).mono ?_; rintro e w' ⟨rfl, rfl⟩)
            | (go_at_call 141; refine (H7.out _).mono ?_; rintro e w' ⟨rfl, rfl⟩)
            | (go_at_call 101; refine (H6.out _).mono ?_; rintro e w' ⟨rfl, rfl⟩)
            | fail)
          have HF2 := Lib.hid (HF.out.below (Es.al1 w1 (.cells #[.int .i64 kk, .int .i64 rg, .int .i64 0, .int .u32 x, .int .i64 0] 47)))
          have hv := Es.Bk.new w1 47 [.int .i64 kk, .int .i64 rg, .int .i64 0, .int .u32 x, .int .i64 0]
          clear HF
          generalize w1.alloc (.cells #[.int .i64 kk, .int .i64 rg, .int .i64 0, .int .u32 x, .int .i64 0] 47) = V at *
          obtain ⟨y0, y1, y2, y3, y4, yf, yl⟩ := HF2.out.res.five
          obtain ⟨z0, z1, z2, z3, z4, zf, zl⟩ := hv.five
          clear hv
          go_wp2_with fail
          refine bodyPost_ret (v := .tuple #[.agg #[.int .i64 kk, .int .i64 rg, .int .i64 0, .int .u32 x, .int .i64 0], .bool b]) (by simp [results, Tryz.results128, go_sem, y0, y1, y2, y3, y4, yf, yl]) rfl ?_
          exact ⟨by rw [HE.out], HF2.out.five _ _ _ _ _⟩
    · rw [if_pos rfl] at HE
      have H7 := Lib.hid (fun W => either_any at_ 9 8 W)
      generalize (if at_ = true then (9 : Int) else 8) = kk at *
      obtain ⟨b0, b1⟩ : ∃ b0, (ah == []) = b0 := ⟨_, rfl⟩
      rw [b1] at HE
      go_enter Tryz.func128, Tryz.ntmps128
      go_upto_region 11 with (first
        | ((go_at_call 125; with_reducible refine (H1.out _).mono ?_); rintro e w' ⟨rfl, rfl⟩)
        | ((go_at_call 103; with_reducible refine (H2.out _).mono ?_); rintro e w' ⟨rfl, rfl⟩)
        | ((go_at_call 103; with_reducible refine (H4.out _).mono ?_); rintro e w' ⟨rfl, rfl⟩)
        | (go_at_call 41; refine (H3.out _ HG.out).mono ?_; rintro e w1 ⟨rfl, hb⟩; have HF := Lib.hid (HW.out.below hb); have hlt := HF.out.res.lt; clear hb)
        | (go_at_call 73; refine (H5.out _).mono ?_; rintro e w' ⟨rfl, rfl⟩)
        | (go_at_call 141; refine (H7.out _).mono ?_; rintro e w' ⟨rfl, rfl⟩)
        | (go_at_call 101; refine (H6.out _).mono ?_; rintro e w' ⟨rfl, rfl⟩)
        | fail)
      have HF2 := Lib.hid (HF.out.below (Es.al1 w1 (.cells #[.int .i64 kk, .int .i64 rg, .int .i64 0, .int .u32 0, .int .i64 0] 47)))
      have hv := Es.Bk.new w1 47 [.int .i64 kk, .int .i64 rg, .int .i64 0, .int .u32 0, .int .i64 0]
      clear HF
      generalize w1.alloc (.cells #[.int .i64 kk, .int .i64 rg, .int .i64 0, .int .u32 0, .int .i64 0] 47) = V at *
      obtain ⟨y0, y1, y2, y3, y4, yf, yl⟩ := HF2.out.res.five
      obtain ⟨z0, z1, z2, z3, z4, zf, zl⟩ := hv.five
      clear hv
      go_wp2_with fail
      refine bodyPost_ret (v := .tuple #[.agg #[.int .i64 kk, .int .i64 rg, .int .i64 0, .int .u32 0, .int .i64 0], .bool b0]) (by simp [results, Tryz.results128, go_sem, y0, y1, y2, y3, y4, yf, yl]) rfl ?_
      exact ⟨by rw [HE.out], HF2.out.five _ _ _ _ _⟩
  · rw [if_neg hok] at HE
    have hok' : cl = false ∨ (cl = true ∧ is = false) := by cases cl <;> cases is <;> simp_all
    clear hok
    rcases hok' with rfl | ⟨rfl, rfl⟩
    · go_enter Tryz.func128, Tryz.ntmps128
      go_upto_region 7 with (first
        | ((go_at_call 125; with_reducible refine (H1.out _).mono ?_); rintro e w' ⟨rfl, rfl⟩)
        | ((go_at_call 103; with_reducible refine (H2.out _).mono ?_); rintro e w' ⟨rfl, rfl⟩)
        | ((go_at_call 103; with_reducible refine (H4.out _).mono ?_); rintro e w' ⟨rfl, rfl⟩)
        | (go_at_call 41; refine (H3.out _ HG.out).mono ?_; rintro e w1 ⟨rfl, hb⟩; have HF := Lib.hid (HW.out.below hb); have hlt := HF.out.res.lt; clear hb)
        | (go_at_call 73; refine (H5.out _).mono ?_; rintro e w' ⟨rfl, rfl⟩)
        | (go_at_call 141; refine (H7.out _).mono ?_; rintro e w' ⟨rfl, rfl⟩)
        | (go_at_call 101; refine (H6.out _).mono ?_; rintro e w' ⟨rfl, rfl⟩)
        | fail)
      clear hlt
      obtain ⟨y0, y1, y2, y3, y4, yf, yl⟩ := HF.out.res.five
      go_wp2_with fail
      refine bodyPost_ret (v := .tuple #[.agg #[.int .i64 0, .int .i64 0, .int .i64 0, .int .u32 0, .int .i64 0], .bool false]) (by simp [results, Tryz.results128, go_sem, y0, y1, y2, y3, y4, yf, yl]) rfl ?_
      exact ⟨by rw [HE.out]; rfl, HF.out.five _ _ _ _ _⟩
    · go_enter Tryz.func128, Tryz.ntmps128
      go_upto_region 7 with (first
        | ((go_at_call 125; with_reducible refine (H1.out _).mono ?_); rintro e w' ⟨rfl, rfl⟩)
        | ((go_at_call 103; with_reducible refine (H2.out _).mono ?_); rintro e w' ⟨rfl, rfl⟩)
        | ((go_at_call 103; with_reducible refine (H4.out _).mono ?_); rintro e w' ⟨rfl, rfl⟩)
        | (go_at_call 41; refine (H3.out _ HG.out).mono ?_; rintro e w1 ⟨rfl, hb⟩; have HF := Lib.hid (HW.out.below hb); have hlt := HF.out.res.lt; clear hb)
        | (go_at_call 73; refine (H5.out _).mono ?_; rintro e w' ⟨rfl, rfl⟩)
        | (go_at_call 141; refine (H7.out _).mono ?_; rintro e w' ⟨rfl, rfl⟩)
        | (go_at_call 101; refine (H6.out _).mono ?_; rintro e w' ⟨rfl, rfl⟩)
        | fail)
      clear hlt
      obtain ⟨y0, y1, y2, y3, y4, yf, yl⟩ := HF.out.res.five
      go_wp2_with fail
      refine bodyPost_ret (v := .tuple #[.agg #[.int .i64 0, .int .i64 0, .int .i64 0, .int .u32 0, .int .i64 0], .bool false]) (by simp [results, Tryz.results128, go_sem, y0, y1, y2, y3, y4, yf, yl]) rfl ?_
      exact ⟨by rw [HE.out]; rfl, HF.out.five _ _ _ _ _⟩

end Go.Proofs.YtppkpfkoggnbmaaGreatDoor.Cs.Ka

/- Contracts of package asm: an operand as a text says it. -/
namespace Go.Proofs.YtppkpfkoggnbmaaGreatDoor.Cs.Ka
open Go.RowKit Es
open Ia (sb cst sb_size sb_get sb_append)
set_option linter.unusedVariables false
set_option linter.unusedSimpArgs false

set_option maxHeartbeats 6400000 in
set_option maxRecDepth 100000 in
theorem plain_any (l : Tx) (w : World) (hl : l.length ≤ 1000000) (hg : Gt w) : Calls Tryz.prog 104 #[.string (sb l)] w fun e w' => e = .returned (.tuple #[(plainF l).1.val, .bool (plainF l).2]) ∧ Below w.heap.size w w' := by
  have H1 := Lib.hid (fun W => cutp_any [64, 35] l W)
  have H2 := Lib.hid (fun W => cutp_any [35] l W)
  have HE : Hid (plainF l = if (pref [64, 35] l).2 = true then vald 13 (pref [64, 35] l).1
  else if (pref [35] l).2 = true then imm (pref [35] l).1
  else if (rgn l).2 = true then (⟨⟨5, (rgn l).1, 0, 0, 0⟩, []⟩, true)
  else (⟨(addr l).1, []⟩, (addr l).2)) := rfl
  have q1 := pref_le [64, 35] l
  have q2 := pref_le [35] l
  generalize plainF l = r at *
  generalize pref [64, 35] l = p at *
  obtain ⟨l1, c1⟩ := p
  generalize pref [35] l = p at *
  obtain ⟨l2, c2⟩ := p
  simp only at HE q1 q2
  have H3 := Lib.hid (fun W => valued_any 13 l1 W (by omega))
  have H4 := Lib.hid (fun W => immediate_any l2 W (by omega))
  have H5 := Lib.hid (fun W => register_any l W)
  have H6 := Lib.hid (fun W h => addressed_any l W hl h)
  clear q1 q2 hl
  generalize rgn l = p at *
  obtain ⟨rg, is⟩ := p
  generalize addr l = p at *
  obtain ⟨⟨k, g, i, x, n⟩, b⟩ := p
  generalize vald 13 l1 = p at *
  obtain ⟨⟨⟨k1, g1, i1, x1, n1⟩, t1⟩, b1⟩ := p
  generalize imm l2 = p at *
  obtain ⟨⟨⟨k2, g2, i2, x2, n2⟩, t2⟩, b2⟩ := p
  simp only [Op.val] at H3 H4
  simp only [Sp.val] at H6
  simp only at HE
  have HW : Hid (Rz 60 [.int .i64 0, .int .i64 0, .int .i64 0, .int .u32 0, .int .i64 0, .string ⟨#[]⟩] w (w.alloc (.cells #[.int .i64 0, .int .i64 0, .int .i64 0, .int .u32 0, .int .i64 0, .string ⟨#[]⟩] 60))) := ⟨Es.Bk.new _ _ _, Es.al1 _ _⟩
  have HG := Lib.hid (hg.below HW.out.bel)
  clear hg
  cases c1
  · cases c2
    · cases is
      · go_enter Tryz.func104, Tryz.ntmps104
        go_upto_region 11 with (first
          | ((go_at_call 125; with_reducible refine (H1.out _).mono ?_); rintro e w' ⟨rfl, rfl⟩)
          | ((go_at_call 125; with_reducible refine (H2.out _).mono ?_); rintro e w' ⟨rfl, rfl⟩)
          | (go_at_call 73; refine (H5.out _).mono ?_; rintro e w' ⟨rfl, rfl⟩)
          | (go_at_call 102; refine (H3.out _).mono ?_; rintro e w1 ⟨rfl, hb⟩; have HF := Lib.hid (HW.out.below hb); clear hb; obtain ⟨y0, y1, y2, y3, y4, y5, yf, yl⟩ := HF.out.res.six)
          | (go_at_call 127; refine (H4.out _).mono ?_; rintro e w1 ⟨rfl, hb⟩; have HF := Lib.hid (HW.out.below hb); clear hb; obtain ⟨y0, y1, y2, y3, y4, y5, yf, yl⟩ := HF.out.res.six)
          | (go_at_call 128; refine (H6.out _ HG.out).mono ?_; rintro e w1 ⟨rfl, hb⟩; have HF := Lib.hid (HW.out.below hb); have hlt := HF.out.res.lt; clear hb)
          | fail)
        have HF2 := Lib.hid (HF.out.below (Es.al1 w1 (.cells #[.int .i64 k, .int .i64 g, .int .i64 i, .int .u32 x, .int .i64 n] 47)))
        have hv := Es.Bk.new w1 47 [.int .i64 k, .int .i64 g, .int .i64 i, .int .u32 x, .int .i64 n]
        clear HF
        generalize w1.alloc (.cells #[.int .i64 k, .int .i64 g, .int .i64 i, .int .u32 x, .int .i64 n] 47) = V at *
        obtain ⟨y0, y1, y2, y3, y4, y5, yf, yl⟩ := HF2.out.res.six
        obtain ⟨z0, z1, z2, z3, z4, zf, zl⟩ := hv.five
        clear hv
        go_wp2_with fail
        refine bodyPost_ret (v := .tuple #[.agg #[.int .i64 k, .int .i64 g, .int .i64 i, .int .u32 x, .int .i64 n, .string ⟨#[]⟩], .bool b]) (by simp [results, Tryz.results104, go_sem, y0, y1, y2, y3, y4, y5, yf, yl]) rfl ?_
        exact ⟨by rw [HE.out]; rfl, HF2.out.six _ _ _ _ _ _⟩
      · have HR : Hid (r = (⟨⟨5, rg, 0, 0, 0⟩, []⟩, true)) := by show _ = _; rw [HE.out]; rfl
        go_enter Tryz.func104, Tryz.ntmps104
        go_upto_region 9 with (first
          | ((go_at_call 125; with_reducible refine (H1.out _).mono ?_); rintro e w' ⟨rfl, rfl⟩)
          | ((go_at_call 125; with_reducible refine (H2.out _).mono ?_); rintro e w' ⟨rfl, rfl⟩)
          | (go_at_call 73; refine (H5.out _).mono ?_; rintro e w' ⟨rfl, rfl⟩)
          | (go_at_call 102; refine (H3.out _).mono ?_; rintro e w1 ⟨rfl, hb⟩; have HF := Lib.hid (HW.out.below hb); clear hb; obtain ⟨y0, y1, y2, y3, y4, y5, yf, yl⟩ := HF.out.res.six)
          | (go_at_call 127; refine (H4.out _).mono ?_; rintro e w1 ⟨rfl, hb⟩; have HF := Lib.hid (HW.out.below hb); clear hb; obtain ⟨y0, y1, y2, y3, y4, y5, yf, yl⟩ := HF.out.res.six)
          | (go_at_call 128; refine (H6.out _ HG.out).mono ?_; rintro e w1 ⟨rfl, hb⟩; have HF := Lib.hid (HW.out.below hb); have hlt := HF.out.res.lt; clear hb)
          | fail)
        have HF := HW
        obtain ⟨y0, y1, y2, y3, y4, y5, yf, yl⟩ := HF.out.res.six
        generalize w.alloc (.cells #[.int .i64 0, .int .i64 0, .int .i64 0, .int .u32 0, .int .i64 0, .string ⟨#[]⟩] 60) = V at *
        go_wp2_with fail
        refine bodyPost_ret (v := .tuple #[.agg #[.int .i64 5, .int .i64 rg, .int .i64 0, .int .u32 0, .int .i64 0, .string ⟨#[]⟩], .bool true]) (by simp [results, Tryz.results104, go_sem, y0, y1, y2, y3, y4, y5, yf, yl]) rfl ?_
        exact ⟨by rw [HR.out], HF.out.six _ _ _ _ _ _⟩
    · have HR : Hid (r = (⟨⟨k2, g2, i2, x2, n2⟩, t2⟩, b2)) := by show _ = _; rw [HE.out]; rfl
      go_enter Tryz.func104, Tryz.ntmps104
      go_wp2_with (first
        | ((go_at_call 125; with_reducible refine (H1.out _).mono ?_); rintro e w' ⟨rfl, rfl⟩)
        | ((go_at_call 125; with_reducible refine (H2.out _).mono ?_); rintro e w' ⟨rfl, rfl⟩)
        | (go_at_call 73; refine (H5.out _).mono ?_; rintro e w' ⟨rfl, rfl⟩)
        | (go_at_call 102; refine (H3.out _).mono ?_; rintro e w1 ⟨rfl, hb⟩; have HF := Lib.hid (HW.out.below hb); clear hb; obtain ⟨y0, y1, y2, y3, y4, y5, yf, yl⟩ := HF.out.res.six)
        | (go_at_call 127; refine (H4.out _).mono ?_; rintro e w1 ⟨rfl, hb⟩; have HF := Lib.hid (HW.out.below hb); clear hb; obtain ⟨y0, y1, y2, y3, y4, y5, yf, yl⟩ := HF.out.res.six)
        | (go_at_call 128; refine (H6.out _ HG.out).mono ?_; rintro e w1 ⟨rfl, hb⟩; have HF := Lib.hid (HW.out.below hb); have hlt := HF.out.res.lt; clear hb)
        | fail)
      refine bodyPost_ret (v := .tuple #[.agg #[.int .i64 k2, .int .i64 g2, .int .i64 i2, .int .u32 x2, .int .i64 n2, .string (sb t2)], .bool b2]) (by simp [results, Tryz.results104, go_sem, y0, y1, y2, y3, y4, y5, yf, yl]) rfl ?_
      exact ⟨by rw [HR.out], HF.out.six _ _ _ _ _ _⟩
  · have HR : Hid (r = (⟨⟨k1, g1, i1, x1, n1⟩, t1⟩, b1)) := by show _ = _; rw [HE.out]; rfl
    go_enter Tryz.func104, Tryz.ntmps104
    go_wp2_with (first
      | ((go_at_call 125; with_reducible refine (H1.out _).mono ?_); rintro e w' ⟨rfl, rfl⟩)
      | ((go_at_call 125; with_reducible refine (H2.out _).mono ?_); rintro e w' ⟨rfl, rfl⟩)
      | (go_at_call 73; refine (H5.out _).mono ?_; rintro e w' ⟨rfl, rfl⟩)
      | (go_at_call 102; refine (H3.out _).mono ?_; rintro e w1 ⟨rfl, hb⟩; have HF := Lib.hid (HW.out.below hb); clear hb; obtain ⟨y0, y1, y2, y3, y4, y5, yf, yl⟩ := HF.out.res.six)
      | (go_at_call 127; refine (H4.out _).mono ?_; rintro e w1 ⟨rfl, hb⟩; have HF := Lib.hid (HW.out.below hb); clear hb; obtain ⟨y0, y1, y2, y3, y4, y5, yf, yl⟩ := HF.out.res.six)
      | (go_at_call 128; refine (H6.out _ HG.out).mono ?_; rintro e w1 ⟨rfl, hb⟩; have HF := Lib.hid (HW.out.below hb); have hlt := HF.out.res.lt; clear hb)
      | fail)
    refine bodyPost_ret (v := .tuple #[.agg #[.int .i64 k1, .int .i64 g1, .int .i64 i1, .int .u32 x1, .int .i64 n1, .string (sb t1)], .bool b1]) (by simp [results, Tryz.results104, go_sem, y0, y1, y2, y3, y4, y5, yf, yl]) rfl ?_
    exact ⟨by rw [HR.out], HF.out.six _ _ _ _ _ _⟩

end Go.Proofs.YtppkpfkoggnbmaaGreatDoor.Cs.Ka

/- Contracts of package asm: an operand, with an index or without. -/
namespace Go.Proofs.YtppkpfkoggnbmaaGreatDoor.Cs.Ka
open Go.RowKit Es
open Ia (sb cst sb_size sb_get sb_append)
set_option linter.unusedVariables false
set_option linter.unusedSimpArgs false

set_option maxHeartbeats 6400000 in
set_option maxRecDepth 100000 in
theorem read_any (l : Tx) (a : Int) (w : World) (hl : l.length ≤ 1000000) (ha : 0 ≤ a ∧ a < 256) (hg : Gt w) : Calls Tryz.prog 79 #[.string (sb l), .int .u8 a] w fun e w' => e = .returned (.tuple #[(readF l a).1.val, .bool (readF l a).2]) ∧ Below w.heap.size w w' := by
  have HE : Hid (readF l a = if a = 98 then vald 12 l
  else if (suf 93 l).2 = true then
    (if (rgn (cutc 91 (suf 93 l).1).2.1).2 = true then wix (rgn (cutc 91 (suf 93 l).1).2.1).1 (plainF (cutc 91 (suf 93 l).1).1) else (zo, false))
  else wix (-1) (plainF l)) := rfl
  have HW : Hid (Rz 60 [.int .i64 0, .int .i64 0, .int .i64 0, .int .u32 0, .int .i64 0, .string ⟨#[]⟩] w (w.alloc (.cells #[.int .i64 0, .int .i64 0, .int .i64 0, .int .u32 0, .int .i64 0, .string ⟨#[]⟩] 60))) := ⟨Es.Bk.new _ _ _, Es.al1 _ _⟩
  have HG := Lib.hid (hg.below HW.out.bel)
  clear hg
  obtain ⟨ha0, ha1⟩ := ha
  by_cases h98 : a = 98
  · subst h98
    rw [if_pos rfl] at HE
    have H3 := Lib.hid (fun W => valued_any 12 l W hl)
    clear hl
    generalize readF l 98 = r at *
    generalize vald 12 l = p at *
    obtain ⟨⟨⟨k, g, i, x, n⟩, t⟩, b⟩ := p
    simp only [Op.val] at H3
    go_enter Tryz.func79, Tryz.ntmps79
    go_wp2_with (first
      | (go_at_call 102; refine (H3.out _).mono ?_; rintro e w1 ⟨rfl, hb⟩; have HF := Lib.hid (HW.out.below hb); clear hb; obtain ⟨y0, y1, y2, y3, y4, y5, yf, yl⟩ := HF.out.res.six)
      | fail)
    refine bodyPost_ret (v := .tuple #[.agg #[.int .i64 k, .int .i64 g, .int .i64 i, .int .u32 x, .int .i64 n, .string (sb t)], .bool b]) (by simp [results, Tryz.results79, go_sem, y0, y1, y2, y3, y4, y5, yf, yl]) rfl ?_
    exact ⟨by rw [HE.out], HF.out.six _ _ _ _ _ _⟩
  · rw [if_neg h98] at HE
    have b98 : (a == 98) = false := by simpa using h98
    generalize readF l a = r at *
    clear h98
    have H1 := Lib.hid (fun W => cuts_any 93 l W hl)
    have q1 := suf_le 93 l
    by_cases hs : (suf 93 l).2 = true
    · rw [if_pos hs] at HE
      generalize suf 93 l = p at *
      obtain ⟨l1, c1⟩ := p
      simp only at HE q1 hs
      subst hs
      have H2 := Lib.hid (fun W h => cut_any 91 l1 W (by omega) h)
      have q2 := (cutc_le 91 l1).1
      generalize cutc 91 l1 = p at *
      obtain ⟨ah, l3, fd⟩ := p
      simp only at HE q2
      have H5 := Lib.hid (fun W => register_any l3 W)
      have H6 := Lib.hid (fun W h => plain_any ah W (by omega) h)
      clear q1 q2 hl
      generalize rgn l3 = p at *
      obtain ⟨rg, is⟩ := p
      simp only at HE
      cases is
      · rw [if_neg (by simp)] at HE
        go_enter Tryz.func79, Tryz.ntmps79
        go_upto_region 9 with (first
          | (go_at_call 103; refine (H1.out _).mono ?_; rintro e w' ⟨rfl, rfl⟩)
          | (go_at_call 41; refine (H2.out _ HG.out).mono ?_; rintro e w0 ⟨rfl, hb⟩; have HF0 := Lib.hid (HW.out.below hb); have HG0 := Lib.hid (HG.out.below hb); clear hb)
          | (go_at_call 73; refine (H5.out _).mono ?_; rintro e w' ⟨rfl, rfl⟩)
          | fail)
        have HF := HF0
        obtain ⟨y0, y1, y2, y3, y4, y5, yf, yl⟩ := HF.out.res.six
        go_wp2_with fail
        refine bodyPost_ret (v := .tuple #[.agg #[.int .i64 0, .int .i64 0, .int .i64 0, .int .u32 0, .int .i64 0, .string ⟨#[]⟩], .bool false]) (by simp [results, Tryz.results79, go_sem, y0, y1, y2, y3, y4, y5, yf, yl]) rfl ?_
        exact ⟨by rw [HE.out]; rfl, HF.out.six _ _ _ _ _ _⟩
      · rw [if_pos rfl] at HE
        generalize plainF ah = p at *
        obtain ⟨⟨⟨k, g, i, x, n⟩, t⟩, b⟩ := p
        simp only [Op.val] at H6
        go_enter Tryz.func79, Tryz.ntmps79
        go_upto_region 13 with (first
          | (go_at_call 103; refine (H1.out _).mono ?_; rintro e w' ⟨rfl, rfl⟩)
          | (go_at_call 41; refine (H2.out _ HG.out).mono ?_; rintro e w0 ⟨rfl, hb⟩; have HF0 := Lib.hid (HW.out.below hb); have HG0 := Lib.hid (HG.out.below hb); clear hb)
          | (go_at_call 73; refine (H5.out _).mono ?_; rintro e w' ⟨rfl, rfl⟩)
          | (go_at_call 104; refine (H6.out _ HG0.out).mono ?_; rintro e w1 ⟨rfl, hb⟩; have HF := Lib.hid (HF0.out.below hb); have hlt := HF.out.res.lt; clear hb)
          | fail)
        have HF2 := Lib.hid (HF.out.below (Es.al1 w1 (.cells #[.int .i64 k, .int .i64 g, .int .i64 rg, .int .u32 x, .int .i64 n, .string (sb t)] 60)))
        have hv := Es.Bk.new w1 60 [.int .i64 k, .int .i64 g, .int .i64 rg, .int .u32 x, .int .i64 n, .string (sb t)]
        clear HF
        generalize w1.alloc (.cells #[.int .i64 k, .int .i64 g, .int .i64 rg, .int .u32 x, .int .i64 n, .string (sb t)] 60) = V at *
        obtain ⟨y0, y1, y2, y3, y4, y5, yf, yl⟩ := HF2.out.res.six
        obtain ⟨z0, z1, z2, z3, z4, z5, zf, zl⟩ := hv.six
        clear hv
        go_wp2_with fail
        refine bodyPost_ret (v := .tuple #[.agg #[.int .i64 k, .int .i64 g, .int .i64 rg, .int .u32 x, .int .i64 n, .string (sb t)], .bool b]) (by simp [results, Tryz.results79, go_sem, y0, y1, y2, y3, y4, y5, yf, yl]) rfl ?_
        exact ⟨by rw [HE.out]; rfl, HF2.out.six _ _ _ _ _ _⟩
    · rw [if_neg hs] at HE
      have hs' : (suf 93 l).2 = false := by simpa using hs
      clear hs
      generalize suf 93 l = p at *
      obtain ⟨l1, c1⟩ := p
      simp only at hs'
      subst hs'
      have H6 := Lib.hid (fun W h => plain_any l W hl h)
      clear q1 hl
      generalize plainF l = p at *
      obtain ⟨⟨⟨k, g, i, x, n⟩, t⟩, b⟩ := p
      simp only [Op.val] at H6
      go_enter Tryz.func79, Tryz.ntmps79
      go_upto_region 13 with (first
        | (go_at_call 103; refine (H1.out _).mono ?_; rintro e w' ⟨rfl, rfl⟩)
        | (go_at_call 104; refine (H6.out _ HG.out).mono ?_; rintro e w1 ⟨rfl, hb⟩; have HF := Lib.hid (HW.out.below hb); have hlt := HF.out.res.lt; clear hb)
        | fail)
      have HF2 := Lib.hid (HF.out.below (Es.al1 w1 (.cells #[.int .i64 k, .int .i64 g, .int .i64 (-1), .int .u32 x, .int .i64 n, .string (sb t)] 60)))
      have hv := Es.Bk.new w1 60 [.int .i64 k, .int .i64 g, .int .i64 (-1), .int .u32 x, .int .i64 n, .string (sb t)]
      clear HF
      generalize w1.alloc (.cells #[.int .i64 k, .int .i64 g, .int .i64 (-1), .int .u32 x, .int .i64 n, .string (sb t)] 60) = V at *
      obtain ⟨y0, y1, y2, y3, y4, y5, yf, yl⟩ := HF2.out.res.six
      obtain ⟨z0, z1, z2, z3, z4, z5, zf, zl⟩ := hv.six
      clear hv
      go_wp2_with fail
      refine bodyPost_ret (v := .tuple #[.agg #[.int .i64 k, .int .i64 g, .int .i64 (-1), .int .u32 x, .int .i64 n, .string (sb t)], .bool b]) (by simp [results, Tryz.results79, go_sem, y0, y1, y2, y3, y4, y5, yf, yl]) rfl ?_
      exact ⟨by rw [HE.out]; rfl, HF2.out.six _ _ _ _ _ _⟩

end Go.Proofs.YtppkpfkoggnbmaaGreatDoor.Cs.Ka
