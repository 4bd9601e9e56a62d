/- AsmLong: texts and programs of the greatest length. -/
import Derived.Test.YtppkpfkoggnbmaaGreatDoorKWTxt
import Derived.Test.YtppkpfkoggnbmaaGreatDoorKDat
import Derived.Test.YtppkpfkoggnbmaaGreatDoorGShp
namespace Go.Proofs.YtppkpfkoggnbmaaGreatDoor.Cs.Ka
open Go.RowKit Es
open Ia (sb)
set_option linter.unusedVariables false
set_option linter.unusedSimpArgs false

theorem made8 (n : Nat) : madeCells (Value.int .u8 0).cells n = (cel (List.replicate n 0)).toArray := by
  apply Array.ext
  · rw [size_madeCells]; simp [cel]
  · intro i h1 h2
    have hc : (Value.int .u8 0).cells = #[.int .u8 0] := rfl
    simp [madeCells, cel, hc, Nat.mod_one]
theorem run_make8 (n : Nat) (hn : n ≤ 1000000) (w : World) :
    (Instr.makeSlice 22 (.int .i64 (n : Int)) (.int .i64 (n : Int))).run Tryz.prog w = .ok (.slice (some ⟨w.heap.size, 0, none⟩) n n) (w.alloc (.cells (cel (List.replicate n 0)).toArray 5)) := by
  obtain ⟨i, hi, hz, hs, hb⟩ := info_parts u8_info
  have hr := run_make (P := Tryz.prog) w _ _ i _ under_slice hi hz .i64 .i64 n n (by omega) (by omega) (by rw [hb]; omega) (by omega)
  rw [hs] at hr
  simp only [Int.toNat_natCast, Nat.mul_one] at hr
  rw [hr, made8]
/-- bytes as a text -/
theorem str_map (ys : List Int) : str ys = sb (ys.map fun n => UInt8.ofNat n.toNat) := by
  have key : ∀ (ys : List Int) (l : Tx), ys.foldl (fun (r : ByteArray) n => r.push (UInt8.ofNat n.toNat)) (sb l) = sb (l ++ ys.map fun n => UInt8.ofNat n.toNat) := by
    intro ys
    induction ys with
    | nil => intro l; simp
    | cons y ys ih =>
      intro l
      rw [List.foldl_cons]
      have e : (sb l).push (UInt8.ofNat y.toNat) = sb (l ++ [UInt8.ofNat y.toNat]) := by
        simp [ByteArray.push]
      rw [e, ih]
      simp
  exact key ys []
/-- ten, k times, and noughts behind -/
def lfz (N k : Nat) : List Int := List.replicate k 10 ++ List.replicate (N - k) 0
theorem lfz_len (N k : Nat) (h : k ≤ N) : (lfz N k).length = N := by simp [lfz]; omega
theorem lfz_set (N k : Nat) (h : k < N) : (cel (lfz N k)).set k (.int .u8 10) = cel (lfz N (k + 1)) := by
  have e : cel (lfz N k) = List.replicate k (.int .u8 10) ++ List.replicate (N - k) (.int .u8 0) := by simp [lfz, cel]
  have e2 : cel (lfz N (k + 1)) = List.replicate (k + 1) (.int .u8 10) ++ List.replicate (N - (k + 1)) (.int .u8 0) := by simp [lfz, cel]
  rw [e, e2, List.set_append_right _ _ (by simp)]
  obtain ⟨m, hm⟩ : ∃ m, N - k = m + 1 := ⟨N - k - 1, by omega⟩
  rw [show N - (k + 1) = m by omega, hm, List.replicate_succ, List.length_replicate, Nat.sub_self, List.set_cons_zero, List.replicate_succ', List.append_assoc]
  rfl
theorem lfz_get (N k : Nat) (h : k < N) : (cel (lfz N k))[k]? = some (.int .u8 0) := by
  simp only [lfz, cel, List.map_append, List.map_replicate]
  rw [List.getElem?_append_right (by simp), List.length_replicate, Nat.sub_self, List.getElem?_replicate, if_pos (by omega)]
/-- a row that line feeds are laid in -/
structure Lf (w : World) (r N k : Nat) (W : World) : Prop where
  bk : Es.Bk W r 5 (cel (lfz N k))
  bel : Below w.heap.size w W
  le : w.heap.size ≤ r
theorem Lf.next {w W : World} {r N k : Nat} (h : Lf w r N k W) (hk : k < N) : Lf w r N (k + 1) (W.setCell ⟨r, k, none⟩ (.int .u8 10)) := by
  have := h.bk.set k (.int .u8 10)
  rw [lfz_set N k hk] at this
  exact ⟨this, h.bel.setCell h.le _, h.le⟩
theorem Lf.fin {w W : World} {r N : Nat} (h : Lf w r N N W) (hN : N ≤ 1000000) : By W (some ⟨r, 0, none⟩) N N (List.replicate N 10) := by
  have e : lfz N N = List.replicate N 10 := by simp [lfz]
  have hb := h.bk
  rw [e] at hb
  refine ⟨by simp, fun y hy => ?_, fun _ => ⟨_, rfl, hb.lt, fun j v hv => ?_⟩, Nat.le_refl _, by omega⟩
  · rw [List.eq_of_mem_replicate hy]; omega
  · rw [Es.Addr.add_lit']
    exact hb.cell j v hv
theorem lf_asc (N : Nat) : Asc (List.replicate N 10) := fun b hb => by rw [List.eq_of_mem_replicate hb]; decide
theorem str_lf (N : Nat) : str (List.replicate N 10) = sb (List.replicate N 10) := by
  rw [str_map, List.map_replicate]
  rfl
def spF (k : Nat) : Tx := (List.replicate k (spL ++ [10])).flatten
theorem spF_succ (k : Nat) : sb (spF k) ++ ⟨#[46, 115, 112, 97, 99, 101, 32, 52, 48, 57, 54, 10]⟩ = sb (spF (k + 1)) := by
  have e : spF (k + 1) = spF k ++ (spL ++ [10]) := by
    unfold spF
    rw [List.replicate_succ', List.flatten_append]
    simp
  rw [e]
  exact Ia.sb_append (spF k) _
theorem spF_len (k : Nat) : (spF k).length = 12 * k := by
  induction k with
  | zero => rfl
  | succ k ih =>
    unfold spF at ih ⊢
    rw [List.replicate_succ, List.flatten_cons, List.length_append, ih]
    show 12 + 12 * k = _
    omega
theorem idx3_0 : ∀ (a0 a1 a2 : Value) (w : World), (Instr.index 30 (.agg #[a0, a1, a2]) (.int .i64 0)).run Tryz.prog w = .ok a0 w := fun _ _ _ _ => by kernel_rfl
theorem idx3_1 : ∀ (a0 a1 a2 : Value) (w : World), (Instr.index 30 (.agg #[a0, a1, a2]) (.int .i64 1)).run Tryz.prog w = .ok a1 w := fun _ _ _ _ => by kernel_rfl
theorem idx3_2 : ∀ (a0 a1 a2 : Value) (w : World), (Instr.index 30 (.agg #[a0, a1, a2]) (.int .i64 2)).run Tryz.prog w = .ok a2 w := fun _ _ _ _ => by kernel_rfl
theorem lng_txt (j : Nat) (hj : j < 10) : sb (spF 16) ++ ⟨#[46, 115, 112, 97, 99, 101, 32]⟩ ++ ⟨#[UInt8.ofNat (48 + j)]⟩ = sb (lngT j) := by
  have hd : dd j = [UInt8.ofNat (48 + j)] := Lib.decDigits_one hj
  unfold lngT
  rw [hd]
  have h1 : sb (spF 16) ++ ⟨#[46, 115, 112, 97, 99, 101, 32]⟩ = sb (spF 16 ++ [46, 115, 112, 97, 99, 101, 32]) := Ia.sb_append _ _
  rw [h1]
  have h2 : sb (spF 16 ++ [46, 115, 112, 97, 99, 101, 32]) ++ ⟨#[UInt8.ofNat (48 + j)]⟩ = sb ((spF 16 ++ [46, 115, 112, 97, 99, 101, 32]) ++ [UInt8.ofNat (48 + j)]) := Ia.sb_append _ _
  rw [h2, List.append_assoc]
  rfl
/-- what Assemble answers of sixteen lines of space and one more -/
theorem lng_any (j : Nat) (hj : j ≤ 2) (V : World) (ht : Tz V) : Calls Tryz.prog 11 #[.string (sb (lngT j))] V fun e w' =>
    ∃ A c, e = .returned (.tuple #[.slice A (if 0 < j then 0 else 65536) c, .int .i64 (if 0 < j then 17 else 0), .int .i64 (if 0 < j then 60 else 0)]) ∧ Below V.heap.size V w' := by
  obtain ⟨h1, h2, h3⟩ := asm_lng j (by omega)
  refine (assemble_any V (lngT j) h2 (by omega) ht.lo ht.gt ht.gl).mono ?_
  rintro e w' ⟨A, c, he, _, hb⟩
  refine ⟨A, c, ?_, hb⟩
  rw [he, h1]
  by_cases h0 : 0 < j
  · rw [if_pos h0, if_pos h0, if_pos h0, if_pos h0]; rfl
  · rw [if_neg h0, if_neg h0, if_neg h0, if_neg h0]
    simp only [List.length_replicate]
/-- .. of line feeds -/
theorem lf_any (N : Nat) (hN : N ≤ 100000) (V : World) (ht : Tz V) : Calls Tryz.prog 11 #[.string (sb (List.replicate N 10))] V fun e w' =>
    ∃ A c, e = .returned (.tuple #[.slice A 0 c, .int .i64 0, .int .i64 (if 65536 < N then 3 else 0)]) ∧ Below V.heap.size V w' := by
  refine (assemble_any V (List.replicate N 10) (lf_asc N) (by rw [List.length_replicate]; omega) ht.lo ht.gt ht.gl).mono ?_
  rintro e w' ⟨A, c, he, _, hb⟩
  refine ⟨A, c, ?_, hb⟩
  rw [he, asm_lf]
  rfl

set_option maxHeartbeats 6400000 in
set_option maxRecDepth 100000 in
theorem asmlong_out (m s : Int) (w : World) (ht : Tz w) (h : m < -2 ∨ (¬ m < -2 ∧ 2 < m) ∨ (¬ m < -2 ∧ ¬ 2 < m ∧ s < 0) ∨ (¬ m < -2 ∧ ¬ 2 < m ∧ ¬ s < 0 ∧ 2 < s)) :
    Calls Tryz.prog 5 #[.int .i64 m, .int .i64 s] w fun e w' => e = .returned (.bool true) ∧ Below w.heap.size w w' := by
  have HA := Lib.hid (alive w ht.lo ht.gt ht.gl)
  clear ht
  rcases h with h1 | ⟨h1, h2⟩ | ⟨h1, h2, h3⟩ | ⟨h1, h2, h3, h4⟩
  all_goals
    go_enter Tryz.func5, Tryz.ntmps5
    go_wp2_with (first | (go_at_call 8; refine HA.out.mono ?_; rintro e w1 ⟨rfl, hb⟩; have HL := Lib.hid hb; clear hb) | fail)
    go_ret
    exact ⟨rfl, HL.out⟩

set_option maxHeartbeats 12800000 in
set_option maxRecDepth 100000 in
theorem asmlong_in (m s : Int) (w : World) (ht : Tz w) (h1 : ¬ m < -2) (h2 : ¬ 2 < m) (h3 : ¬ s < 0) (h4 : ¬ 2 < s) :
    Calls Tryz.prog 5 #[.int .i64 m, .int .i64 s] w fun e w' => e = .returned (.bool true) ∧ Below w.heap.size w w' := by
  have HA := Lib.hid (alive w ht.lo ht.gt ht.gl)
  have HT := Lib.hid (fun V (hV : Below w.heap.size w V) => ht.below hV)
  obtain ⟨N, hN⟩ : ∃ N : Nat, 65536 + m = N := ⟨(65536 + m).toNat, by omega⟩
  have hN1 : N ≤ 65538 := by omega
  have hmk : ∀ W, (Instr.makeSlice 22 (.int .i64 (65536 + m)) (.int .i64 (65536 + m))).run Tryz.prog W = .ok (.slice (some ⟨W.heap.size, 0, none⟩) N N) (W.alloc (.cells (cel (List.replicate N 0)).toArray 5)) := by
    rw [hN]; exact fun W => run_make8 N (by omega) W
  have HFa := Lib.hid (fun V hV => lf_any N (by omega) V hV)
  have hm : (0 < m ∧ (if 65536 < N then 3 else 0) = (3 : Int)) ∨ (¬ 0 < m ∧ (if 65536 < N then 3 else 0) = (0 : Int)) := by
    by_cases h0 : 0 < m
    · exact .inl ⟨h0, by rw [if_pos (by omega)]⟩
    · exact .inr ⟨h0, by rw [if_neg (by omega)]⟩
  have HNe : Hid (65536 + m = N) := Lib.hid hN
  clear ht hN
  go_enter Tryz.func5, Tryz.ntmps5
  go_wp2_with (first | (go_at_call 8; refine HA.out.mono ?_; rintro e w1 ⟨rfl, hb⟩; have HL := Lib.hid hb; clear hb) | fail)
  clear hmk
  have HX : Hid (Lf w w1.heap.size N 0 (w1.alloc (.cells (cel (List.replicate N 0)).toArray 5))) := ⟨by
    have := Es.Bk.new w1 5 (cel (lfz N 0))
    have e : lfz N 0 = List.replicate N 0 := by simp [lfz]
    rw [e] at this ⊢
    exact this, bel2 HL.out (Es.al1 _ _), HL.out.size⟩
  generalize w1.alloc (.cells (cel (List.replicate N 0)).toArray 5) = W1 at *
  generalize w1.heap.size = r at *
  go_loopw [6, 36] (fun _ i wr => ∃ k : Nat, k ≤ N ∧ i = .int .i64 k ∧ Lf w r N k wr) (fun _ i _ => N - (intOf i).toNat)
  case atStart => exact ⟨0, Nat.zero_le _, rfl, HX.out⟩
  case round =>
    clear HX
    obtain ⟨k, hk, rfl, hX⟩ := hrel
    by_cases hlt : k < N
    · have c0 := hX.bk.cell k _ (lfz_get N k hlt)
      have f0 := hX.bk.free k
      have hl := hX.bk.lt
      have HN := Lib.hid (hX.next hlt)
      clear hX
      go_wp2_with fail
      go_roundw
      case rel => exact ⟨k + 1, by omega, by go_num, HN.out⟩
      case measure => first | (simp [intOf]; done) | (simp [intOf]; omega)
    · obtain rfl : k = N := by omega
      have hs := run_str (hX.fin (by omega))
      rw [str_lf] at hs
      have HB := Lib.hid hX.bel
      clear hX
      generalize sb (List.replicate k 10) = q at *
      have HFq := HFa
      rcases hm with ⟨hm, e0⟩ | ⟨hm, e0⟩
      all_goals
        rw [e0] at HFa
        clear HFq e0
        go_wp2_with (first
          | (go_at_call 11; refine (HFa.out _ (HT.out _ HB.out)).mono ?_; intro e w2 hr; obtain ⟨A', c', rfl, hb⟩ := hr; have HB2 := Lib.hid (bel2 HB.out hb); clear hb hs)
          | fail)
        go_loop [10, 11] (fun t i => ∃ (k : Nat) (tt : ByteArray), k ≤ 16 ∧ i = .int .i64 k ∧ t = .string tt ∧ tt = sb (spF k)) (fun _ i => 16 - (intOf i).toNat)
        case atStart => exact ⟨0, _, Nat.zero_le _, rfl, rfl, rfl⟩
        case round =>
          obtain ⟨j, tt, hj, rfl, rfl, htt⟩ := hrel
          have hsz : tt.size ≤ 192 := by rw [htt, Ia.sb_size, spF_len]; omega
          by_cases hjl : j < 16
          · have HE : Hid (tt ++ ⟨#[46, 115, 112, 97, 99, 101, 32, 52, 48, 57, 54, 10]⟩ = sb (spF (j + 1))) := by
              show _ = _
              rw [htt]
              exact spF_succ j
            clear htt
            go_wp2_with fail
            go_round
            case rel => exact ⟨j + 1, _, by omega, by go_num, rfl, HE.out⟩
            case measure => first | (simp [intOf]; done) | (simp [intOf]; omega)
          · obtain rfl : j = 16 := by omega
            have H0 := lng_any 0 (by omega)
            have H1 := lng_any 1 (by omega)
            have H2 := lng_any 2 (by omega)
            rw [← lng_txt 0 (by omega), ← htt] at H0
            rw [← lng_txt 1 (by omega), ← htt] at H1
            rw [← lng_txt 2 (by omega), ← htt] at H2
            simp only [Nat.lt_irrefl, if_false, if_true, Nat.zero_lt_one, Nat.zero_lt_two, Nat.add_zero, Nat.reduceAdd] at H0 H1 H2
            have i0 := idx3_0
            have i1 := idx3_1
            have i2 := idx3_2
            have HT2 := Lib.hid (HT.out _ HB2.out)
            have HH0 := Lib.hid (H0 _ HT2.out)
            have HH1 := Lib.hid (H1 _ HT2.out)
            have HH2 := Lib.hid (H2 _ HT2.out)
            clear H0 H1 H2 htt HFa
            have hs3 : s = 0 ∨ s = 1 ∨ s = 2 := by omega
            rcases hs3 with rfl | rfl | rfl
            · go_wp2_with (first
                | (go_at_call 11; refine HH0.out.mono ?_; intro e w3 hr; obtain ⟨A3, c3, rfl, hb⟩ := hr; have HB3 := Lib.hid (bel2 HB2.out hb); clear hb)
                | fail)
              go_ret
              exact ⟨rfl, HB3.out⟩
            · go_wp2_with (first
                | (go_at_call 11; refine HH1.out.mono ?_; intro e w3 hr; obtain ⟨A3, c3, rfl, hb⟩ := hr; have HB3 := Lib.hid (bel2 HB2.out hb); clear hb)
                | fail)
              go_ret
              exact ⟨rfl, HB3.out⟩
            · go_wp2_with (first
                | (go_at_call 11; refine HH2.out.mono ?_; intro e w3 hr; obtain ⟨A3, c3, rfl, hb⟩ := hr; have HB3 := Lib.hid (bel2 HB2.out hb); clear hb)
                | fail)
              go_ret
              exact ⟨rfl, HB3.out⟩

theorem asmlong_walk (m s : Int) (w : World) (ht : Tz w) : Calls Tryz.prog 5 #[.int .i64 m, .int .i64 s] w fun e w' => e = .returned (.bool true) ∧ Below w.heap.size w w' := by
  by_cases h1 : m < -2
  · exact asmlong_out m s w ht (.inl h1)
  · by_cases h2 : 2 < m
    · exact asmlong_out m s w ht (.inr (.inl ⟨h1, h2⟩))
    · by_cases h3 : s < 0
      · exact asmlong_out m s w ht (.inr (.inr (.inl ⟨h1, h2, h3⟩)))
      · by_cases h4 : 2 < s
        · exact asmlong_out m s w ht (.inr (.inr (.inr ⟨h1, h2, h3, h4⟩)))
        · exact asmlong_in m s w ht h1 h2 h3 h4

end Go.Proofs.YtppkpfkoggnbmaaGreatDoor.Cs.Ka
