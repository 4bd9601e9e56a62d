/- The document's own reckoning of layer 10: number, Cut, put. -/
import Derived.Test.YtppkpfkoggnbmaaGreatDoorIMem
import Derived.WalkLawsBesides
import Derived.Laws.IdiomStrings
namespace Go.Proofs.YtppkpfkoggnbmaaGreatDoor.Cs.Ia
open Go.RowKit

theorem ret_int {k : IntKind} {a b : Int} (h : a = b) : Ending.returned (.int k a) = .returned (.int k b) := by rw [h]
/-- The number that the first k digits are. -/
def dg (l : List UInt8) : Nat → Int
  | 0 => 0
  | k + 1 => 10 * dg l k + (((l.getD k 0).toNat : Int) - 48)
/-- Digits alone, at most nine. -/
def Dig (l : List UInt8) : Prop := l.length ≤ 9 ∧ ∀ k, k < l.length → 48 ≤ (l.getD k 0).toNat ∧ (l.getD k 0).toNat ≤ 57
theorem dg_bd (l : List UInt8) (h : Dig l) (k : Nat) (hk : k ≤ l.length) : 0 ≤ dg l k ∧ dg l k < 10 ^ k := by
  induction k with
  | zero => simp [dg]
  | succ k ih =>
    have := ih (by omega)
    have := h.2 k (by omega)
    have e : (10 : Int) ^ (k + 1) = 10 * 10 ^ k := by rw [Int.pow_succ]; omega
    simp only [dg]
    omega
theorem pow9 (k : Nat) (h : k ≤ 9) : (10 : Int) ^ k ≤ 1000000000 := by
  match k, h with
  | 0, _ | 1, _ | 2, _ | 3, _ | 4, _ | 5, _ | 6, _ | 7, _ | 8, _ | 9, _ => decide

set_option maxHeartbeats 800000 in
set_option maxRecDepth 100000 in
theorem number_any (l : List UInt8) (w : World) (h : Dig l) :
    Calls Tryz.prog 89 #[.string (sb l)] w fun e w' => e = .returned (.int .i64 (dg l l.length)) ∧ w' = w := by
  have hS : (sb l).size = l.length := sb_size l
  have hg : ∀ k (hk : k < (sb l).size), (sb l)[k] = l.getD k 0 := sb_get l
  generalize sb l = s at *
  have hl9 := h.1
  rw [← hS] at hl9
  have HG := Lib.hid hg
  have HH := Lib.hid h
  have HS := Lib.hid hS
  clear hg h hS
  go_enter Tryz.func89, Tryz.ntmps89
  go_wp2
  go_loop [3, 4] (fun n i => ∃ k : Nat, k ≤ s.size ∧ i = .int .i64 k ∧ n = .int .i64 (dg l k)) (fun _ i => s.size - (intOf i).toNat)
  case atStart => exact ⟨0, Nat.zero_le _, rfl, rfl⟩
  case round =>
    obtain ⟨k, hk, rfl, rfl⟩ := hrel
    have hb := dg_bd l HH.out k (by rw [← HS.out]; exact hk)
    have hp := pow9 k (by omega)
    by_cases hlt : k < s.size
    · have e := HG.out k hlt
      have hd := HH.out.2 k (by rw [← HS.out]; exact hlt)
      rw [← e] at hd
      have HD : Hid (dg l (k + 1) = 10 * dg l k + ((s[k].toNat : Int) - 48)) := by show dg l (k+1) = _; rw [e]; rfl
      obtain ⟨h48, h57⟩ := hd
      obtain ⟨hb0, hb1⟩ := hb
      have hb2 : dg l k < 1000000000 := by omega
      clear hp hb1
      generalize hx : (s[k].toNat : Int) = x at *
      have hx0 : 48 ≤ x := by omega
      have hx1 : x ≤ 57 := by omega
      generalize dg l k = d at *
      clear e
      go_wp2
      go_round
      case rel => exact ⟨k + 1, by omega, by go_num, by rw [HD.out]⟩
      case measure => first | (simp [intOf]; done) | (simp [intOf]; omega)
    · have e : k = l.length := by rw [← HS.out]; omega
      subst e
      go_wp2
      go_ret
      exact ⟨rfl, rfl⟩

/-- What stands between signs c among the first k, and where the next part begins. -/
def ct (l : List UInt8) (c : Int) : Nat → List (List UInt8) × Nat
  | 0 => ([], 0)
  | k + 1 => if k = l.length ∨ ((l.getD k 0).toNat : Int) = c then ((ct l c k).1 ++ [(l.drop (ct l c k).2).take (k - (ct l c k).2)], k + 1) else ct l c k
def cut (l : List UInt8) (c : Int) : List (List UInt8) := (ct l c (l.length + 1)).1
theorem ct_le (l : List UInt8) (c : Int) (k : Nat) : (ct l c k).2 ≤ k ∧ (ct l c k).1.length ≤ k := by
  induction k with
  | zero => simp [ct]
  | succ k ih =>
    simp only [ct]
    split
    · simp; omega
    · omega
theorem ct_yes (l : List UInt8) (c : Int) (k : Nat) (h : k = l.length ∨ ((l.getD k 0).toNat : Int) = c) :
    ct l c (k + 1) = ((ct l c k).1 ++ [(l.drop (ct l c k).2).take (k - (ct l c k).2)], k + 1) := by simp only [ct, if_pos h]
theorem ct_not (l : List UInt8) (c : Int) (k : Nat) (h : ¬ (k = l.length ∨ ((l.getD k 0).toNat : Int) = c)) : ct l c (k + 1) = ct l c k := by simp only [ct, if_neg h]

/-- Parts that rounds of Cut have laid. -/
structure Ctd (w : World) (xs : List (List UInt8)) (v : Value) (wr : World) : Prop where
  row : Rs wr v xs
  ab : Ab w.heap.size (Bl v)
  bel : Below w.heap.size w wr
theorem Ctd.app {w wr : World} {xs : List (List UInt8)} {v : Value} (h : Ctd w xs v wr) (x : List UInt8) (hl : xs.length ≤ 1000000) :
    ∃ r' cap' w', (Builtin.append_ #[56, 56] 56 #[v, .slice (some ⟨wr.heap.size, 0, none⟩) 1 1]).run Tryz.prog (wr.alloc (.cells #[.string (sb x)] 9)) = .ok (.slice (some ⟨r', 0, none⟩) (xs.length + 1) cap') w' ∧
      Hid (Ctd w (xs ++ [x]) (.slice (some ⟨r', 0, none⟩) (xs.length + 1) cap') w') := by
  obtain ⟨r', cap', w', hrun, hr, hst⟩ := run_apps wr v xs x h.row hl
  exact ⟨r', cap', w', hrun, hr, hst.ab h.ab h.bel.size, hst.below h.bel h.ab h.bel.size⟩

set_option maxHeartbeats 1600000 in
set_option maxRecDepth 100000 in
theorem cut_any (l : List UInt8) (c : Int) (w : World) (hl : l.length ≤ 1000) :
    Calls Tryz.prog 88 #[.string (sb l), .int .u8 c] w fun e w' => ∃ v, e = .returned v ∧ Ctd w (cut l c) v w' := by
  have hS : (sb l).size = l.length := sb_size l
  have hg : ∀ k (hk : k < (sb l).size), (sb l)[k] = l.getD k 0 := sb_get l
  have hx : ∀ a b, (sb l).extract a b = sb ((l.drop a).take (b - a)) := sb_extract l
  generalize sb l = s at *
  have hl9 := hl
  rw [← hS] at hl9
  have HG := Lib.hid hg
  have HX := Lib.hid hx
  have HS := Lib.hid hS
  clear hg hx hS hl
  go_enter Tryz.func88, Tryz.ntmps88
  go_wp2
  go_loopw [5, 6, 7] (fun v f i wr => ∃ k : Nat, k ≤ s.size + 1 ∧ i = .int .i64 k ∧ f = .int .i64 (ct l c k).2 ∧ Ctd w (ct l c k).1 v wr) (fun _ _ i _ => s.size + 1 - (intOf i).toNat)
  case atStart => exact ⟨0, Nat.zero_le _, rfl, rfl, ⟨by simp [ct, cst], .inl ⟨rfl, rfl⟩⟩, fun k hk => by simp [Bl, Value.ownBlock] at hk, Below.refl _ _⟩
  case round =>
    obtain ⟨k, hk, rfl, rfl, hC⟩ := hrel
    have hcl := ct_le l c k
    have hcy := ct_yes l c k
    have hcn := ct_not l c k
    generalize hq : ct l c k = q at *
    have HQ := Lib.hid hq
    obtain ⟨ps, f⟩ := q
    obtain ⟨hf, hpl⟩ := hcl
    simp only at hf hpl hC hcy hcn
    have HC := Lib.hid hC
    have HY := Lib.hid hcy
    have HN := Lib.hid hcn
    clear hC hcy hcn hq
    by_cases hlt : k ≤ s.size
    · by_cases he : k = s.size
      · subst he
        obtain ⟨r', cap', w', hrun, HC'⟩ := HC.out.app ((l.drop f).take (s.size - f)) (by omega)
        rw [← HX.out] at hrun
        go_wp2_with (at_builtin; refine wpList_append_run _ rfl _ _ _ _ rfl _ _ rfl rfl hrun ?_)
        go_roundw
        case rel => exact ⟨s.size + 1, by omega, by go_num, by first | (rw [HY.out (.inl HS.out)]; done) | (rw [HY.out (.inl HS.out)]; go_num), by rw [HY.out (.inl HS.out)]; exact HC'.out⟩
        case measure => first | (simp [intOf]; done) | (simp [intOf]; omega)
      · have hlt' : k < s.size := by omega
        have e := HG.out k hlt'
        have hb1 : ((k : Int) == (s.size : Int)) = false := by simp; omega
        by_cases hc : (s[k].toNat : Int) = c
        · obtain ⟨r', cap', w', hrun, HC'⟩ := HC.out.app ((l.drop f).take (k - f)) (by omega)
          rw [← HX.out] at hrun
          have hY := HY.out (.inr (by rw [← e]; exact hc))
          have HY' := Lib.hid hY
          have hb2 : ((s[k].toNat : Int) == c) = true := by simpa using hc
          clear hY e
          go_wp2_with (at_builtin; refine wpList_append_run _ rfl _ _ _ _ rfl _ _ rfl rfl hrun ?_)
          go_roundw
          case rel => exact ⟨k + 1, by omega, by go_num, by first | (rw [HY'.out]; done) | (rw [HY'.out]; go_num), by rw [HY'.out]; exact HC'.out⟩
          case measure => first | (simp [intOf]; done) | (simp [intOf]; omega)
        · have hN := HN.out (by rw [← e, ← HS.out]; omega)
          have HN' := Lib.hid hN
          have hb2 : ((s[k].toNat : Int) == c) = false := by simpa using hc
          clear hN e
          go_wp2
          go_roundw
          case rel => exact ⟨k + 1, by omega, by go_num, by rw [HN'.out], by rw [HN'.out]; exact HC.out⟩
          case measure => first | (simp [intOf]; done) | (simp [intOf]; omega)
    · have e : k = l.length + 1 := by rw [← HS.out]; omega
      go_wp2
      go_ret
      exact ⟨_, rfl, by have hC := HC.out; have hq := HQ.out; subst e; unfold cut; rw [hq]; exact hC⟩

end Go.Proofs.YtppkpfkoggnbmaaGreatDoor.Cs.Ia
