/- Contracts of package spec: written. -/
import Derived.Test.YtppkpfkoggnbmaaGreatDoorEEnc2
import Derived.Test.YtppkpfkoggnbmaaGreatDoorEApp
namespace Go.Proofs.YtppkpfkoggnbmaaGreatDoor.Cs.Es
open Go.RowKit
set_option linter.unusedVariables false

theorem Mk.app1 {B : Nat} {w W : World} {v : Value} {ys : List Int} (h : Mk B w v ys W) (q : Int) (n : Nat) (hn : ys.length = n) (hq : 0 ≤ q ∧ q < 256) (hl : n ≤ 1000) :
    ∃ A' c' w', (Builtin.append_ #[22, 22] 22 #[v, .slice (some ⟨W.heap.size, 0, none⟩) 1 1]).run Tryz.prog (W.alloc (.cells #[.int .u8 q] 5)) = .ok (.slice A' (n + 1) c') w' ∧
      Hid (Mk B w (.slice A' (n + 1) c') (ys ++ [q]) w') := by
  subst hn
  obtain ⟨A', c', w', hrun, hR, hS⟩ := run_app8 (W.alloc (.cells #[.int .u8 q] 5)) v ys [q] (some ⟨W.heap.size, 0, none⟩) 1 1 (own_below h.row (al1 _ _)) ((R8.lit W [q] 1 rfl (by omega)).by rfl (Byt.cons hq Byt.nil)) (by omega)
  exact ⟨A', c', w', hrun, (h.below (al1 _ _)).app hR hS⟩

theorem shr_low {x : Int} (k : Nat) (hk : k < 4) : (low x (k + 1)) = low x k ++ [x / 256 ^ k % 256] := low_succ x k

/-- what the bytes of a number are put behind -/
def pre (s : Sp) (a : Int) (n : Nat) : List Int := (if s.i = -1 then [] else [fs 4 s.i]) ++ (if a = 98 then [] else [bg s n])
theorem wr_pre (s : Sp) (a : Int) (n : Nat) : wr s a n = pre s a n ++ low s.x n := by simp [wr, pre]
theorem bg_byte {s : Sp} {n : Nat} (hn : n ≤ 4) (hk : s.k = 0 ∨ (5 ≤ s.k ∧ s.k ≤ 13)) : 0 ≤ bg s n ∧ bg s n < 256 := by
  unfold bg fs
  (repeat' split) <;> omega

/-- The state of written: the specifier's block, and the bytes so far. -/
structure Wv (w : World) (s : Sp) (v : Value) (ys : List Int) (W : World) : Prop where
  box : Bk W w.heap.size 47 s.cells
  row : Mk (w.heap.size + 1) (w.alloc (.cells s.cells.toArray 47)) v ys W
section
variable {w W V : World} {s : Sp} {v : Value} {ys : List Int}
theorem Wv.new (w : World) (s : Sp) : Wv w s (.slice none 0 0) [] (w.alloc (.cells s.cells.toArray 47)) :=
  ⟨Bk.new w _ s.cells, ⟨R8.nil _, fun k hk => by simp [Bl, Value.ownBlock] at hk, Below.refl _ _, by simp⟩⟩
theorem Wv.below (h : Wv w s v ys W) (b : Below W.heap.size W V) : Wv w s v ys V := ⟨h.box.below b (Nat.le_refl _), h.row.below b⟩
theorem Wv.of {v' : Value} {ys' : List Int} (h : Mk (w.heap.size + 1) (w.alloc (.cells s.cells.toArray 47)) v' ys' V) : Wv w s v' ys' V :=
  ⟨(Bk.new w _ s.cells).below h.bel (by simp), h⟩
theorem Wv.done (h : Wv w s v ys W) : Mk w.heap.size w v ys W :=
  ⟨h.row.row, fun k hk => by have := h.row.ab k hk; omega, (al1 w _).trans (h.row.bel.mono (by omega)), by have := h.row.le; omega⟩
theorem Wv.c0 (h : Wv w s v ys W) : W.cell? ⟨w.heap.size, 0, none⟩ = some (.int .i64 s.k) := h.box.cell 0 _ rfl
theorem Wv.c1 (h : Wv w s v ys W) : W.cell? ⟨w.heap.size, 1, none⟩ = some (.int .i64 s.r) := h.box.cell 1 _ rfl
theorem Wv.c2 (h : Wv w s v ys W) : W.cell? ⟨w.heap.size, 2, none⟩ = some (.int .i64 s.i) := h.box.cell 2 _ rfl
theorem Wv.c3 (h : Wv w s v ys W) : W.cell? ⟨w.heap.size, 3, none⟩ = some (.int .u32 s.x) := h.box.cell 3 _ rfl
theorem Wv.c4 (h : Wv w s v ys W) : W.cell? ⟨w.heap.size, 4, none⟩ = some (.int .i64 s.n) := h.box.cell 4 _ rfl
theorem Wv.app (h : Wv w s v ys W) (q : Int) (n : Nat) (hn : ys.length = n) (hq : 0 ≤ q ∧ q < 256) (hl : n ≤ 1000) :
    ∃ A' c' w', (Builtin.append_ #[22, 22] 22 #[v, .slice (some ⟨W.heap.size, 0, none⟩) 1 1]).run Tryz.prog (W.alloc (.cells #[.int .u8 q] 5)) = .ok (.slice A' (n + 1) c') w' ∧
      Hid (Wv w s (.slice A' (n + 1) c') (ys ++ [q]) w') := by
  obtain ⟨A', c', w', hrun, hm⟩ := h.row.app1 q n hn hq hl
  exact ⟨A', c', w', hrun, Wv.of hm.out⟩
end

set_option maxRecDepth 100000 in
set_option maxHeartbeats 6400000 in
set_option maxRecDepth 100000 in
theorem written_any (s : Sp) (a : Int) (n : Nat) (w : World) (hx : U s.x) (hn : n ≤ 4) (hk : s.k = 0 ∨ (5 ≤ s.k ∧ s.k ≤ 13)) :
    Calls Tryz.prog 83 #[s.val, .int .u8 a, .int .i64 n] w fun e w' => ∃ A c, e = .returned (.slice A (wr s a n).length c) ∧ Mk w.heap.size w (.slice A (wr s a n).length c) (wr s a n) w' := by
  have KB := fun w => Lib.hid (begin_any s n w hx hn hk)
  have KF := fun w => Lib.hid (first_any 4 s.i (by omega) (by omega) w)
  have HBg := Lib.hid (bg_byte hn hk)
  have HFs := Lib.hid (fs_byte (m := 4) (r := s.i) (by omega) (by omega))
  have HP := Lib.hid (wr_pre s a n)
  obtain ⟨x0, x1⟩ := hx
  have HS := Lib.hid (Wv.new w s)
  obtain ⟨q, hq⟩ : ∃ q, bg s n = q := ⟨_, rfl⟩
  obtain ⟨f, hf⟩ : ∃ f, fs 4 s.i = f := ⟨_, rfl⟩
  rw [hq] at KB HBg
  rw [hf] at KF HFs
  obtain ⟨P, hP⟩ : ∃ P, pre s a n = P := ⟨_, rfl⟩
  have HPre := Lib.hid hP
  rw [hP] at HP
  rw [HP.out]
  unfold pre at HPre
  rw [hq, hf] at HPre
  clear hP hq hf hk HP
  obtain ⟨k, r, i, x, m⟩ := s
  simp only at x0 x1 HPre HS KB KF ⊢
  by_cases hi : i = -1
  · subst hi
    by_cases h98 : a = 98
    · subst h98
      obtain rfl : [] = P := HPre.out
      clear HPre
      have HW := HS
      rw [show (([] : List Int) ++ low x n).length = n + 0 by simp [low_length]]
      go_enter Tryz.func83, Tryz.ntmps83
      go_wp2
      clear HS KB KF HBg HFs
      go_loopw [7, 27] (fun v ii W => ∃ (k' : Nat) (A : Option Addr) (c : Nat), k' ≤ n ∧ ii = .int .i64 k' ∧ v = .slice A (k' + 0) c ∧ Wv w ⟨k, r, (-1), x, m⟩ (.slice A (k' + 0) c) (([] : List Int) ++ low x k') W) (fun _ ii _ => n - (intOf ii).toNat)
      case atStart => exact ⟨0, _, _, Nat.zero_le _, rfl, rfl, by simpa [low] using HW.out⟩
      case round =>
        clear HW
        obtain ⟨k', A, c, hk', rfl, rfl, hW⟩ := hrel
        by_cases hlt : k' < n
        · have c3 : wr.cell? ⟨w.heap.size, 3, none⟩ = some (.int .u32 x) := hW.c3
          have hb : 0 ≤ x / 256 ^ k' % 256 ∧ x / 256 ^ k' % 256 < 256 := by omega
          have hl : (([] : List Int) ++ low x k').length = k' + 0 := by simp [low_length]
          obtain ⟨A2, c2', w2, hrun, hW2⟩ := hW.app (x / 256 ^ k' % 256) (k' + 0) hl hb (by omega)
          have HW2 : Hid (Wv w ⟨k, r, (-1), x, m⟩ (.slice A2 (k' + 0 + 1) c2') (([] : List Int) ++ low x (k' + 1)) w2) := Lib.hid (by rw [low_succ, ← List.append_assoc]; exact hW2.out)
          have HRun := Lib.hid hrun
          obtain ⟨b0, b1⟩ := hb
          have hk4 : k' = 0 ∨ k' = 1 ∨ k' = 2 ∨ k' = 3 := by omega
          have HM : Hid (x / 16777216 % 256 = x / 16777216) := Lib.hid (by omega)
          clear hW hrun hW2 hl
          rcases hk4 with rfl | rfl | rfl | rfl
          all_goals
            simp at HRun
            try rw [HM.out] at HRun
            go_wp2_with (at_builtin; refine wpList_append_run _ rfl _ _ _ _ rfl _ _ rfl rfl HRun.out ?_)
            go_roundw
            case rel => exact ⟨_, A2, c2', hlt, rfl, rfl, HW2.out⟩
            case measure => first | (simp [intOf]; done) | (simp [intOf]; omega)
        · obtain rfl : k' = n := by omega
          have HW := Lib.hid hW.done
          clear hW
          go_wp2
          go_ret
          exact ⟨A, c, rfl, HW.out⟩
    · have g98 : (a != 98) = true := by simpa using h98
      have hp := HPre.out
      rw [if_pos rfl, if_neg h98] at hp
      obtain rfl : [q] = P := hp
      clear HPre h98
      rw [show ([q] ++ low x n).length = n + 1 by simp [low_length]]
      go_enter Tryz.func83, Tryz.ntmps83
      go_wp2_with fail
      refine (KB _).out.mono ?_
      rintro e w2 ⟨rfl, hb2⟩
      have hW2 := HS.out.below hb2
      obtain ⟨A3, c3', w3, hrun3, hW3⟩ := hW2.app q 0 rfl HBg.out (by omega)
      have HRun3 := Lib.hid hrun3
      have HW := Lib.hid hW3.out
      clear hrun3 hW3 hW2 hb2
      go_wp2_with (at_builtin; refine wpList_append_run _ rfl _ _ _ _ rfl _ _ rfl rfl HRun3.out ?_)
      clear HS KB KF HBg HFs
      go_loopw [7, 27] (fun v ii W => ∃ (k' : Nat) (A : Option Addr) (c : Nat), k' ≤ n ∧ ii = .int .i64 k' ∧ v = .slice A (k' + 1) c ∧ Wv w ⟨k, r, (-1), x, m⟩ (.slice A (k' + 1) c) ([q] ++ low x k') W) (fun _ ii _ => n - (intOf ii).toNat)
      case atStart => exact ⟨0, _, _, Nat.zero_le _, rfl, rfl, by simpa [low] using HW.out⟩
      case round =>
        clear HW
        obtain ⟨k', A, c, hk', rfl, rfl, hW⟩ := hrel
        by_cases hlt : k' < n
        · have c3 : wr.cell? ⟨w.heap.size, 3, none⟩ = some (.int .u32 x) := hW.c3
          have hb : 0 ≤ x / 256 ^ k' % 256 ∧ x / 256 ^ k' % 256 < 256 := by omega
          have hl : ([q] ++ low x k').length = k' + 1 := by simp [low_length]
          obtain ⟨A2, c2', w2, hrun, hW2⟩ := hW.app (x / 256 ^ k' % 256) (k' + 1) hl hb (by omega)
          have HW2 : Hid (Wv w ⟨k, r, (-1), x, m⟩ (.slice A2 (k' + 1 + 1) c2') ([q] ++ low x (k' + 1)) w2) := Lib.hid (by rw [low_succ, ← List.append_assoc]; exact hW2.out)
          have HRun := Lib.hid hrun
          obtain ⟨b0, b1⟩ := hb
          have hk4 : k' = 0 ∨ k' = 1 ∨ k' = 2 ∨ k' = 3 := by omega
          have HM : Hid (x / 16777216 % 256 = x / 16777216) := Lib.hid (by omega)
          clear hW hrun hW2 hl
          rcases hk4 with rfl | rfl | rfl | rfl
          all_goals
            simp at HRun
            try rw [HM.out] at HRun
            go_wp2_with (at_builtin; refine wpList_append_run _ rfl _ _ _ _ rfl _ _ rfl rfl HRun.out ?_)
            go_roundw
            case rel => exact ⟨_, A2, c2', hlt, rfl, rfl, HW2.out⟩
            case measure => first | (simp [intOf]; done) | (simp [intOf]; omega)
        · obtain rfl : k' = n := by omega
          have HW := Lib.hid hW.done
          clear hW
          go_wp2
          go_ret
          exact ⟨A, c, rfl, HW.out⟩
  · have gi : (i != -1) = true := by simpa using hi
    by_cases h98 : a = 98
    · subst h98
      have hp := HPre.out
      rw [if_neg hi, if_pos rfl] at hp
      obtain rfl : [f] = P := hp
      clear HPre hi
      rw [show ([f] ++ low x n).length = n + 1 by simp [low_length]]
      go_enter Tryz.func83, Tryz.ntmps83
      go_wp2_with fail
      refine (KF _).out.mono ?_
      rintro e w' ⟨rfl, rfl⟩
      generalize (w.alloc (.cells #[.int .i64 k, .int .i64 r, .int .i64 i, .int .u32 x, .int .i64 m] 47)) = W0 at *
      obtain ⟨A1, c1', w1, hrun, hW1⟩ := HS.out.app f 0 rfl HFs.out (by omega)
      have HRun := Lib.hid hrun
      have HW1 := Lib.hid hW1.out
      have e0 : w1.cell? ⟨w.heap.size, 0, none⟩ = some (.int .i64 k) := hW1.out.c0
      have e1 : w1.cell? ⟨w.heap.size, 1, none⟩ = some (.int .i64 r) := hW1.out.c1
      have e2 : w1.cell? ⟨w.heap.size, 2, none⟩ = some (.int .i64 i) := hW1.out.c2
      have e3 : w1.cell? ⟨w.heap.size, 3, none⟩ = some (.int .u32 x) := hW1.out.c3
      have e4 : w1.cell? ⟨w.heap.size, 4, none⟩ = some (.int .i64 m) := hW1.out.c4
      clear hrun hW1
      go_wp2_with (at_builtin; refine wpList_append_run _ rfl _ _ _ _ rfl _ _ rfl rfl HRun.out ?_)
      have HW := HW1
      clear HS KB KF HBg HFs e0 e1 e2 e3 e4 HRun
      go_loopw [7, 27] (fun v ii W => ∃ (k' : Nat) (A : Option Addr) (c : Nat), k' ≤ n ∧ ii = .int .i64 k' ∧ v = .slice A (k' + 1) c ∧ Wv w ⟨k, r, i, x, m⟩ (.slice A (k' + 1) c) ([f] ++ low x k') W) (fun _ ii _ => n - (intOf ii).toNat)
      case atStart => exact ⟨0, _, _, Nat.zero_le _, rfl, rfl, by simpa [low] using HW.out⟩
      case round =>
        clear HW
        obtain ⟨k', A, c, hk', rfl, rfl, hW⟩ := hrel
        by_cases hlt : k' < n
        · have c3 : wr.cell? ⟨w.heap.size, 3, none⟩ = some (.int .u32 x) := hW.c3
          have hb : 0 ≤ x / 256 ^ k' % 256 ∧ x / 256 ^ k' % 256 < 256 := by omega
          have hl : ([f] ++ low x k').length = k' + 1 := by simp [low_length]
          obtain ⟨A2, c2', w2, hrun, hW2⟩ := hW.app (x / 256 ^ k' % 256) (k' + 1) hl hb (by omega)
          have HW2 : Hid (Wv w ⟨k, r, i, x, m⟩ (.slice A2 (k' + 1 + 1) c2') ([f] ++ low x (k' + 1)) w2) := Lib.hid (by rw [low_succ, ← List.append_assoc]; exact hW2.out)
          have HRun := Lib.hid hrun
          obtain ⟨b0, b1⟩ := hb
          have hk4 : k' = 0 ∨ k' = 1 ∨ k' = 2 ∨ k' = 3 := by omega
          have HM : Hid (x / 16777216 % 256 = x / 16777216) := Lib.hid (by omega)
          clear hW hrun hW2 hl
          rcases hk4 with rfl | rfl | rfl | rfl
          all_goals
            simp at HRun
            try rw [HM.out] at HRun
            go_wp2_with (at_builtin; refine wpList_append_run _ rfl _ _ _ _ rfl _ _ rfl rfl HRun.out ?_)
            go_roundw
            case rel => exact ⟨_, A2, c2', hlt, rfl, rfl, HW2.out⟩
            case measure => first | (simp [intOf]; done) | (simp [intOf]; omega)
        · obtain rfl : k' = n := by omega
          have HW := Lib.hid hW.done
          clear hW
          go_wp2
          go_ret
          exact ⟨A, c, rfl, HW.out⟩
    · have g98 : (a != 98) = true := by simpa using h98
      have hp := HPre.out
      rw [if_neg hi, if_neg h98] at hp
      obtain rfl : [f, q] = P := hp
      clear HPre hi h98
      rw [show ([f, q] ++ low x n).length = n + 2 by simp [low_length]]
      go_enter Tryz.func83, Tryz.ntmps83
      go_wp2_with fail
      refine (KF _).out.mono ?_
      rintro e w' ⟨rfl, rfl⟩
      generalize (w.alloc (.cells #[.int .i64 k, .int .i64 r, .int .i64 i, .int .u32 x, .int .i64 m] 47)) = W0 at *
      obtain ⟨A1, c1', w1, hrun, hW1⟩ := HS.out.app f 0 rfl HFs.out (by omega)
      have HRun := Lib.hid hrun
      have HW1 := Lib.hid hW1.out
      have e0 : w1.cell? ⟨w.heap.size, 0, none⟩ = some (.int .i64 k) := hW1.out.c0
      have e1 : w1.cell? ⟨w.heap.size, 1, none⟩ = some (.int .i64 r) := hW1.out.c1
      have e2 : w1.cell? ⟨w.heap.size, 2, none⟩ = some (.int .i64 i) := hW1.out.c2
      have e3 : w1.cell? ⟨w.heap.size, 3, none⟩ = some (.int .u32 x) := hW1.out.c3
      have e4 : w1.cell? ⟨w.heap.size, 4, none⟩ = some (.int .i64 m) := hW1.out.c4
      clear hrun hW1
      go_wp2_with (first | (at_builtin; refine wpList_append_run _ rfl _ _ _ _ rfl _ _ rfl rfl HRun.out ?_) | fail)
      refine (KB _).out.mono ?_
      rintro e w2 ⟨rfl, hb2⟩
      have hW2 := HW1.out.below hb2
      obtain ⟨A3, c3', w3, hrun3, hW3⟩ := hW2.app q 1 rfl HBg.out (by omega)
      have HRun3 := Lib.hid hrun3
      have HW := Lib.hid hW3.out
      clear hrun3 hW3 hW2 hb2
      go_wp2_with (at_builtin; refine wpList_append_run _ rfl _ _ _ _ rfl _ _ rfl rfl HRun3.out ?_)
      clear HS KB KF HBg HFs e0 e1 e2 e3 e4 HRun
      go_loopw [7, 27] (fun v ii W => ∃ (k' : Nat) (A : Option Addr) (c : Nat), k' ≤ n ∧ ii = .int .i64 k' ∧ v = .slice A (k' + 2) c ∧ Wv w ⟨k, r, i, x, m⟩ (.slice A (k' + 2) c) ([f, q] ++ low x k') W) (fun _ ii _ => n - (intOf ii).toNat)
      case atStart => exact ⟨0, _, _, Nat.zero_le _, rfl, rfl, by simpa [low] using HW.out⟩
      case round =>
        clear HW
        obtain ⟨k', A, c, hk', rfl, rfl, hW⟩ := hrel
        by_cases hlt : k' < n
        · have c3 : wr.cell? ⟨w.heap.size, 3, none⟩ = some (.int .u32 x) := hW.c3
          have hb : 0 ≤ x / 256 ^ k' % 256 ∧ x / 256 ^ k' % 256 < 256 := by omega
          have hl : ([f, q] ++ low x k').length = k' + 2 := by simp [low_length]
          obtain ⟨A2, c2', w2, hrun, hW2⟩ := hW.app (x / 256 ^ k' % 256) (k' + 2) hl hb (by omega)
          have HW2 : Hid (Wv w ⟨k, r, i, x, m⟩ (.slice A2 (k' + 2 + 1) c2') ([f, q] ++ low x (k' + 1)) w2) := Lib.hid (by rw [low_succ, ← List.append_assoc]; exact hW2.out)
          have HRun := Lib.hid hrun
          obtain ⟨b0, b1⟩ := hb
          have hk4 : k' = 0 ∨ k' = 1 ∨ k' = 2 ∨ k' = 3 := by omega
          have HM : Hid (x / 16777216 % 256 = x / 16777216) := Lib.hid (by omega)
          clear hW hrun hW2 hl
          rcases hk4 with rfl | rfl | rfl | rfl
          all_goals
            simp at HRun
            try rw [HM.out] at HRun
            go_wp2_with (at_builtin; refine wpList_append_run _ rfl _ _ _ _ rfl _ _ rfl rfl HRun.out ?_)
            go_roundw
            case rel => exact ⟨_, A2, c2', hlt, rfl, rfl, HW2.out⟩
            case measure => first | (simp [intOf]; done) | (simp [intOf]; omega)
        · obtain rfl : k' = n := by omega
          have HW := Lib.hid hW.done
          clear hW
          go_wp2
          go_ret
          exact ⟨A, c, rfl, HW.out⟩

end Go.Proofs.YtppkpfkoggnbmaaGreatDoor.Cs.Es
