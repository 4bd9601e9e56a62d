/- Contract of the document's Of: a status, part by part. -/
import Derived.Test.YtlijffjfaggkoaaQRef
import Derived.Deep.LoopGhost
import Derived.Deep.CutRange
namespace Go.Proofs.Ytlijffjfaggkoaa.Cs
open Go.RowKit

/-- a block of cells of one type -/
def Blk (W : World) (b : Nat) (l : List Value) : Prop := W.heap[b]? = some (.cells l.toArray 27 (0, 0))
theorem Blk.cell {W : World} {b : Nat} {l : List Value} (h : Blk W b l) (i : Nat) (v : Value) (hv : l[i]? = some v) : W.cell? ⟨b, i, none⟩ = some v := by
  unfold Blk at h; simp [World.cell?, h, hv]
theorem Blk.free {W : World} {b : Nat} {l : List Value} (h : Blk W b l) (i : Nat) : W.frozen? ⟨b, i, none⟩ = false := by
  unfold Blk at h; simp [World.frozen?, h]
theorem Blk.set {W : World} {b : Nat} {l : List Value} (h : Blk W b l) (i : Nat) (v : Value) : Blk (W.setCell ⟨b, i, none⟩ v) b (l.set i v) := by
  unfold Blk at h ⊢
  simp [World.setCell, Array.getElem?_modify, h]
theorem Blk.other {W : World} {b b' : Nat} {l : List Value} (h : Blk W b l) (hb : b ≠ b') (i : Nat) (v : Value) : Blk (W.setCell ⟨b', i, none⟩ v) b l := by
  unfold Blk at h ⊢
  rw [Below.heap_setCell _ _ _ _ hb]; exact h

theorem blk_new0 (w : World) (l : List Value) (o : Obj) : Blk ((w.alloc (.cells l.toArray 27)).alloc o) w.heap.size l := by
  unfold Blk
  show ((w.heap.push _).push _)[w.heap.size]? = _
  simp [Array.getElem?_push]
theorem blk_new1 (w : World) (l : List Value) (o : Obj) : Blk ((w.alloc o).alloc (.cells l.toArray 27)) (w.heap.size + 1) l := by
  unfold Blk
  show ((w.heap.push _).push _)[w.heap.size + 1]? = _
  rw [Array.getElem?_push, if_pos (by simp)]

/-- the status that is made: with this level so far, and this rest -/
def sl (x q : Int) (r : Bool) : List Value := [.bool (bi x 3), .bool (bi x 2), .bool (bi x 1), .bool (bi x 0), .int .i64 q, .bool (bi x 22), .bool (bi x 24), .bool (bi x 27), .bool r]
def nul : List Value := [.bool false, .bool false, .bool false, .bool false, .int .i64 0, .bool false, .bool false, .bool false, .bool false]

/-- while it is made -/
structure Mk (w : World) (x q : Int) (r : Bool) (W : World) : Prop where
  res : Blk W w.heap.size nul
  own : Blk W (w.heap.size + 1) (sl x q r)
  bel : Below w.heap.size w W
theorem Mk.cells {w W : World} {x q : Int} {r : Bool} (h : Mk w x q r W) :
    W.cell? ⟨w.heap.size + 1, 4, none⟩ = some (.int .i64 q) ∧ W.cell? ⟨w.heap.size + 1, 8, none⟩ = some (.bool r) ∧ W.frozen? ⟨w.heap.size + 1, 4, none⟩ = false ∧ W.frozen? ⟨w.heap.size + 1, 8, none⟩ = false :=
  ⟨h.own.cell 4 _ rfl, h.own.cell 8 _ rfl, h.own.free 4, h.own.free 8⟩
theorem Mk.level {w W : World} {x q : Int} {r : Bool} (h : Mk w x q r W) (q' : Int) : Mk w x q' r (W.setCell ⟨w.heap.size + 1, 4, none⟩ (.int .i64 q')) :=
  ⟨h.res.other (by omega) _ _, h.own.set 4 _, h.bel.setCell (by simp) _⟩
theorem Mk.rest {w W : World} {x q : Int} {r : Bool} (h : Mk w x q r W) (r' : Bool) : Mk w x q r' (W.setCell ⟨w.heap.size + 1, 8, none⟩ (.bool r')) :=
  ⟨h.res.other (by omega) _ _, h.own.set 8 _, h.bel.setCell (by simp) _⟩

theorem level_step (x : Int) (j : Nat) (h0 : 16 ≤ j) (h1 : j < 21) : x / 65536 % 2 ^ (j + 1 - 16) = x / 65536 % 2 ^ (j - 16) + wo (bi x j) (2 ^ (j - 16)) := by
  have hc := bi_cases x j
  have : j = 16 ∨ j = 17 ∨ j = 18 ∨ j = 19 ∨ j = 20 := by omega
  rcases this with rfl | rfl | rfl | rfl | rfl <;> rcases hc with ⟨h, k⟩ | ⟨h, k⟩ <;> rw [h] <;> simp [wo] at k ⊢ <;> omega
theorem worth_step (j : Nat) (h0 : 16 ≤ j) (h1 : j ≤ 21) : 1 ≤ (2 : Int) ^ (j - 16) ∧ (2 : Int) ^ (j - 16) ≤ 32 ∧ (2 : Int) ^ (j + 1 - 16) = 2 * 2 ^ (j - 16) := by
  have : j = 16 ∨ j = 17 ∨ j = 18 ∨ j = 19 ∨ j = 20 ∨ j = 21 := by omega
  rcases this with rfl | rfl | rfl | rfl | rfl | rfl <;> simp

theorem bits_i (x : Int) (k : Int) (hx : U x) (h0 : 0 ≤ k) (h1 : k ≤ 31) (w : World) :
    Calls Try.prog 28 #[.int .u32 x, .int .i64 k] w fun e w' => e = .returned (.bool (bi x k.toNat)) ∧ w = w' := by
  obtain ⟨n, rfl⟩ := Int.eq_ofNat_of_zero_le h0
  exact rbit_any x n hx (by omega) w

theorem kn_cases (k : Nat) (h : k < 32) : (Hid (kn k = true) ∧ k < 4) ∨ (Hid (kn k = true) ∧ 16 ≤ k ∧ k ≤ 20) ∨ (Hid (kn k = false) ∧ 4 ≤ k ∧ k < 16) ∨ (Hid (kn k = true) ∧ k = 22) ∨ (Hid (kn k = true) ∧ k = 24) ∨ (Hid (kn k = true) ∧ k = 27) ∨ (Hid (kn k = false) ∧ 20 < k ∧ ¬ k = 22 ∧ ¬ k = 24 ∧ ¬ k = 27) := by
  by_cases h1 : k < 4
  · exact .inl ⟨show kn k = true by simp [kn, h1], h1⟩
  by_cases h2 : k < 16
  · exact .inr (.inr (.inl ⟨show kn k = false by simp [kn]; omega, by omega, h2⟩))
  by_cases h3 : k ≤ 20
  · exact .inr (.inl ⟨show kn k = true by simp [kn]; omega, by omega, h3⟩)
  by_cases h4 : k = 22
  · exact .inr (.inr (.inr (.inl ⟨show kn k = true by simp [kn, h4], h4⟩)))
  by_cases h5 : k = 24
  · exact .inr (.inr (.inr (.inr (.inl ⟨show kn k = true by simp [kn, h5], h5⟩))))
  by_cases h6 : k = 27
  · exact .inr (.inr (.inr (.inr (.inr (.inl ⟨show kn k = true by simp [kn, h6], h6⟩)))))
  exact .inr (.inr (.inr (.inr (.inr (.inr ⟨show kn k = false by simp [kn]; omega, by omega, h4, h5, h6⟩)))))

set_option maxHeartbeats 2000000 in
theorem of_any (x : Int) (hx : U x) (w : World) :
    Calls Try.prog 10 #[.int .u32 x] w fun e w' => e = .returned (.agg #[.bool (bi x 3), .bool (bi x 2), .bool (bi x 1), .bool (bi x 0), .int .i64 (ip x), .bool (bi x 22), .bool (bi x 24), .bool (bi x 27), .bool (rk x 32)]) ∧ Below w.heap.size w w' := by
  go_enter Try.func10, Try.ntmps10
  go_wp2_with (go_at_call 28; refine (bits_i _ _ hx (by omega) (by omega) _).mono ?_; rintro e w' ⟨rfl, rfl⟩)
  go_loopw [4, 5] (fun v i W => ∃ j : Nat, 16 ≤ j ∧ j ≤ 21 ∧ i = .int .i64 j ∧ v = .int .i64 (2 ^ (j - 16)) ∧ Mk w x (x / 65536 % 2 ^ (j - 16)) false W) (fun _ i _ => 21 - (intOf i).toNat)
  case atStart =>
    refine ⟨16, by omega, by omega, rfl, rfl, ?_, ?_, ?_⟩
    · exact blk_new0 _ _ _
    · rw [show x / 65536 % 2 ^ (16 - 16) = 0 by simp]; exact blk_new1 _ _ _
    · exact ((Below.refl _ _).alloc (Nat.le_refl _) _).alloc (by simp) _
  case round =>
    obtain ⟨j, hj0, hj1, rfl, rfl, hM⟩ := hrel
    obtain ⟨hp0, hp1, hp2⟩ := worth_step j hj0 hj1
    have HP := Lib.hid hp2
    clear hp2
    have HM := Lib.hid hM
    by_cases hlt : j < 21
    · have HS := Lib.hid (level_step x j hj0 hlt)
      have hq : 0 ≤ x / 65536 % 2 ^ (j - 16) ∧ x / 65536 % 2 ^ (j - 16) ≤ 31 := ⟨Int.emod_nonneg _ (by omega), by have := Int.emod_lt_of_pos (x / 65536) (show 0 < (2 : Int) ^ (j - 16) by omega); omega⟩
      obtain ⟨hq0, hq1⟩ := hq
      obtain ⟨c4, c8, f4, f8⟩ := hM.cells
      clear hM
      cases hb : bi x j
      · have HB := Lib.hid hb
        clear hb
        generalize x / 65536 % 2 ^ (j - 16) = q at *
        generalize (2 : Int) ^ (j - 16) = p at *
        go_wp2_with (go_at_call 28; refine (rbit_as _ _ hx (by omega) _ HB.out _).mono ?_; rintro e w' ⟨rfl, rfl⟩)
        go_roundw
        case rel => exact ⟨j + 1, by omega, by omega, by go_num, by rw [HP.out], by rw [HS.out, HB.out]; simpa [wo] using HM.out⟩
        case measure => simp [intOf]; omega
      · have HB := Lib.hid hb
        clear hb
        generalize x / 65536 % 2 ^ (j - 16) = q at *
        generalize (2 : Int) ^ (j - 16) = p at *
        go_wp2_with (go_at_call 28; refine (rbit_as _ _ hx (by omega) _ HB.out _).mono ?_; rintro e w' ⟨rfl, rfl⟩)
        go_roundw
        case rel => exact ⟨j + 1, by omega, by omega, by go_num, by rw [HP.out], by rw [HS.out, HB.out]; exact HM.out.level _⟩
        case measure => simp [intOf]; omega
    · obtain rfl : j = 21 := by omega
      rw [show x / 65536 % 2 ^ (21 - 16) = ip x from rfl] at HM
      clear hM HP hp0 hp1 hj0 hj1 hlt
      go_wp2
      go_loopg [6] 32 (fun g i W => ∃ k : Nat, k ≤ 32 ∧ g = 32 - k ∧ i = .int .i64 k ∧ Mk w x (ip x) (rk x k) W)
      case atStart => exact ⟨0, by omega, rfl, rfl, HM.out⟩
      case round =>
        clear HM
        obtain ⟨k, hk, hgk, rfl, hM⟩ := hrel
        have HGK := Lib.hid hgk
        have HM := Lib.hid hM
        clear hgk
        by_cases hlt : k < 32
        · clear hM
          go_upto_region 12 with fail
          go_cut [7] from 38 to 75 (fun v W => v = .bool (kn k) ∧ W = wr)
          case first =>
            clear HM
            have hc := kn_cases k hlt
            rcases hc with ⟨HK, h1⟩ | ⟨HK, h1, h2⟩ | ⟨HK, h1, h2⟩ | ⟨HK, rfl⟩ | ⟨HK, rfl⟩ | ⟨HK, rfl⟩ | ⟨HK, h1, h2, h3, h4⟩
            all_goals
              go_wp2
              go_meet
              exact ⟨by first | (rw [HK.out]; done) | (rw [HK.out]; exact congrArg Value.bool (by simp; omega)), rfl⟩
          case rest =>
            obtain ⟨rfl, rfl⟩ := hcut
            obtain ⟨c4, c8, f4, f8⟩ := HM.out.cells
            have HS := Lib.hid (show rk x (k + 1) = (rk x k || (!kn k && bi x k)) from rfl)
            have HC := Lib.hid (rbit_as x k hx (by omega))
            generalize bi x k = b at *
            generalize rk x k = r at *
            generalize kn k = t at *
            cases r <;> cases t
            all_goals
              go_wp2_with (go_at_call 28; refine (HC.out b rfl _).mono ?_; rintro e w' ⟨rfl, rfl⟩)
              go_roundg (32 - (k + 1))
              case measure => have := HGK.out; omega
              case rel => exact ⟨k + 1, by omega, rfl, by go_num, by rw [HS.out]; exact HM.out.rest _⟩
        · obtain rfl : k = 32 := by omega
          have hr := hM.res
          have ho := hM.own
          clear hM
          have o0 := ho.cell 0 _ rfl
          have o1 := ho.cell 1 _ rfl
          have o2 := ho.cell 2 _ rfl
          have o3 := ho.cell 3 _ rfl
          have o4 := ho.cell 4 _ rfl
          have o5 := ho.cell 5 _ rfl
          have o6 := ho.cell 6 _ rfl
          have o7 := ho.cell 7 _ rfl
          have o8 := ho.cell 8 _ rfl
          have r0 := hr.cell 0 _ rfl
          have r1 := hr.cell 1 _ rfl
          have r2 := hr.cell 2 _ rfl
          have r3 := hr.cell 3 _ rfl
          have r4 := hr.cell 4 _ rfl
          have r5 := hr.cell 5 _ rfl
          have r6 := hr.cell 6 _ rfl
          have r7 := hr.cell 7 _ rfl
          have r8 := hr.cell 8 _ rfl
          have fr := hr.free
          clear hr ho
          go_wp2
          exact bodyPost_ret (v := .agg #[.bool (bi x 3), .bool (bi x 2), .bool (bi x 1), .bool (bi x 0), .int .i64 (ip x), .bool (bi x 22), .bool (bi x 24), .bool (bi x 27), .bool (rk x 32)]) (by simp [results, Try.results10, go_sem, r0, r1, r2, r3, r4, r5, r6, r7, r8]) rfl ⟨rfl, by
            iterate 9 refine Below.setCell ?_ (by simp) _
            exact HM.out.bel⟩
end Go.Proofs.Ytlijffjfaggkoaa.Cs
