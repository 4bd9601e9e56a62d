/- Contracts of package spec: behind. -/
import Derived.Test.YtppkpfkoggnbmaaGreatDoorENumb
import Derived.Test.YtppkpfkoggnbmaaGreatDoorEHead
namespace Go.Proofs.YtppkpfkoggnbmaaGreatDoor.Cs.Es
open Go.RowKit

theorem run_part (ad : Addr) (n c p m : Nat) (h : p + m ≤ n) (hc : n ≤ c) (w : World) : (Instr.slice 22 (.slice (some ad) n c) (some (.int .i64 p)) (some (.int .i64 ((p : Int) + (m : Int)))) none).run Tryz.prog w = .ok (.slice (some (if c = p then ad else ad.add p)) m (c - p)) w := by
  have := run_mid ad n c p (p + m) (by omega) (by omega) w
  rw [Nat.add_sub_cancel_left, Int.natCast_add] at this
  exact this

set_option maxHeartbeats 400000 in
set_option maxRecDepth 100000 in
theorem behind_long (A : Option Addr) (n c p m : Nat) (s : Sp) (w : World) (hn : n ≤ 1000000) (hp : p ≤ 2) (hm : m ≤ 4) (h : n < p + m) :
    Calls Tryz.prog 27 #[.slice A n c, .int .i64 p, s.val, .int .i64 m] w fun e w' => e = .returned (.tuple #[zs.val, .int .i64 3]) ∧ Below w.heap.size w w' := by
  obtain ⟨k, r, i, x, b⟩ := s
  have h1 : (n : Int) < (p : Int) + (m : Int) := by omega
  clear h
  go_enter Tryz.func27, Tryz.ntmps27
  go_wp2
  exact bodyPost_ret (v := .tuple #[zs.val, .int .i64 3]) (by simp [results, Tryz.results27, go_sem, zs]) rfl ⟨rfl, by go_grown⟩

set_option maxHeartbeats 400000 in
set_option maxRecDepth 100000 in
theorem behind_none (A : Option Addr) (n c p : Nat) (s : Sp) (w : World) (hp : p ≤ 2) (h : p ≤ n) :
    Calls Tryz.prog 27 #[.slice A n c, .int .i64 p, s.val, .int .i64 0] w fun e w' => e = .returned (.tuple #[(Sp.mk s.k s.r s.i s.x p).val, .int .i64 0]) ∧ Below w.heap.size w w' := by
  obtain ⟨k, r, i, x, b⟩ := s
  have h1 : ¬ (n : Int) < (p : Int) := by omega
  clear h
  go_enter Tryz.func27, Tryz.ntmps27
  go_wp2
  exact bodyPost_ret (v := .tuple #[(Sp.mk k r i x p).val, .int .i64 0]) (by simp [results, Tryz.results27, go_sem]) rfl ⟨rfl, by go_grown⟩

set_option maxHeartbeats 800000 in
set_option maxRecDepth 100000 in
theorem behind_some (A : Option Addr) (n c p m : Nat) (ys : List Int) (s : Sp) (w : World) (hy : By w A n c ys) (hn : n ≤ 1000000) (hp : p ≤ 2) (hm : Sz m) (h : p + m ≤ n) :
    Calls Tryz.prog 27 #[.slice A n c, .int .i64 p, s.val, .int .i64 m] w fun e w' => e = .returned (.tuple #[(Sp.mk s.k s.r s.i (nb ((ys.drop p).take m)) ((p : Int) + (m : Int))).val, .int .i64 0]) ∧ Below w.heap.size w w' := by
  obtain ⟨k, r, i, x, b⟩ := s
  have h1 : ¬ (n : Int) < (p : Int) + (m : Int) := by omega
  have hm1 : 1 ≤ m ∧ m ≤ 4 := by rcases hm with h | h | h <;> omega
  obtain ⟨ad, rfl⟩ := hy.some_ (by omega)
  have hR := run_part ad n c p m h hy.cap
  have hP : ∀ W, Below w.heap.size w W → By W (some (if c = p then ad else ad.add p)) m (c - p) ((ys.drop p).take m) := fun W hb =>
    ((hy.below hb (Nat.le_refl _)).drop (by omega)).take (by omega)
  have HP := Lib.hid hP
  have HM := Lib.hid hm
  generalize (ys.drop p).take m = zs at *
  generalize some (if c = p then ad else ad.add p) = A' at *
  obtain ⟨m0, m4⟩ := hm1
  have g0 : (0 : Int) < (m : Int) := by omega
  clear hP hy hm h
  go_enter Tryz.func27, Tryz.ntmps27
  go_wp2_with (go_at_call 57; refine (number_any _ _ _ zs _ HM.out (HP.out _ (by go_grown))).mono ?_; rintro e w' ⟨rfl, rfl⟩)
  generalize nb zs = q at *
  exact bodyPost_ret (v := .tuple #[(Sp.mk k r i q ((p : Int) + (m : Int))).val, .int .i64 0]) (by simp [results, Tryz.results27, go_sem]) rfl ⟨rfl, by go_grown⟩

end Go.Proofs.YtppkpfkoggnbmaaGreatDoor.Cs.Es
