/- Contracts of package spec's smaller functions. -/
import Derived.Test.YtppkpfkoggnbmaaGreatDoorEMem
import Derived.Lib.Bytealg
import Derived.Lib.Walk
import Derived.Laws.Strings3
import Derived.Handy
import Derived.Laws.StructEq
import Derived.Deep.RegionHeld3
namespace Go.Proofs.YtppkpfkoggnbmaaGreatDoor.Cs.Es
open Go.RowKit

/-- the accesses' letters -/
abbrev lts : ByteArray := ⟨#[114, 119, 109, 97, 118, 98]⟩
def ix (c : Int) : Int := Lib.indexByte lts.data.toList c.toNat.toUInt8
set_option maxHeartbeats 400000 in
set_option maxRecDepth 100000 in
theorem ixl_any (c : Int) (w : World) : Calls Tryz.prog 85 #[.string lts, .int .u8 c] w fun e w' => e = .returned (.int .i64 (ix c)) ∧ w = w' := by
  go_enter Tryz.func85, Tryz.ntmps85
  go_wp2
  rw [run_callFunc_extern Tryz.func110 (by kernel_rfl) (by kernel_rfl) (by kernel_rfl) (e := Extern.BytealgIndexByte.indexByte) (by kernel_rfl), Lib.run_indexByteString]
  simp only [Result.andThen]
  rw [Oper.upon_value]
  go_wp2
  go_ret
  exact ⟨rfl, rfl⟩
set_option maxHeartbeats 400000 in
set_option maxRecDepth 100000 in
theorem ixs_any (c : Int) (w : World) : Calls Tryz.prog 56 #[.string lts, .int .u8 c] w fun e w' => e = .returned (.int .i64 (ix c)) ∧ w = w' := by
  go_enter Tryz.func56, Tryz.ntmps56
  go_wp2_with (go_at_call 85; refine (ixl_any _ _).mono ?_; rintro e w' ⟨rfl, rfl⟩)
  go_ret
  exact ⟨rfl, rfl⟩
theorem ix_nat : ∀ k : Fin 256, decide (0 ≤ ix (k.val : Int)) = ((k.val : Int) == 114 || ((k.val : Int) == 119 || ((k.val : Int) == 109 || ((k.val : Int) == 97 || ((k.val : Int) == 118 || (k.val : Int) == 98))))) := by decide +kernel
theorem ix_gd {c : Int} (h : 0 ≤ c ∧ c < 256) : decide (0 ≤ ix c) = (c == 114 || (c == 119 || (c == 109 || (c == 97 || (c == 118 || c == 98))))) := by
  obtain ⟨k, rfl⟩ := Int.eq_ofNat_of_zero_le h.1
  exact ix_nat ⟨k, by omega⟩

set_option maxHeartbeats 400000 in
set_option maxRecDepth 100000 in
theorem is_any (a z : Int) (ha : 0 ≤ a ∧ a < 256) (w : World) :
    Calls Tryz.prog 26 #[.agg #[.int .u8 a, .int .i64 z]] w fun e w' => e = .returned (.bool (gd a z)) ∧ Below w.heap.size w w' := by
  have HI := Lib.hid (ix_gd ha)
  obtain ⟨a0, a1⟩ := ha
  have hc : z = 1 ∨ z = 2 ∨ z = 4 ∨ (z ≠ 1 ∧ z ≠ 2 ∧ z ≠ 4) := by omega
  rcases hc with rfl | rfl | rfl | ⟨h1, h2, h4⟩
  · have HE : Hid (gd a 1 = decide (0 ≤ ix a)) := by show gd a 1 = _; rw [HI.out]; simp [gd]
    go_enter Tryz.func26, Tryz.ntmps26
    go_wp2_with (go_at_call 56; refine (ixs_any _ _).mono ?_; rintro e w' ⟨rfl, rfl⟩)
    go_ret
    exact ⟨ret_bool HE.out.symm, al1 _ _⟩
  · have HE : Hid (gd a 2 = decide (0 ≤ ix a)) := by show gd a 2 = _; rw [HI.out]; simp [gd]
    go_enter Tryz.func26, Tryz.ntmps26
    go_wp2_with (go_at_call 56; refine (ixs_any _ _).mono ?_; rintro e w' ⟨rfl, rfl⟩)
    go_ret
    exact ⟨ret_bool HE.out.symm, al1 _ _⟩
  · have HE : Hid (gd a 4 = decide (0 ≤ ix a)) := by show gd a 4 = _; rw [HI.out]; simp [gd]
    go_enter Tryz.func26, Tryz.ntmps26
    go_wp2_with (go_at_call 56; refine (ixs_any _ _).mono ?_; rintro e w' ⟨rfl, rfl⟩)
    go_ret
    exact ⟨ret_bool HE.out.symm, al1 _ _⟩
  · have HE : Hid (gd a z = false) := by show gd a z = _; simp [gd, h1, h2, h4]
    have g1 : (z == 1) = false := by simpa using h1
    have g2 : (z == 2) = false := by simpa using h2
    have g4 : (z == 4) = false := by simpa using h4
    clear h1 h2 h4
    go_enter Tryz.func26, Tryz.ntmps26
    go_wp2
    go_ret
    exact ⟨ret_bool HE.out.symm, al1 _ _⟩

theorem and15 {x : Int} (h0 : 0 ≤ x) (h1 : x < 256) : bits .and .u8 x 15 = x % 16 := by
  have : ∀ k : Fin 256, bits .and .u8 (k.val : Int) 15 = (k.val : Int) % 16 := by decide +kernel
  obtain ⟨k, rfl⟩ := Int.eq_ofNat_of_zero_le h0
  exact this ⟨k, by omega⟩
theorem and63 {x : Int} (h0 : 0 ≤ x) (h1 : x < 256) : bits .and .u8 x 63 = x % 64 := by
  have : ∀ k : Fin 256, bits .and .u8 (k.val : Int) 63 = (k.val : Int) % 64 := by decide +kernel
  obtain ⟨k, rfl⟩ := Int.eq_ofNat_of_zero_le h0
  exact this ⟨k, by omega⟩

set_option maxHeartbeats 400000 in
set_option maxRecDepth 100000 in
theorem register_any (x : Int) (hx : 0 ≤ x ∧ x < 256) (w : World) :
    Calls Tryz.prog 28 #[.int .u8 x] w fun e w' => e = .returned (.int .i64 (x % 16)) ∧ w = w' := by
  have h := and15 hx.1 hx.2
  have h2 : 0 ≤ x % 16 := by omega
  have h3 : x % 16 < 16 := by omega
  generalize x % 16 = r at *
  go_enter Tryz.func28, Tryz.ntmps28
  go_wp2
  go_ret
  exact ⟨rfl, rfl⟩

set_option maxHeartbeats 400000 in
set_option maxRecDepth 100000 in
theorem bad_any (n : Int) (w : World) :
    Calls Tryz.prog 29 #[.int .i64 n] w fun e w' => e = .returned (bd n).val ∧ Below w.heap.size w w' := by
  go_enter Tryz.func29, Tryz.ntmps29
  go_wp2
  exact bodyPost_ret (v := (bd n).val) (by simp [results, Tryz.results29, go_sem, bd]) rfl ⟨rfl, by go_grown⟩

end Go.Proofs.YtppkpfkoggnbmaaGreatDoor.Cs.Es
