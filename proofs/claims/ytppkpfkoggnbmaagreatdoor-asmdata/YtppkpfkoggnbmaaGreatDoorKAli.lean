/- What each law of layer 12 asks first. -/
import Derived.Test.YtppkpfkoggnbmaaGreatDoorGKas
import Derived.Laws.BytesString
namespace Go.Proofs.YtppkpfkoggnbmaaGreatDoor.Cs.Ka
open Go.RowKit Es
open Ia (sb)
set_option linter.unusedVariables false
set_option linter.unusedSimpArgs false

set_option maxRecDepth 100000 in
theorem asm_own : asmF [77, 79, 86, 76, 32, 35, 53, 44, 32, 45, 40, 83, 80, 41] = ([208, 5, 126], 0, 0) := by kernel_rfl

/-- The string of bytes. -/
def str (ys : List Int) : ByteArray := ys.foldl (fun r n => r.push (UInt8.ofNat n.toNat)) ByteArray.empty
theorem under_u8' : Tryz.prog.underlying 5 = some (.int .u8) := by kernel_rfl
theorem run_str {w : World} {A : Option Addr} {n c : Nat} {ys : List Int} (h : By w A n c ys) :
    (convert 22 9 (.slice A n c)).run Tryz.prog w = .ok (.string (str ys)) w := by
  rw [run_convert_bytes_string w _ _ _ A n c under_slice under_u8' ts_str]
  by_cases h0 : n = 0
  · have h1 := h.len
    subst h0
    obtain rfl : ys = [] := List.eq_nil_of_length_eq_zero h1
    cases A with
    | none => simp [Conv.bytesToString, str]
    | some ad => exact run_bytesToString w ad 0 c [] (by simp [loadCells, loadCellsFrom])
  · have h1 := h.len
    obtain ⟨ad, rfl, _, hc⟩ := h.src (by omega)
    have hl := run_loadCells_list (P := Tryz.prog) w ad (cel ys) hc
    rw [cel_length, h1] at hl
    exact run_bytesToString w ad n c ys hl
theorem str_own : str [208, 5, 126] = ⟨#[208, 5, 126]⟩ := by kernel_rfl

set_option maxHeartbeats 6400000 in
set_option maxRecDepth 100000 in
theorem alive (W : World) (h13 : 13 ≤ W.heap.size) (hg : Gt W) (hgl : Ia.Gl W) : Calls Tryz.prog 8 #[] W fun e w' => e = .returned (.bool true) ∧ Below W.heap.size W w' := by
  have HA : Hid (Calls Tryz.prog 11 #[.string ⟨#[77, 79, 86, 76, 32, 35, 53, 44, 32, 45, 40, 83, 80, 41]⟩] W (AsO W ([208, 5, 126], 0, 0))) := by
    have h := assemble_any W [77, 79, 86, 76, 32, 35, 53, 44, 32, 45, 40, 83, 80, 41] (by unfold Asc; decide) (by simp) h13 hg hgl
    rw [asm_own] at h
    exact h
  clear h13 hg hgl
  go_enter Tryz.func8, Tryz.ntmps8
  go_wp2_with (first | (go_at_call 11; refine HA.out.mono ?_; intro e w1 hr; obtain ⟨A, c, rfl, hB, hb⟩ := hr; have hs := run_str hB; rw [str_own] at hs; simp only [List.length_cons, List.length_nil, Nat.zero_add, Nat.reduceAdd] at hs; have HB := Lib.hid hb; clear hB hb) | fail)
  go_ret
  exact ⟨rfl, HB.out⟩

end Go.Proofs.YtppkpfkoggnbmaaGreatDoor.Cs.Ka
