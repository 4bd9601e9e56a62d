/- With memory unmapped; long numbers as they stand in a memory; slices.Reverse. -/
import Derived.Test.YteohkobdmkbcpaaGreatDoorXOk
import Derived.Test.YteohkobdmkbcpaaGreatDoorXPut
import Derived.BigRegion
namespace Go.Proofs.YteohkobdmkbcpaaGreatDoor.Cs
open Go.RowKit
set_option linter.unusedVariables false
set_option linter.unusedSimpArgs false

theorem walk_phys (t : Mm.Tabs) (xs : List Int) (u wr : Bool) (hm : t.me = 0) (hl : xs.length ≤ 16777216) : ∀ (n : Nat) (acc : List Mm.Run) (va : Nat), va + n ≤ xs.length →
    ∃ l, Mm.walk t xs u wr true [] acc va n = (.ok (acc ++ l), []) ∧ Mm.gat xs l = (xs.drop va).take n := by
  intro n
  induction n using Nat.strongRecOn with
  | _ n ih =>
    intro acc va h
    by_cases h0 : n = 0
    · subst h0
      exact ⟨[], by rw [Mm.walk_end]; simp, by simp [Mm.gat_nil]⟩
    · have hc := Mm.cnt_le va n
      have hc0 := Mm.cnt_pos va n h0
      have hp : Mm.plE t xs [] va (Mm.cnt va n) u wr = .ok va := by
        unfold Mm.plE Mm.fitE
        rw [if_pos hm, if_pos (by omega)]
      have hr : Mm.plR t xs [] va u wr true = [] := by unfold Mm.plR; rw [if_pos hm]
      have hx : Mm.nxt va n = ((va + Mm.cnt va n : Nat) : Int) := by unfold Mm.nxt; omega
      obtain ⟨l, h1, h2⟩ := ih (n - Mm.cnt va n) (by omega) (acc ++ [⟨va, va, Mm.cnt va n⟩]) (va + Mm.cnt va n) (by omega)
      refine ⟨⟨va, va, Mm.cnt va n⟩ :: l, ?_, ?_⟩
      · rw [Mm.walk_ok h0 hp, hr, hx, h1, List.append_assoc]; rfl
      · have e : Mm.gat xs (⟨va, va, Mm.cnt va n⟩ :: l) = (xs.drop va).take (Mm.cnt va n) ++ Mm.gat xs l := by simp [Mm.gat]
        rw [e, h2, ← List.drop_drop, ← List.take_add]
        congr 1
        omega
section
variable {c : Mc}
theorem ac_phys (hm : c.t.me = 0) (hl : c.xs.length ≤ 16777216) (u wr : Bool) {va : Nat} {n : Nat} (h : va + n ≤ c.xs.length) : ∃ l, c.ac u wr va n = (.ok l, []) ∧ Mm.gat c.xs l = (c.xs.drop va).take n := by
  obtain ⟨l, h1, h2⟩ := walk_phys c.t c.xs u wr hm hl n [] va h
  exact ⟨l, by unfold Mc.ac; simpa using h1, h2⟩
theorem ld_phys (hm : c.t.me = 0) (hl : c.xs.length ≤ 16777216) {va n : Nat} (h : va + n ≤ c.xs.length) : c.ld va n = ((c.xs.drop va).take n, none) := by
  obtain ⟨l, h1, h2⟩ := ac_phys hm hl c.us false h
  unfold Mc.ld
  rw [h1]
  simp only [Mm.accY, msd, h2]
theorem get_phys (hm : c.t.me = 0) (hl : c.xs.length ≤ 16777216) {va : Nat} {z : Int} (hz : 0 ≤ z ∧ z ≤ 4) (h : (va : Int) + z ≤ c.xs.length) : c.get va z = (Rm.num ((c.xs.drop va).take z.toNat), none) := by
  unfold Mc.get
  rw [show (min z 4).toNat = z.toNat by omega, ld_phys hm hl (by omega)]
theorem fet_phys (hm : c.t.me = 0) (hl : c.xs.length ≤ 16777216) {va : Nat} (hp : c.gr 15 = va) (h : va < c.xs.length) (hb : Rm.Byt c.xs) : c.fet = (c.xs.getD va 0, none, c.add 15 1) := by
  unfold Mc.fet
  rw [hp, get_phys hm hl ⟨by omega, by omega⟩ (by omega)]
  have e : (c.xs.drop va).take (1 : Int).toNat = [c.xs.getD va 0] := by
    rw [show (1 : Int).toNat = 1 from rfl, List.drop_eq_getElem_cons h, List.take_succ_cons, List.take_zero]
    simp [List.getD, h]
  rw [e]
  have hx : 0 ≤ c.xs.getD va 0 ∧ c.xs.getD va 0 < 256 := by
    apply hb
    simp only [List.getD, List.getElem?_eq_getElem h, Option.getD_some]
    exact List.getElem_mem h
  simp only [Rm.num]
  rw [show (c.xs.getD va 0 + 256 * 0) % 256 = c.xs.getD va 0 by omega]
end

end Go.Proofs.YteohkobdmkbcpaaGreatDoor.Cs

namespace Go.Proofs.YteohkobdmkbcpaaGreatDoor.Cs
open Go.RowKit
set_option linter.unusedVariables false
set_option linter.unusedSimpArgs false

theorem low4 {x : Int} (h : U x) : Rm.low x 4 = [x % 256, x / 256 % 256, x / 65536 % 256, x / 16777216] := by
  obtain ⟨h0, h1⟩ := h
  have e : Rm.low x 4 = [x / 1 % 256, x / 256 % 256, x / 65536 % 256, x / 16777216 % 256] := by simp [Rm.low, List.range, List.range.loop]
  rw [e, Int.ediv_one]
  have : x / 16777216 % 256 = x / 16777216 := by omega
  rw [this]
theorem lt_cell {w : World} {b o : Nat} {v : Value} (e : w.cell? ⟨b, o, none⟩ = some v) : b < w.heap.size := by
  by_cases hb : b < w.heap.size
  · exact hb
  · exfalso; simp [World.cell?, Array.getElem?_eq_none (Nat.le_of_not_lt hb)] at e
theorem laid_cons (x : Int) (l : List Int) : laid (x :: l) = Rm.low x 4 ++ laid l := rfl
theorem laid_app (l m : List Int) : laid (l ++ m) = laid l ++ laid m := by simp [laid]
theorem laid_len (l : List Int) : (laid l).length = 4 * l.length := by
  induction l with
  | nil => rfl
  | cons x l ih => rw [laid_cons, List.length_append, ih, Rm.low_length, List.length_cons]; omega

set_option maxHeartbeats 2000000 in
set_option maxRecDepth 100000 in
theorem laid_any (l : List Int) (n r cap : Nat) (hl : l.length = n) (hn : n ≤ 1000) (hu : ∀ k, U (l.getD k 0)) (w : World) (hc : ∀ k, k < n → w.cell? ⟨r, k, none⟩ = some (.int .u32 (l.getD k 0))) :
    Calls Tryz.prog 68 #[.slice (some ⟨r, 0, none⟩) n cap] w fun e w' => ∃ A c, e = .returned (.slice A (4 * n) c) ∧ Bt.Es.R8 w' (.slice A (4 * n) c) (laid l) ∧ Tl.Ab w.heap.size (Tl.Bl (.slice A (4 * n) c)) ∧ Below w.heap.size w w' := by
  have HC := Lib.hid hc
  have HU := Lib.hid hu
  have HL := Lib.hid hl
  have hn0 : (0 : Int) ≤ (n : Int) := by omega
  have hn1 : (n : Int) ≤ 1000 := by omega
  clear hc hu hl
  go_enter Tryz.func68, Tryz.ntmps68
  go_wp2
  go_loopw [3, 8] (fun v i W => ∃ k : Nat, k ≤ n ∧ i = .int .i64 k ∧ Bt.Es.R8 W v (laid (l.take k)) ∧ Tl.Ab w.heap.size (Tl.Bl v) ∧ Below w.heap.size w W) (fun _ i _ => n - (intOf i).toNat)
  case atStart => exact ⟨0, Nat.zero_le _, rfl, by simpa [laid] using Bt.Es.R8.nil w, fun k hk => by simp [Tl.Bl, Value.ownBlock] at hk, Below.refl _ _⟩
  case round =>
    obtain ⟨k, hk, rfl, hR, hA, hB⟩ := hrel
    by_cases hlt : k < n
    · have hk' : (k : Int) < (n : Int) := by omega
      have c := (hB.cell (p := ⟨r, k, none⟩) (lt_cell (HC.out k hlt))).trans (HC.out k hlt)
      obtain ⟨x0, x1⟩ := HU.out k
      have HT := Lib.hid (show l.take (k + 1) = l.take k ++ [l.getD k 0] by
        have hkl : k < l.length := by rw [HL.out]; exact hlt
        rw [List.take_add_one, List.getElem?_eq_getElem hkl, List.getD, List.getElem?_eq_getElem hkl]; rfl)
      generalize l.getD k 0 = x at *
      have HR := Lib.hid hR
      have HA := Lib.hid hA
      have HB := Lib.hid hB
      clear hR hA hB
      have hU : U x := ⟨x0, x1⟩
      have hlt4 := low4 hU
      have HLw := Lib.hid hlt4
      have hBy : Bt.Es.By (wr.alloc (.cells #[Value.int .u8 (x % 256), Value.int .u8 (x / 256 % 256), Value.int .u8 (x / 65536 % 256), Value.int .u8 (x / 16777216)] 5)) (some ⟨wr.heap.size, 0, none⟩) 4 4 [x % 256, x / 256 % 256, x / 65536 % 256, x / 16777216] := by
        refine ⟨rfl, ?_, fun _ => ⟨_, rfl, by simp, fun j v hv => ?_⟩, Nat.le_refl _, by omega⟩
        · intro y hy
          simp only [List.mem_cons, List.mem_nil_iff, or_false] at hy
          rcases hy with rfl | rfl | rfl | rfl <;> omega
        · rw [Bt.Es.Addr.add_lit', cell_of_row _ wr.heap.size _ _ _ _ (heap_alloc_new wr _)]
          simpa [Bt.Es.cel] using hv
      obtain ⟨A', c', w2, hrun, hR2, hS2⟩ := Bt.Es.run_app8 (wr.alloc (.cells #[Value.int .u8 (x % 256), Value.int .u8 (x / 256 % 256), Value.int .u8 (x / 65536 % 256), Value.int .u8 (x / 16777216)] 5)) _ _ _ _ 4 4 (Tl.own_below HR.out (Tl.Ia.al1 wr _)) hBy (by rw [laid_len, List.length_take]; omega)
      have HR2 := Lib.hid hR2
      have HA2 := Lib.hid (hS2.ab HA.out (by have := HB.out.size; simp; omega))
      have HB2 := Lib.hid (hS2.below (Tl.bel_trans HB.out (Tl.Ia.al1 wr _) HB.out.size) HA.out (by have := HB.out.size; simp; omega))
      have hq : (laid (l.take k)).length = 4 * k := by rw [laid_len, List.length_take, HL.out]; omega
      rw [hq] at hrun HR2 HA2
      have HQ := Lib.hid (show Bt.Es.R8 w2 (.slice A' (4 * k + 4) c') (laid (l.take (k + 1))) by
        rw [HT.out, laid_app, show laid [x] = [x % 256, x / 256 % 256, x / 65536 % 256, x / 16777216] by rw [← HLw.out]; simp [laid]]
        exact HR2.out)
      clear hR2 hS2 hBy hlt4 hq HR2
      go_wp2_with (first | (at_builtin; refine Tl.wpList_append_run _ rfl _ _ _ _ rfl _ _ rfl rfl hrun ?_) | fail)
      go_roundw
      case rel => exact ⟨k + 1, by omega, by go_num, HQ.out, HA2.out, HB2.out⟩
      case measure => simp [intOf]; omega
    · obtain rfl : k = n := by omega
      have e : l.take k = l := by rw [List.take_of_length_le (by rw [HL.out]; exact Nat.le_refl _)]
      rw [e] at hR
      have hq : (laid l).length = 4 * k := by rw [laid_len, HL.out]
      obtain ⟨A, c, rfl⟩ := hR.shape
      rw [hq] at hR hA ⊢
      have HR := Lib.hid hR
      have HA := Lib.hid hA
      have HB := Lib.hid hB
      clear hR hA hB e hq
      go_wp2
      go_ret
      exact ⟨A, c, rfl, HR.out, HA.out, HB.out⟩
end Go.Proofs.YteohkobdmkbcpaaGreatDoor.Cs

namespace Go.Proofs.YteohkobdmkbcpaaGreatDoor.Cs
open Go.RowKit
set_option linter.unusedVariables false
set_option linter.unusedSimpArgs false

/-- the first cells of block r are these numbers; since w only that block has turned -/
structure Cr (w : World) (r : Nat) (l : List Int) (W : World) : Prop where
  c : ∀ k, k < l.length → W.cell? ⟨r, k, none⟩ = some (.int .u32 (l.getD k 0))
  f : ∀ k, W.frozen? ⟨r, k, none⟩ = false
  m : Tl.Mods (Hr.One r) w W
theorem Cr.drew {w W : World} {r : Nat} {l : List Int} (h : Cr w r l W) : Cr w r l W.drew := ⟨h.c, h.f, h.m.drew⟩
theorem Cr.set {w W : World} {r : Nat} {l : List Int} (h : Cr w r l W) (i : Nat) (hi : i < l.length) (x : Int) : Cr w r (l.set i x) (W.setCell ⟨r, i, none⟩ (.int .u32 x)) := by
  refine ⟨fun k hk => ?_, fun k => by rw [World.frozen?_setCell]; exact h.f k, h.m.set (p := ⟨r, i, none⟩) _ (.inl rfl)⟩
  have hk' : k < l.length := by simpa using hk
  by_cases e : i = k
  · subst e
    rw [World.cell?_setCell_same (h := h.c i hi)]
    simp [List.getD, hi]
  · rw [World.cell?_setCell_other (h := show (⟨r, i, none⟩ : Addr) ≠ ⟨r, k, none⟩ by intro q; injection q with q1 q2 q3; exact e q2), h.c k hk']
    congr 2
    simp [List.getD, List.getElem?_set, e]
theorem Cr.congr {w W : World} {r : Nat} {l m : List Int} (h : Cr w r l W) (e : l = m) : Cr w r m W := e ▸ h

set_option maxHeartbeats 2000000 in
set_option maxRecDepth 100000 in
theorem rev2 (x y : Int) (r cap : Nat) (w : World) (h : Cr w r [x, y] w) : Calls Tryz.prog 67 #[.slice (some ⟨r, 0, none⟩) 2 cap] w fun e w' => e = .returned (.tuple #[]) ∧ Cr w r [y, x] w' := by
  have H := Lib.hid h
  clear h
  go_enter Tryz.func67, Tryz.ntmps67
  go_wp2
  go_loopw [2, 3] (fun i j W => (i = .int .i64 0 ∧ j = .int .i64 1 ∧ Cr w r [x, y] W) ∨ (i = .int .i64 1 ∧ j = .int .i64 0 ∧ Cr w r [y, x] W)) (fun i _ _ => 2 - (intOf i).toNat)
  case atStart => exact .inl ⟨rfl, rfl, H.out⟩
  case round =>
    rcases hrel with ⟨rfl, rfl, hC⟩ | ⟨rfl, rfl, hC⟩
    · have HD := Lib.hid hC.drew
      have HN : Hid (Cr w r [y, x] ((wr.drew.setCell ⟨r, 0, none⟩ (.int .u32 y)).setCell ⟨r, 1, none⟩ (.int .u32 x))) := ((HD.out.set 0 (by simp) y).set 1 (by simp) x)
      have c1' : wr.cell? ⟨r, 0, none⟩ = some (.int .u32 x) := hC.c 0 (by simp)
      have c2' : wr.cell? ⟨r, 1, none⟩ = some (.int .u32 y) := hC.c 1 (by simp)
      have f1' := hC.f 0
      have f2' := hC.f 1
      have c1 : wr.drew.cell? ⟨r, 0, none⟩ = some (.int .u32 x) := c1'
      have c2 : wr.drew.cell? ⟨r, 1, none⟩ = some (.int .u32 y) := c2'
      have f1 := HD.out.f 0
      have f2 := HD.out.f 1
      clear hC
      go_wp2
      go_region
      go_wp2
      go_roundw
      case rel => exact (.inr ⟨rfl, rfl, HN.out⟩)
      case measure => simp [intOf]
    · have HD := Lib.hid hC
      clear hC
      go_wp2
      first | go_end0 | (refine bodyPost_ret (results_none rfl _ _ _) rfl ?_)
      exact ⟨rfl, HD.out⟩

set_option maxHeartbeats 2000000 in
set_option maxRecDepth 100000 in
theorem rev3 (x y z : Int) (r cap : Nat) (w : World) (h : Cr w r [x, y, z] w) : Calls Tryz.prog 67 #[.slice (some ⟨r, 0, none⟩) 3 cap] w fun e w' => e = .returned (.tuple #[]) ∧ Cr w r [z, y, x] w' := by
  have H := Lib.hid h
  clear h
  go_enter Tryz.func67, Tryz.ntmps67
  go_wp2
  go_loopw [2, 3] (fun i j W => (i = .int .i64 0 ∧ j = .int .i64 2 ∧ Cr w r [x, y, z] W) ∨ (i = .int .i64 1 ∧ j = .int .i64 1 ∧ Cr w r [z, y, x] W)) (fun i _ _ => 3 - (intOf i).toNat)
  case atStart => exact .inl ⟨rfl, rfl, H.out⟩
  case round =>
    rcases hrel with ⟨rfl, rfl, hC⟩ | ⟨rfl, rfl, hC⟩
    · have HD := Lib.hid hC.drew
      have HN : Hid (Cr w r [z, y, x] ((wr.drew.setCell ⟨r, 0, none⟩ (.int .u32 z)).setCell ⟨r, 2, none⟩ (.int .u32 x))) := ((HD.out.set 0 (by simp) z).set 2 (by simp) x)
      have c1' : wr.cell? ⟨r, 0, none⟩ = some (.int .u32 x) := hC.c 0 (by simp)
      have c2' : wr.cell? ⟨r, 2, none⟩ = some (.int .u32 z) := hC.c 2 (by simp)
      have f1' := hC.f 0
      have f2' := hC.f 2
      have c1 : wr.drew.cell? ⟨r, 0, none⟩ = some (.int .u32 x) := c1'
      have c2 : wr.drew.cell? ⟨r, 2, none⟩ = some (.int .u32 z) := c2'
      have f1 := HD.out.f 0
      have f2 := HD.out.f 2
      clear hC
      go_wp2
      go_region
      go_wp2
      go_roundw
      case rel => exact (.inr ⟨rfl, rfl, HN.out⟩)
      case measure => simp [intOf]
    · have HD := Lib.hid hC
      clear hC
      go_wp2
      first | go_end0 | (refine bodyPost_ret (results_none rfl _ _ _) rfl ?_)
      exact ⟨rfl, HD.out⟩

set_option maxHeartbeats 2000000 in
set_option maxRecDepth 100000 in
theorem rev4 (x y z u : Int) (r cap : Nat) (w : World) (h : Cr w r [x, y, z, u] w) : Calls Tryz.prog 67 #[.slice (some ⟨r, 0, none⟩) 4 cap] w fun e w' => e = .returned (.tuple #[]) ∧ Cr w r [u, z, y, x] w' := by
  have H := Lib.hid h
  clear h
  go_enter Tryz.func67, Tryz.ntmps67
  go_wp2
  go_loopw [2, 3] (fun i j W => (i = .int .i64 0 ∧ j = .int .i64 3 ∧ Cr w r [x, y, z, u] W) ∨ (i = .int .i64 1 ∧ j = .int .i64 2 ∧ Cr w r [u, y, z, x] W) ∨ (i = .int .i64 2 ∧ j = .int .i64 1 ∧ Cr w r [u, z, y, x] W)) (fun i _ _ => 4 - (intOf i).toNat)
  case atStart => exact .inl ⟨rfl, rfl, H.out⟩
  case round =>
    rcases hrel with ⟨rfl, rfl, hC⟩ | ⟨rfl, rfl, hC⟩ | ⟨rfl, rfl, hC⟩
    · have HD := Lib.hid hC.drew
      have HN : Hid (Cr w r [u, y, z, x] ((wr.drew.setCell ⟨r, 0, none⟩ (.int .u32 u)).setCell ⟨r, 3, none⟩ (.int .u32 x))) := ((HD.out.set 0 (by simp) u).set 3 (by simp) x)
      have c1' : wr.cell? ⟨r, 0, none⟩ = some (.int .u32 x) := hC.c 0 (by simp)
      have c2' : wr.cell? ⟨r, 3, none⟩ = some (.int .u32 u) := hC.c 3 (by simp)
      have f1' := hC.f 0
      have f2' := hC.f 3
      have c1 : wr.drew.cell? ⟨r, 0, none⟩ = some (.int .u32 x) := c1'
      have c2 : wr.drew.cell? ⟨r, 3, none⟩ = some (.int .u32 u) := c2'
      have f1 := HD.out.f 0
      have f2 := HD.out.f 3
      clear hC
      go_wp2
      go_region
      go_wp2
      go_roundw
      case rel => exact (.inr (.inl ⟨rfl, rfl, HN.out⟩))
      case measure => simp [intOf]
    · have HD := Lib.hid hC.drew
      have HN : Hid (Cr w r [u, z, y, x] ((wr.drew.setCell ⟨r, 1, none⟩ (.int .u32 z)).setCell ⟨r, 2, none⟩ (.int .u32 y))) := ((HD.out.set 1 (by simp) z).set 2 (by simp) y)
      have c1' : wr.cell? ⟨r, 1, none⟩ = some (.int .u32 y) := hC.c 1 (by simp)
      have c2' : wr.cell? ⟨r, 2, none⟩ = some (.int .u32 z) := hC.c 2 (by simp)
      have f1' := hC.f 1
      have f2' := hC.f 2
      have c1 : wr.drew.cell? ⟨r, 1, none⟩ = some (.int .u32 y) := c1'
      have c2 : wr.drew.cell? ⟨r, 2, none⟩ = some (.int .u32 z) := c2'
      have f1 := HD.out.f 1
      have f2 := HD.out.f 2
      clear hC
      go_wp2
      go_region
      go_wp2
      go_roundw
      case rel => exact (.inr (.inr ⟨rfl, rfl, HN.out⟩))
      case measure => simp [intOf]
    · have HD := Lib.hid hC
      clear hC
      go_wp2
      first | go_end0 | (refine bodyPost_ret (results_none rfl _ _ _) rfl ?_)
      exact ⟨rfl, HD.out⟩
end Go.Proofs.YteohkobdmkbcpaaGreatDoor.Cs
