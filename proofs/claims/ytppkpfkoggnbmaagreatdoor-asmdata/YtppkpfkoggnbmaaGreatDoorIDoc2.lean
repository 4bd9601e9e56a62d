/- The document's own reckoning of layer 10: put; bytes of a text in a row of the call's own. -/
import Derived.Test.YtppkpfkoggnbmaaGreatDoorIDoc1
namespace Go.Proofs.YtppkpfkoggnbmaaGreatDoor.Cs.Ia
open Go.RowKit

theorem under_bytes : Tryz.prog.underlying 22 = some (.slice 5) := by kernel_rfl
theorem under_byte : Tryz.prog.underlying 5 = some (.int .u8) := by kernel_rfl
theorem under_str : Tryz.prog.underlying 9 = some .string := by kernel_rfl

/-- Block b begins with these bytes. -/
def By (w : World) (b : Nat) (l : List UInt8) : Prop :=
  ∃ (cur : Array Value) (lo hi : Nat), w.heap[b]? = some (.cells cur 5 (lo, hi)) ∧ l.length ≤ lo ∧ ∀ j, j < l.length → cur[j]? = some (.int .u8 ((l.getD j 0).toNat : Int))
section
variable {w w' : World} {b : Nat} {l : List UInt8}
theorem By.cell (h : By w b l) {j : Nat} (hj : j < l.length) : w.cell? ⟨b, j, none⟩ = some (.int .u8 ((l.getD j 0).toNat : Int)) := by
  obtain ⟨cur, lo, hi, hb, _, hc⟩ := h
  simp only [World.cell?, hb]
  exact hc j hj
theorem By.free (h : By w b l) {j : Nat} (hj : j < l.length) : w.frozen? ⟨b, j, none⟩ = false := by
  obtain ⟨cur, lo, hi, hb, hl, _⟩ := h
  simp only [World.frozen?, hb]
  simp
  omega
theorem By.set (h : By w b l) (j : Nat) (x : UInt8) : By (w.setCell ⟨b, j, none⟩ (.int .u8 (x.toNat : Int))) b (l.set j x) := by
  obtain ⟨cur, lo, hi, hb, hl, hc⟩ := h
  refine ⟨cur.setIfInBounds j (.int .u8 (x.toNat : Int)), lo, hi, by simp [World.setCell, Array.getElem?_modify, hb], by simpa using hl, fun i hi => ?_⟩
  rw [List.length_set] at hi
  have := hc i hi
  rw [Array.getElem?_setIfInBounds]
  have hs : i < cur.size := by
    rcases Nat.lt_or_ge i cur.size with h | h
    · exact h
    · rw [Array.getElem?_eq_none h] at this; cases this
  by_cases e : j = i
  · subst e
    simp [hs, hi, List.getD]
  · simp only [if_neg e, this]
    simp [List.getD, e]
theorem By.lt (h : By w b l) : b < w.heap.size := by obtain ⟨cur, lo, hi, hb, _⟩ := h; exact lt_of_heap hb
theorem By.string (h : By w b l) (c : Nat) : (convert 22 9 (.slice (some ⟨b, 0, none⟩) l.length c)).run Tryz.prog w = .ok (.string (sb l)) w :=
  run_convert_bytes_back w _ _ _ ⟨b, 0, none⟩ c l under_bytes under_byte under_str (fun j hj => by
    have := h.cell hj
    rw [Addr.add_lit]
    simpa [List.getD, hj] using this)
end
/-- The bytes of a text, laid in a row. -/
theorem run_bytes (l : List UInt8) (w : World) : ∃ c w', (convert 9 22 (.string (sb l))).run Tryz.prog w = .ok (.slice (some ⟨w.heap.size, 0, none⟩) l.length c) w' ∧ Hid (By w' w.heap.size l ∧ Below w.heap.size w w' ∧ w.heap.size < w'.heap.size) := by
  have h := run_bytes_of_string (P := Tryz.prog) w _ _ _ (sb l) under_str under_bytes under_byte
  rw [sb_size] at h
  refine ⟨_, _, h, ⟨_, _, _, heap_alloc_new w.drew _, ?_, fun j hj => ?_⟩, ((Below.refl _ w).drew).alloc (Nat.le_refl _) _, by simp [World.alloc]⟩
  · simp [bytesRow]
  · unfold bytesRow
    rw [Array.getElem?_append_left (by simpa using hj)]
    simp [List.getD, hj]

/-- A sign of a size's text. -/
def pu (s g c : UInt8) : UInt8 := if c = 120 then s else if c = 88 then g else c
/-- The first k signs are turned. -/
def pk (s g : UInt8) (l : List UInt8) (k : Nat) : List UInt8 := (l.take k).map (pu s g) ++ l.drop k
theorem pk_len (s g : UInt8) (l : List UInt8) (k : Nat) : (pk s g l k).length = l.length := by simp [pk]; omega
theorem pk_get (s g : UInt8) (l : List UInt8) (k : Nat) (h : k < l.length) : (pk s g l k).getD k 0 = l.getD k 0 := by
  unfold pk
  rw [List.getD_eq_getElem?_getD, List.getElem?_append_right (by simp; omega)]
  simp [List.getD, show min k l.length = k by omega]
theorem pk_succ (s g : UInt8) (l : List UInt8) (k : Nat) (h : k < l.length) : pk s g l (k + 1) = (pk s g l k).set k (pu s g (l.getD k 0)) := by
  have e1 : l.drop k = l.getD k 0 :: l.drop (k + 1) := by rw [List.drop_eq_getElem_cons h]; simp [List.getD, h]
  have e2 : l.take (k + 1) = l.take k ++ [l.getD k 0] := by rw [List.take_succ_eq_append_getElem h]; simp [List.getD, h]
  have e3 : ((l.take k).map (pu s g)).length = k := by simp; omega
  unfold pk
  rw [e1, e2, List.set_append_right _ _ (by omega), e3, Nat.sub_self, List.set_cons_zero]
  simp only [List.map_append, List.map_cons, List.map_nil, List.append_assoc, List.singleton_append]
theorem set_same (l : List UInt8) (k : Nat) (h : k < l.length) : l.set k (l.getD k 0) = l := by
  apply List.ext_getElem?
  intro i
  rw [List.getElem?_set]
  by_cases e : k = i
  · subst e; simp [List.getD, h]
  · simp [e]
theorem pk_all (s g : UInt8) (l : List UInt8) : pk s g l l.length = l.map (pu s g) := by simp [pk]

/-- Rounds of put. -/
structure Pkd (w : World) (n : Nat) (b : Nat) (l : List UInt8) (wr : World) : Prop where
  by_ : By wr b l
  len : l.length = n
  ab : w.heap.size ≤ b
  bel : Below w.heap.size w wr
theorem Pkd.set {w wr : World} {n b : Nat} {l : List UInt8} (h : Pkd w n b l wr) (j : Nat) (x : UInt8) : Pkd w n b (l.set j x) (wr.setCell ⟨b, j, none⟩ (.int .u8 (x.toNat : Int))) :=
  ⟨h.by_.set j x, by simpa using h.len, h.ab, h.bel.setCell h.ab _⟩

set_option maxHeartbeats 1600000 in
set_option maxRecDepth 100000 in
theorem put_any (l : List UInt8) (s g : UInt8) (w : World) (hl : l.length ≤ 1000) :
    Calls Tryz.prog 90 #[.string (sb l), .int .u8 (s.toNat : Int), .int .u8 (g.toNat : Int)] w fun e w' => e = .returned (.string (sb (l.map (pu s g)))) ∧ Below w.heap.size w w' := by
  obtain ⟨cap, w1, hrun, HB⟩ := run_bytes l w
  have HP : Hid (Pkd w l.length w.heap.size (pk s g l 0) w1) := ⟨by simpa [pk] using HB.out.1, by simp [pk], Nat.le_refl _, HB.out.2.1⟩
  clear HB
  generalize hn : l.length = n at *
  have HN := Lib.hid hn
  generalize hb : w.heap.size = b at hrun HP
  clear hn
  go_enter Tryz.func90, Tryz.ntmps90
  go_wp2
  go_loopw [14] (fun i wr => ∃ k : Nat, k ≤ n ∧ i = .int .i64 k ∧ Pkd w n b (pk s g l k) wr) (fun i _ => n - (intOf i).toNat)
  case atStart => exact ⟨0, Nat.zero_le _, rfl, HP.out⟩
  case round =>
    obtain ⟨k, hk, rfl, hP⟩ := hrel
    have HR := Lib.hid hP
    by_cases hlt : k < n
    · have hkl : k < (pk s g l k).length := by rw [hP.len]; exact hlt
      have hkl' : k < l.length := by rw [HN.out]; exact hlt
      have hc := hP.by_.cell hkl
      have hf := hP.by_.free hkl
      rw [pk_get s g l k hkl'] at hc
      have HS : Hid (pk s g l (k + 1) = (pk s g l k).set k (pu s g (l.getD k 0))) := pk_succ s g l k hkl'
      have HE : Hid ((pk s g l k).set k (l.getD k 0) = pk s g l k) := by have := set_same (pk s g l k) k hkl; rw [pk_get s g l k hkl'] at this; exact this
      clear hP hkl hkl'
      generalize l.getD k 0 = x at *
      by_cases h1 : x = 120
      · have e : pu s g x = s := by simp [pu, h1]
        rw [e] at HS
        have HP2 := Lib.hid (HR.out.set k s)
        rw [← HS.out] at HP2
        have hx : ((x.toNat : Nat) : Int) = 120 := by rw [h1]; rfl
        rw [hx] at hc
        clear e h1 HS HE
        go_wp2
        go_roundw
        case rel => exact ⟨k + 1, by omega, by go_num, HP2.out⟩
        case measure => first | (simp [intOf]; done) | (simp [intOf]; omega)
      · by_cases h2 : x = 88
        · have e : pu s g x = g := by simp [pu, h2]
          rw [e] at HS
          have HP2 := Lib.hid (HR.out.set k g)
          rw [← HS.out] at HP2
          have hx : ((x.toNat : Nat) : Int) = 88 := by rw [h2]; rfl
          rw [hx] at hc
          clear e h2 HS HE
          go_wp2
          go_roundw
          case rel => exact ⟨k + 1, by omega, by go_num, HP2.out⟩
          case measure => first | (simp [intOf]; done) | (simp [intOf]; omega)
        · have e : pu s g x = x := by simp [pu, h1, h2]
          rw [e, HE.out] at HS
          have HP2 := HR
          rw [← HS.out] at HP2
          have b1 : ((x.toNat : Int) == 120) = false := by
            have : x.toNat ≠ 120 := fun h => h1 (by rw [← UInt8.toNat_inj]; exact h)
            simp; omega
          have b2 : ((x.toNat : Int) == 88) = false := by
            have : x.toNat ≠ 88 := fun h => h2 (by rw [← UInt8.toNat_inj]; exact h)
            simp; omega
          clear e h1 h2 HS HE
          generalize (x.toNat : Int) = y at *
          go_wp2
          go_roundw
          case rel => exact ⟨k + 1, by omega, by go_num, HP2.out⟩
          case measure => first | (simp [intOf]; done) | (simp [intOf]; omega)
    · obtain rfl : k = n := by omega
      have hs := hP.by_.string cap
      rw [hP.len] at hs
      have hbel := hP.bel
      have HA : Hid (pk s g l k = l.map (pu s g)) := by have := pk_all s g l; rw [HN.out] at this; exact this
      clear hP
      go_wp2
      go_ret
      refine ⟨?_, hb ▸ hbel⟩
      show Ending.returned (.string (sb (pk s g l k))) = _
      rw [HA.out]

end Go.Proofs.YtppkpfkoggnbmaaGreatDoor.Cs.Ia
