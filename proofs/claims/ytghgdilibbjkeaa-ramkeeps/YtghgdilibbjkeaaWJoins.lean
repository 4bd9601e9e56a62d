/- The walk of RamJoins. -/
import Derived.Test.YtghgdilibbjkeaaRAlive
namespace Go.Proofs.Ytghgdilibbjkeaa.Cs
open Go.RowKit

/-- A slice of bytes that came in, read as a list. -/
theorem src_of_row {w : World} {A : Option Addr} {len cap : Nat} {zs : List Int}
    (h : (A = none ∧ len = 0 ∧ cap = 0 ∧ zs = []) ∨ ∃ x : Addr, A = some x ∧ len ≤ cap ∧ cap ≤ maxLen ∧ zs.length = cap ∧ (∀ i, i < zs.length → w.cell? (x.add i) = some (.int .u8 (zs.getD i 0))) ∧ ∀ n ∈ zs, (Lit.int .u8 n).wf = true) :
    ∃ ys : List Int, ys.length = len ∧ Byt ys ∧ Src w A ys := by
  rcases h with ⟨rfl, rfl, rfl, rfl⟩ | ⟨x, rfl, hl, hm, hz, hc, hw⟩
  · exact ⟨[], rfl, fun x hx => by simp at hx, fun h0 => by simp at h0⟩
  · have hlen : (zs.take len).length = len := by simp; omega
    refine ⟨zs.take len, hlen, fun y hy => ?_, fun h0 => ⟨x, rfl, ?_, fun j v hv => ?_⟩⟩
    · have := bounds_u8 (hw y (List.mem_of_mem_take hy))
      omega
    · have h1 := hc 0 (by omega)
      have h2 : (x.add 0).block < w.heap.size := by
        rcases Nat.lt_or_ge (x.add 0).block w.heap.size with hlt | hge
        · exact hlt
        · unfold World.cell? at h1
          rw [Array.getElem?_eq_none hge] at h1
          simp at h1
      rwa [block_add] at h2
    · have hj := (List.getElem?_eq_some_iff.1 hv).1
      rw [cel_length, hlen] at hj
      rw [cel_get _ j (by omega)] at hv
      rw [← hv, hc j (by omega)]
      simp [List.getD, hj]

theorem val4 (ys : List Int) (a : Nat) (h : a + 4 ≤ ys.length) : val ys a 4 = ys.getD a 0 + 256 * ys.getD (a + 1) 0 + 65536 * ys.getD (a + 2) 0 + 16777216 * ys.getD (a + 3) 0 := by
  rw [val_succ ys a 3 (by omega), val_succ ys a 2 (by omega), val_succ ys a 1 (by omega), val_succ ys a 0 (by omega)]
  simp [val, num]
theorem val2 (ys : List Int) (a : Nat) (h : a + 2 ≤ ys.length) : val ys a 2 = ys.getD a 0 + 256 * ys.getD (a + 1) 0 := by
  rw [val_succ ys a 1 (by omega), val_succ ys a 0 (by omega)]
  simp [val, num]
theorem val1 (ys : List Int) (a : Nat) (h : a + 1 ≤ ys.length) : val ys a 1 = ys.getD a 0 := by
  rw [val_succ ys a 0 (by omega)]
  simp [val, num]

theorem joins_halves (ys : List Int) (a : Nat) (h : a + 4 ≤ ys.length) : val ys a 2 + 65536 * val ys (a + 2) 2 = val ys a 4 := by
  rw [val4 ys a h, val2 ys a (by omega), val2 ys (a + 2) (by omega), show a + 2 + 1 = a + 3 from rfl]
  omega
theorem joins_bytes (ys : List Int) (a k : Nat) (hb : Byt ys) (h : a + 4 ≤ ys.length) (hk : k < 4) : val ys a 4 / 2 ^ (8 * k) % 256 = val ys (a + k) 1 := by
  have h0 := hb.at_ a
  have h1 := hb.at_ (a + 1)
  have h2 := hb.at_ (a + 2)
  have h3 := hb.at_ (a + 3)
  rw [val4 ys a h, val1 ys (a + k) (by omega)]
  have h4 : k = 0 ∨ k = 1 ∨ k = 2 ∨ k = 3 := by omega
  rcases h4 with rfl | rfl | rfl | rfl
  · rw [show (2 : Int) ^ (8 * 0) = 1 from rfl, show a + 0 = a from rfl]; omega
  · rw [show (2 : Int) ^ (8 * 1) = 256 from rfl]; omega
  · rw [show (2 : Int) ^ (8 * 2) = 65536 from rfl]; omega
  · rw [show (2 : Int) ^ (8 * 3) = 16777216 from rfl]; omega

theorem joins_tmod (ys : List Int) (a k : Nat) (hb : Byt ys) (h : a + 4 ≤ ys.length) (hk : k < 4) : (val ys a 4 / 2 ^ (8 * k)).tmod 256 = val ys (a + k) 1 := by
  rw [Int.tmod_eq_emod_of_nonneg (Int.ediv_nonneg (val_bound ys a hb 4 h).1 (Int.le_of_lt (Int.pow_pos (by omega)))), joins_bytes ys a k hb h hk]

set_option maxHeartbeats 400000 in
theorem joins_long (A : Option Addr) (n c : Nat) (a : Int) (w : World) (hn : 4096 < n) :
    Calls Try.prog 6 #[.slice A n c, .int .u32 a] w fun e w' => e = .returned (.bool true) ∧ Below w.heap.size w w' := by
  have hn' : (4096 : Int) < (n : Int) := by omega
  go_enter Try.func6, Try.ntmps6
  go_wp2_with fail
  refine (ralive _).mono ?_
  rintro e w1 ⟨rfl, hb1⟩
  go_wp2
  go_ret
  exact ⟨rfl, hb1⟩

/-- A memory made, and loaded whole. -/
theorem load_all (g r : Nat) (n c : Nat) (ys : List Int) (A : Option Addr) (w : World) (h : Mem w g r (List.replicate n 0)) (hs : Src w A ys) (hm : ys.length = n) (hby : Byt ys) :
    Calls Try.prog 9 #[.pointer (some ⟨g, 0, none⟩), .int .u32 0, .slice A n c] w fun e w' => e = .returned (.int .i64 0) ∧ Mem w' g r ys ∧ w.grownBy w' (some r) := by
  have := load_ok g r _ ys 0 n c A w h hs hm hby (by simp)
  rw [splice_all n ys hm] at this
  exact this

theorem get_at (g r : Nat) (xs : List Int) (a : Int) (b n : Nat) (ha : a = b) (w : World) (h : Mem w g r xs) (m : Int) (hm : m = n) (hn : n ≤ 4) (hf : b + n ≤ xs.length) :
    Calls Try.prog 13 #[.pointer (some ⟨g, 0, none⟩), .int .u32 a, .int .i64 m] w fun e w' => e = .returned (.tuple #[.int .u32 (val xs b n), .int .i64 0]) ∧ w = w' := by
  subst ha; subst hm; exact get_ok g r xs b n w h hn hf

set_option maxHeartbeats 800000 in
theorem joins_short (A : Option Addr) (n c : Nat) (ys : List Int) (a : Int) (w : World) (hs : Src w A ys) (hm : ys.length = n) (hby : Byt ys) (hn : n ≤ 4096) (ha : 0 ≤ a) (ha' : a < 4294967296) :
    Calls Try.prog 6 #[.slice A n c, .int .u32 a] w fun e w' => e = .returned (.bool true) ∧ Below w.heap.size w w' := by
  have hn' : ¬ (4096 : Int) < (n : Int) := by omega
  have HS := Lib.hid hs
  have HL := Lib.hid hm
  have HY := Lib.hid hby
  clear hs hm hby
  go_enter Try.func6, Try.ntmps6
  go_wp2_with fail
  refine (ralive _).mono ?_
  rintro e w1 ⟨rfl, hb1⟩
  go_wp2_with fail
  refine (new_any n _).mono ?_
  rintro e w2 ⟨g, r, rfl, hg, hr, hm, hb2⟩
  rw [sized_nat n (by omega)] at hm
  have HM := Lib.hid hm
  have HB := Lib.hid (bel_trans hb1 hb2)
  have hr' : w.heap.size ≤ r := by have := hb1.size; omega
  have HS2 := Lib.hid (HS.out.below HB.out)
  clear hm hb1 hb2
  go_wp2_with fail
  refine (load_all g r n c ys A _ HM.out HS2.out HL.out HY.out).mono ?_
  rintro e w3 ⟨rfl, hm3, hb3⟩
  have HM3 := Lib.hid hm3
  have HB3 := Lib.hid (below_of_grown HB.out hb3 HB.out.size hr')
  clear hm3 hb3
  by_cases hf : a + 4 ≤ n
  · obtain ⟨a, rfl⟩ := Int.eq_ofNat_of_zero_le ha
    have hf' : a + 4 ≤ ys.length := by rw [HL.out]; omega
    go_wp2_with fail
    refine (get_at g r ys _ a 4 rfl _ HM3.out _ rfl (by omega) hf').mono ?_
    rintro e w' ⟨rfl, rfl⟩
    go_wp2_with fail
    refine (get_at g r ys _ a 2 rfl _ HM3.out _ rfl (by omega) (by omega)).mono ?_
    rintro e w' ⟨rfl, rfl⟩
    go_wp2_with fail
    refine (get_at g r ys _ (a + 2) 2 (by omega) _ HM3.out _ rfl (by omega) (by omega)).mono ?_
    rintro e w' ⟨rfl, rfl⟩
    have hj := joins_halves ys a hf'
    have b4 := val_bound ys a HY.out 4 (by omega)
    have b2 := val_bound ys a HY.out 2 (by omega)
    have b2' := val_bound ys (a + 2) HY.out 2 (by omega)
    rw [show (256 : Int) ^ 4 = 4294967296 from rfl] at b4
    rw [show (256 : Int) ^ 2 = 65536 from rfl] at b2 b2'
    go_wp2
    have ha2 : a ≤ 4096 := by omega
    clear hj b4 b2 b2' ha ha'
    go_loop [12] (fun i => ∃ k : Nat, k ≤ 4 ∧ i = .int .u32 k) (fun i => 4 - (intOf i).toNat)
    case atStart => exact ⟨0, Nat.zero_le _, rfl⟩
    case round =>
      obtain ⟨k, hk, rfl⟩ := hrel
      by_cases hlt : k < 4
      · have hq := joins_tmod ys a k HY.out hf' hlt
        go_wp2_with fail
        refine (get_at g r ys _ (a + k) 1 (by omega) _ HM3.out _ rfl (by omega) (by omega)).mono ?_
        rintro e w' ⟨rfl, rfl⟩
        go_wp2
        go_round
        case rel => exact ⟨k + 1, by omega, by go_num⟩
        case measure => simp [intOf]; omega
      · go_wp2
        go_ret
        exact ⟨rfl, HB3.out⟩
  · go_wp2_with fail
    refine (get_not g r ys _ _ _ HM3.out (by omega) (by omega) (by rw [HL.out]; omega)).mono ?_
    rintro e w' ⟨rfl, rfl⟩
    go_wp2
    go_ret
    exact ⟨rfl, HB3.out⟩

theorem joins_walk (A : Option Addr) (n c : Nat) (zs : List Int) (a : Int) (w : World)
    (h : (A = none ∧ n = 0 ∧ c = 0 ∧ zs = []) ∨ ∃ x : Addr, A = some x ∧ n ≤ c ∧ c ≤ maxLen ∧ zs.length = c ∧ (∀ i, i < zs.length → w.cell? (x.add i) = some (.int .u8 (zs.getD i 0))) ∧ ∀ n ∈ zs, (Lit.int .u8 n).wf = true)
    (ha : (Lit.int .u32 a).wf = true) :
    Calls Try.prog 6 #[.slice A n c, .int .u32 a] w fun e w' => e = .returned (.bool true) ∧ Below w.heap.size w w' := by
  obtain ⟨ys, hl, hb, hs⟩ := src_of_row h
  have hu := bounds_u32 ha
  by_cases hn : 4096 < n
  · exact joins_long A n c a w hn
  · exact joins_short A n c ys a w hs hl hb (by omega) (by omega) (by omega)

end Go.Proofs.Ytghgdilibbjkeaa.Cs
