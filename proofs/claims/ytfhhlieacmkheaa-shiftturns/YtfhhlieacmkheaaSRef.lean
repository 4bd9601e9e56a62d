/- The document's own: Rot, Span, Ash. -/
import Derived.Test.YtfhhlieacmkheaaSLeaf
namespace Go.Proofs.Ytfhhlieacmkheaa.Cs
open Go.RowKit

theorem ro_as (c : Int) : ro c = (c % 32).toNat := by
  unfold ro sg
  rw [W1]; split <;> omega

set_option maxHeartbeats 400000 in
theorem rrot_any (c x : Int) (q : Bool) (hc : B c) (hx : U x) (w : World) :
    Calls Try.prog 13 #[.int .u8 c, .int .u32 x, .bool q] w fun e w' => e = .returned (.tuple #[.int .u32 (rt x (ro c)), .agg #[.bool (ng (rt x (ro c)) 4), .bool (zr (rt x (ro c)) 4), .bool false, .bool q]]) ∧ Below w.heap.size w w' := by
  have hy : U (rt x (ro c)) := rt_U hx (Nat.le_of_lt (ro_lt c))
  have K3 := fun w => Lib.hid (rsigns_any (rt x (ro c)) 4 z4 hy w)
  have HX := Lib.hid hx
  have h0 := hc.1
  have h1 := hc.2
  have hn := ro_as c
  have hl := ro_lt c
  have hn' : c % 32 = (ro c : Int) := by omega
  have H0 := Lib.hid (rt_0 hx)
  generalize ro c = n at *
  generalize (ng (rt x n) 4) = p1 at *
  generalize (zr (rt x n) 4) = p2 at *
  generalize hY : rt x n = y at *
  have HY := Lib.hid hY
  clear hn hY
  go_enter Try.func13, Try.ntmps13
  go_wp2
  go_loop [1, 9] (fun y i => ∃ k : Nat, k ≤ n ∧ i = .int .i64 k ∧ y = .int .u32 (rt x k)) (fun _ i => n - (intOf i).toNat)
  case atStart => exact ⟨0, Nat.zero_le _, rfl, by rw [H0.out]⟩
  case round =>
    obtain ⟨k, hk, rfl, rfl⟩ := hrel
    have hb : U (rt x k) := rt_U HX.out (by omega)
    have b0 := hb.1
    have b1 := hb.2
    by_cases hlt : k < n
    · have HS := Lib.hid (rt_step HX.out (k := k) (by omega))
      generalize rt x k = y at *
      go_wp2
      go_round
      case rel =>
        exact ⟨k + 1, by omega, by go_num, by rw [HS.out]⟩
      case measure => simp [intOf]; omega
    · have : k = n := by omega
      subst this
      rw [HY.out]
      go_wp2_with fail
      refine (K3 _).out.mono ?_
      rintro e w1 ⟨rfl, hb1⟩
      obtain ⟨hc, hf⟩ := bcell hb1
      have hz : w.heap.size < w1.heap.size := by have := hb1.size; simp at this; omega
      go_wp2
      go_region
      go_wp2
      exact bodyPost_ret (v := .tuple #[.int .u32 y, .agg #[.bool p1, .bool p2, .bool false, .bool q]]) (by simp [results, Try.results13, go_sem, hc, hz]) rfl ⟨rfl, by
        refine Below.drew (Below.alloc ?_ (by simp; omega) _)
        iterate 4 refine Below.setCell ?_ (by simp) _
        exact ((Below.refl _ _).alloc (Nat.le_refl _) _).trans (hb1.mono (by simp))⟩

theorem sp_0 (a : Int) : sp a 0 = 0 := by unfold sp; simp
theorem sp_more (a : Int) (k : Nat) (h : k = 0 ∨ (a % 8 + k) % 8 = 0) : sp a ((k + 1 : Nat) : Int) = sp a k + 1 := by
  unfold sp
  have : ((k + 1 : Nat) : Int) = k + 1 := by omega
  rw [this, if_neg (by omega)]
  split <;> omega
theorem sp_same (a : Int) (k : Nat) (h0 : k ≠ 0) (h : (a % 8 + k) % 8 ≠ 0) : sp a ((k + 1 : Nat) : Int) = sp a k := by
  unfold sp
  have : ((k + 1 : Nat) : Int) = k + 1 := by omega
  rw [this, if_neg (by omega), if_neg (by omega)]
  omega
theorem sp_bound (a : Int) (k : Nat) (h : k ≤ 32) : 0 ≤ sp a k ∧ sp a k ≤ 6 := by
  unfold sp
  split <;> omega

set_option maxHeartbeats 400000 in
theorem rspan_any (a s : Int) (ha : 0 ≤ a) (hs0 : 0 ≤ s) (hs : s ≤ 32) (w : World) :
    Calls Try.prog 15 #[.int .i64 a, .int .i64 s] w fun e w' => e = .returned (.int .i64 (sp a s)) ∧ w = w' := by
  obtain ⟨n, rfl⟩ := Int.eq_ofNat_of_zero_le hs0
  have hn : n ≤ 32 := by omega
  have M := fun k => Lib.hid (sp_more a k)
  have N := fun k => Lib.hid (sp_same a k)
  have R := fun k => Lib.hid (sp_bound a k)
  have Z := Lib.hid (sp_0 a)
  generalize hr : a % 8 = r at *
  have hr0 : 0 ≤ r := by omega
  have hr1 : r < 8 := by omega
  go_enter Try.func15, Try.ntmps15
  go_wp2
  go_loop [5, 6] (fun v i => ∃ k : Nat, k ≤ n ∧ i = .int .i64 (r + k) ∧ v = .int .i64 (sp a k)) (fun _ i => n + 8 - (intOf i).toNat)
  case atStart => exact ⟨0, Nat.zero_le _, by simp [hr], by simp [Z.out]⟩
  case round =>
    obtain ⟨k, hk, rfl, rfl⟩ := hrel
    obtain ⟨b0, b1⟩ := (R k).out (by omega)
    by_cases hlt : k < n
    · by_cases h0 : k = 0
      · have HS := Lib.hid ((M k).out (.inl h0))
        subst h0
        generalize sp a ((0 : Nat) : Int) = v at *
        go_wp2
        go_round
        case rel => exact ⟨1, by omega, by go_num, by rw [HS.out]⟩
        case measure => simp [intOf]; omega
      · by_cases h1 : (r + k) % 8 = 0
        · have HS := Lib.hid ((M k).out (.inr h1))
          generalize sp a k = v at *
          go_wp2
          go_round
          case rel => exact ⟨k + 1, by omega, by go_num, by rw [HS.out]⟩
          case measure => simp [intOf]; omega
        · have HS := Lib.hid ((N k).out h0 h1)
          have e1 : (r + k == r) = false := by simp; omega
          have e2 : ((r + k) % 8 == 0) = false := by simp; omega
          generalize sp a k = v at *
          go_wp2
          go_round
          case rel => exact ⟨k + 1, by omega, by go_num, by rw [HS.out]⟩
          case measure => simp [intOf]; omega
    · have : k = n := by omega
      subst this
      go_wp2
      go_ret
      exact ⟨rfl, rfl⟩

theorem tmod_2 (v : Int) : (v.tmod 2 == 0) = decide (v % 2 = 0) := by
  rw [Bool.eq_iff_iff]
  simp only [beq_iff_eq, decide_eq_true_eq]
  exact ⟨fun h => Int.emod_eq_zero_of_dvd (Int.dvd_of_tmod_eq_zero h), fun h => Int.tmod_eq_zero_of_dvd (Int.dvd_of_emod_eq_zero h)⟩
theorem tdiv_even {v : Int} (h : v % 2 = 0) : v.tdiv 2 = v / 2 := by
  obtain ⟨k, rfl⟩ : ∃ k, v = 2 * k := ⟨v / 2, by omega⟩
  rw [Int.mul_tdiv_cancel_left _ (by omega)]; omega

set_option maxHeartbeats 400000 in
theorem rash_down (c x : Int) (hc : B c) (hx : U x) (hn : sg c 1 < 0) (w : World) :
    Calls Try.prog 11 #[.int .u8 c, .int .u32 x] w fun e w' => e = .returned (.tuple #[.int .u32 (av (sg c 1) (sg x 4) % 4294967296), .agg #[.bool (ng (av (sg c 1) (sg x 4)) 4), .bool (zr (av (sg c 1) (sg x 4)) 4), .bool (ao (sg c 1) (sg x 4)), .bool false]]) ∧ Below w.heap.size w w' := by
  have hs := sg_bound z1 c
  have hv := sg_32 z4 x
  have hs1 : -128 ≤ sg c 1 := hs.1
  have hc0 := hc.1
  have hc1 := hc.2
  have K1 := fun w => Lib.hid (rsigned_any c 1 z1 ⟨by omega, by omega⟩ w)
  have K2 := fun w => Lib.hid (rsigned_any x 4 z4 hx w)
  have ha := av_bound (n := sg c 1) hv
  have k4 := rbits_any (av (sg c 1) (sg x 4)) 4 z4 (by omega) (by omega)
  have k3 := rsigns_any (av (sg c 1) (sg x 4) % W 4) 4 z4 (U_mod _)
  rw [ng_of_mod z4, zr_of_mod z4] at k3
  rw [W4] at k3 k4
  have K3 := fun w => Lib.hid (k3 w)
  have K4 := fun w => Lib.hid (k4 w)
  have HO := Lib.hid (show ao (sg c 1) (sg x 4) = false by unfold ao; rw [if_pos hn])
  have HV := Lib.hid (show sg x 4 / 2 ^ (-(sg c 1)).toNat = av (sg c 1) (sg x 4) by unfold av; rw [if_pos hn])
  generalize (av (sg c 1) (sg x 4)) = y at *
  generalize (ao (sg c 1) (sg x 4)) = o at *
  generalize ng y 4 = p1 at *
  generalize zr y 4 = p2 at *
  generalize sg c 1 = n at *
  generalize sg x 4 = v at *
  have hB := fun k => Lib.hid (dn_bound hv k)
  clear hs hc k3 k4 hx
  obtain ⟨m, rfl⟩ : ∃ m : Nat, n = -m := ⟨(-n).toNat, by omega⟩
  rw [show (-(-(m : Int))).toNat = m by omega] at HV
  have hm0 : 0 < m := by omega
  have hm1 : m ≤ 128 := by omega
  clear hn hs1 hv
  go_enter Try.func11, Try.ntmps11
  go_wp2_with fail
  refine (K1 _).out.mono ?_
  rintro e w' ⟨rfl, rfl⟩
  go_wp2_with fail
  refine (K2 _).out.mono ?_
  rintro e w' ⟨rfl, rfl⟩
  go_wp2
  go_loop [6, 7] (fun i u => ∃ k : Nat, k ≤ m ∧ i = .int .i64 (k - m) ∧ u = .int .i64 (v / 2 ^ k)) (fun i _ => (-(intOf i)).toNat)
  case atStart => exact ⟨0, Nat.zero_le _, by simp, by simp⟩
  case round =>
    obtain ⟨k, hk, rfl, rfl⟩ := hrel
    obtain ⟨b0, b1⟩ := (hB k).out
    have HS := Lib.hid (dn_step v k)
    by_cases hlt : k < m
    · generalize v / 2 ^ k = u at *
      have h2 := tmod_2 u
      by_cases he : u % 2 = 0
      · rw [decide_eq_true he] at h2
        have hq := tdiv_even he
        go_wp2
        go_round
        case rel => exact ⟨k + 1, by omega, by go_num, by rw [HS.out]⟩
        case measure => simp [intOf]; omega
      · rw [decide_eq_false he] at h2
        have hq : (u - 1).tdiv 2 = u / 2 := by rw [tdiv_even (by omega)]; omega
        go_wp2
        go_round
        case rel => exact ⟨k + 1, by omega, by go_num, by rw [HS.out]⟩
        case measure => simp [intOf]; omega
    · have : k = m := by omega
      subst this
      rw [HV.out]
      go_wp2_with fail
      go_loop [6, 7, 8] (fun i u b => i = .int .i64 0 ∧ u = .int .i64 y ∧ b = .bool false) (fun _ _ _ => 0)
      case atStart => simp
      case round =>
        obtain ⟨rfl, rfl, rfl⟩ := hrel
        go_wp2_with fail
        refine (K4 _).out.mono ?_
        rintro e w' ⟨rfl, rfl⟩
        go_wp2_with fail
        refine (K3 _).out.mono ?_
        rintro e w1 ⟨rfl, hb1⟩
        obtain ⟨hc, hf⟩ := bcell hb1
        have hz : w.heap.size < w1.heap.size := by have := hb1.size; simp at this; omega
        go_wp2
        go_region
        go_wp2
        exact bodyPost_ret (v := .tuple #[.int .u32 (y % 4294967296), .agg #[.bool p1, .bool p2, .bool o, .bool false]]) (by simp [results, Try.results11, go_sem, hc, hz, HO.out]) rfl ⟨rfl, by
          refine Below.drew (Below.alloc ?_ (by simp; omega) _)
          iterate 4 refine Below.setCell ?_ (by simp) _
          exact ((Below.refl _ _).alloc (Nat.le_refl _) _).trans (hb1.mono (by simp))⟩

set_option maxHeartbeats 400000 in
theorem rash_up (c x : Int) (hc : B c) (hx : U x) (hn : 0 ≤ sg c 1) (w : World) :
    Calls Try.prog 11 #[.int .u8 c, .int .u32 x] w fun e w' => e = .returned (.tuple #[.int .u32 (av (sg c 1) (sg x 4) % 4294967296), .agg #[.bool (ng (av (sg c 1) (sg x 4)) 4), .bool (zr (av (sg c 1) (sg x 4)) 4), .bool (ao (sg c 1) (sg x 4)), .bool false]]) ∧ Below w.heap.size w w' := by
  have hs := sg_bound z1 c
  have hv := sg_32 z4 x
  have hs1 : sg c 1 < 128 := hs.2
  have hc0 := hc.1
  have hc1 := hc.2
  have K1 := fun w => Lib.hid (rsigned_any c 1 z1 ⟨by omega, by omega⟩ w)
  have K2 := fun w => Lib.hid (rsigned_any x 4 z4 hx w)
  have ha := av_bound (n := sg c 1) hv
  have k4 := rbits_any (av (sg c 1) (sg x 4)) 4 z4 (by omega) (by omega)
  have k3 := rsigns_any (av (sg c 1) (sg x 4) % W 4) 4 z4 (U_mod _)
  rw [ng_of_mod z4, zr_of_mod z4] at k3
  rw [W4] at k3 k4
  have K3 := fun w => Lib.hid (k3 w)
  have K4 := fun w => Lib.hid (k4 w)
  have HO := Lib.hid (show ov (sg x 4) (sg c 1).toNat = ao (sg c 1) (sg x 4) by unfold ao; rw [if_neg (by omega)])
  have HV := Lib.hid (show up (sg x 4) (sg c 1).toNat = av (sg c 1) (sg x 4) by unfold av; rw [if_neg (by omega)])
  generalize (av (sg c 1) (sg x 4)) = y at *
  generalize (ao (sg c 1) (sg x 4)) = o at *
  generalize ng y 4 = p1 at *
  generalize zr y 4 = p2 at *
  generalize sg c 1 = n at *
  generalize sg x 4 = v at *
  have E0 := Lib.hid (up_0 hv)
  have F0 := Lib.hid (ov_0 hv)
  clear hs hc k3 k4 hx
  obtain ⟨m, rfl⟩ := Int.eq_ofNat_of_zero_le hn
  rw [show ((m : Int)).toNat = m by omega] at HV HO
  have hm1 : m < 128 := by omega
  clear hs1 hv
  go_enter Try.func11, Try.ntmps11
  go_wp2_with fail
  refine (K1 _).out.mono ?_
  rintro e w' ⟨rfl, rfl⟩
  go_wp2_with fail
  refine (K2 _).out.mono ?_
  rintro e w' ⟨rfl, rfl⟩
  go_wp2
  go_loop [6, 7] (fun i u => i = .int .i64 m ∧ u = .int .i64 v) (fun _ _ => 0)
  case atStart => exact ⟨rfl, rfl⟩
  case round =>
    obtain ⟨rfl, rfl⟩ := hrel
    go_wp2_with fail
    go_loop [6, 7, 8] (fun i u b => ∃ k : Nat, k ≤ m ∧ i = .int .i64 (m - k) ∧ u = .int .i64 (up v k) ∧ b = .bool (ov v k)) (fun i _ _ => (intOf i).toNat)
    case atStart => exact ⟨0, Nat.zero_le _, by simp, by rw [E0.out], by rw [F0.out]⟩
    case round =>
      obtain ⟨k, hk, rfl, rfl, rfl⟩ := hrel
      obtain ⟨b0, b1⟩ := up_bound v k
      have HS := Lib.hid (up_step v k)
      have HT := Lib.hid (ov_step v k)
      have HU := Lib.hid (@up_fit v k)
      by_cases hlt : k < m
      · generalize up v k = u at *
        generalize ov v k = b at *
        have KF := fun w => Lib.hid (rfits_any (2 * u) 4 z4 w)
        have kB := rbits_any (2 * u) 4 z4 (by omega) (by omega)
        have kS := rsigned_any (2 * u % W 4) 4 z4 (U_mod _)
        rw [sg_of_mod z4] at kS
        rw [W4] at kB kS
        have KB := fun w => Lib.hid (kB w)
        have KS := fun w => Lib.hid (kS w)
        clear kB kS
        cases hf : ft (2 * u) 4
        · rw [hf] at KF HT HU
          go_wp2_with fail
          refine (KF _).out.mono ?_
          rintro e w' ⟨rfl, rfl⟩
          go_wp2_with fail
          refine (KB _).out.mono ?_
          rintro e w' ⟨rfl, rfl⟩
          go_wp2_with fail
          refine (KS _).out.mono ?_
          rintro e w' ⟨rfl, rfl⟩
          go_wp2
          go_round
          case rel => exact ⟨k + 1, by omega, by go_num, by rw [HS.out], by rw [HT.out]; simp⟩
          case measure => simp [intOf]; omega
        · rw [hf] at KF HT HU
          go_wp2_with fail
          refine (KF _).out.mono ?_
          rintro e w' ⟨rfl, rfl⟩
          go_wp2
          go_round
          case rel => exact ⟨k + 1, by omega, by go_num, by rw [HU.out trivial], by rw [HT.out]; simp⟩
          case measure => simp [intOf]; omega
      · have : k = m := by omega
        subst this
        rw [HV.out, HO.out]
        go_wp2_with fail
        refine (K4 _).out.mono ?_
        rintro e w' ⟨rfl, rfl⟩
        go_wp2_with fail
        refine (K3 _).out.mono ?_
        rintro e w1 ⟨rfl, hb1⟩
        obtain ⟨hc, hf⟩ := bcell hb1
        have hz : w.heap.size < w1.heap.size := by have := hb1.size; simp at this; omega
        go_wp2
        go_region
        go_wp2
        exact bodyPost_ret (v := .tuple #[.int .u32 (y % 4294967296), .agg #[.bool p1, .bool p2, .bool o, .bool false]]) (by simp [results, Try.results11, go_sem, hc, hz]) rfl ⟨rfl, by
          refine Below.drew (Below.alloc ?_ (by simp; omega) _)
          iterate 4 refine Below.setCell ?_ (by simp) _
          exact ((Below.refl _ _).alloc (Nat.le_refl _) _).trans (hb1.mono (by simp))⟩

theorem rash_any (c x : Int) (hc : B c) (hx : U x) (w : World) :
    Calls Try.prog 11 #[.int .u8 c, .int .u32 x] w fun e w' => e = .returned (.tuple #[.int .u32 (av (sg c 1) (sg x 4) % 4294967296), .agg #[.bool (ng (av (sg c 1) (sg x 4)) 4), .bool (zr (av (sg c 1) (sg x 4)) 4), .bool (ao (sg c 1) (sg x 4)), .bool false]]) ∧ Below w.heap.size w w' := by
  by_cases h : sg c 1 < 0
  · exact rash_down c x hc hx h w
  · exact rash_up c x hc hx (by omega) w

end Go.Proofs.Ytfhhlieacmkheaa.Cs
