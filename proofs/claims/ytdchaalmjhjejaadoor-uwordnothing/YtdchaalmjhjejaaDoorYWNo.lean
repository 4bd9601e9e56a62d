/- The walk of UwordNothing. -/
import Derived.Test.YtdchaalmjhjejaaDoorYLaw
namespace Go.Proofs.YtdchaalmjhjejaaDoor.Cs
open Go.RowKit Go.ChangeShapes Go.WideShapes Tl Tl.Ia
set_option linter.unusedVariables false
set_option linter.unusedSimpArgs false

/-- how many of the first k parts aren't 0 -/
def ctn (x : Int) : Nat → Nat
  | 0 => 0
  | k + 1 => if up x k = 0 then ctn x k else ctn x k + 1
theorem ctn_bd (x : Int) : ∀ k, ctn x k ≤ k
  | 0 => Nat.le_refl _
  | k + 1 => by have := ctn_bd x k; rw [ctn]; split <;> omega
theorem bit_one : ∀ b : Fin 64, ctn (2 ^ b.val) 12 = 1 := by decide
theorem all_up : ∀ k : Fin 12, up 18446744073709551615 k.val = 2 ^ wd k.val - 1 := by decide
def pz : Nat → Int := fun _ => 0
theorem pack_z (w : World) (hg : Gl w) : Calls Tryd.prog 20 #[.agg #[Value.int IntKind.i64 0, Value.int IntKind.i64 0, Value.int IntKind.i64 0, Value.int IntKind.i64 0, Value.int IntKind.i64 0, Value.int IntKind.i64 0, Value.int IntKind.i64 0, Value.int IntKind.i64 0, Value.int IntKind.i64 0, Value.int IntKind.i64 0, Value.int IntKind.i64 0, Value.int IntKind.i64 0]] w fun e w' => e = .returned (.tuple #[.int .u64 0, .int .i64 0]) ∧ Below w.heap.size w w' := by
  have h := pack_any pz w hg
  rw [show gd pz = true by decide, show pn pz = 0 by decide] at h
  exact h
/-- two words in variables -/
structure V2 (w : World) (b c : Nat) (p q : Nat → Int) (W : World) : Prop where
  k1 : Bk W b 23 (cw p)
  k2 : Bk W c 23 (cw q)
  bel : Below w.heap.size w W
  gl : Gl W
theorem V2.below {w W W' : World} {b c : Nat} {p q : Nat → Int} (h : V2 w b c p q W) (m : Below W.heap.size W W') : V2 w b c p q W' :=
  ⟨h.k1.below m, h.k2.below m, bel_trans h.bel m h.bel.size, h.gl.below m⟩

theorem new_word (w : World) (q : Nat → Int) : Bk ((w.alloc (.cells #[Value.int IntKind.i64 0, Value.int IntKind.i64 0, Value.int IntKind.i64 0, Value.int IntKind.i64 0, Value.int IntKind.i64 0, Value.int IntKind.i64 0, Value.int IntKind.i64 0, Value.int IntKind.i64 0, Value.int IntKind.i64 0, Value.int IntKind.i64 0, Value.int IntKind.i64 0, Value.int IntKind.i64 0] 23)).setCells w.heap.size 0 (cw q)) w.heap.size 23 (cw q) ∧ Below w.heap.size w ((w.alloc (.cells #[Value.int IntKind.i64 0, Value.int IntKind.i64 0, Value.int IntKind.i64 0, Value.int IntKind.i64 0, Value.int IntKind.i64 0, Value.int IntKind.i64 0, Value.int IntKind.i64 0, Value.int IntKind.i64 0, Value.int IntKind.i64 0, Value.int IntKind.i64 0, Value.int IntKind.i64 0, Value.int IntKind.i64 0] 23)).setCells w.heap.size 0 (cw q)) :=
  ⟨(Bk.new w 23 (cw fun _ => 0)).whole (cw q) rfl, below_cells _ _ (al1 _ _) (Nat.le_refl _)⟩
theorem new_there (w : World) (q : Nat → Int) : (w.alloc (.cells #[Value.int IntKind.i64 0, Value.int IntKind.i64 0, Value.int IntKind.i64 0, Value.int IntKind.i64 0, Value.int IntKind.i64 0, Value.int IntKind.i64 0, Value.int IntKind.i64 0, Value.int IntKind.i64 0, Value.int IntKind.i64 0, Value.int IntKind.i64 0, Value.int IntKind.i64 0, Value.int IntKind.i64 0] 23)).there w.heap.size 0 (cw q).toArray.size := (Bk.new w 23 (cw fun _ => 0)).there 0 12 (by decide)
/-- while the parts are counted -/
structure Nd (w : World) (r c : Nat) (p q : Nat → Int) (W : World) : Prop where
  k1 : Bk W r 3 (cw p)
  k2 : Bk W c 23 (cw q)
  bel : Below w.heap.size w W
  gl : Gl W
theorem Nd.below {w W W' : World} {r c : Nat} {p q : Nat → Int} (h : Nd w r c p q W) (m : Below W.heap.size W W') : Nd w r c p q W' :=
  ⟨h.k1.below m, h.k2.below m, bel_trans h.bel m h.bel.size, h.gl.below m⟩

set_option maxHeartbeats 6400000 in
set_option maxRecDepth 100000 in
theorem nothing_in (b : Nat) (hb : b < 64) (w : World) (hg : Gl w) :
    Calls Tryd.prog 7 #[.int .i64 (b : Int)] w fun e w' => e = .returned (.bool true) ∧ Below w.heap.size w w' := by
  have q0 : (0 : Int) ≤ (b : Int) := by omega
  have q1 : (b : Int) < 64 := by omega
  obtain ⟨X, hX⟩ : ∃ X : Int, (2 : Int) ^ b = X := ⟨_, rfl⟩
  have x0 : 0 ≤ X := by rw [← hX]; exact Int.le_of_lt (pos2 b)
  have x1 : X < 18446744073709551616 := by
    have h1 : 2 ^ b ≤ 2 ^ 63 := Nat.pow_le_pow_right (n := 2) (by omega) (by omega)
    have h2 := Int.ofNat_le.2 h1
    rw [Int.natCast_pow] at h2
    rw [← hX]
    have : (((2 ^ 63 : Nat) : Nat) : Int) < 18446744073709551616 := by decide
    exact Int.lt_of_le_of_lt h2 this
  have HX : Hid (∀ W, Gl W → Calls Tryd.prog 23 #[.int .u64 (IntKind.u64.wrap (2 ^ b))] W fun e w' => e = .returned (.agg (cw (up X)).toArray) ∧ Below W.heap.size W w') := Lib.hid fun W g => by
    have e : IntKind.u64.wrap (2 ^ b) = X := by rw [hX]; exact wrap_u64 x0 x1
    rw [e]; exact unpack_any X x0 x1 W g
  have HC : Hid (ctn X 12 = 1) := by show ctn X 12 = 1; rw [← hX]; exact bit_one ⟨b, hb⟩
  have HN := Lib.hid (ctn_bd X)
  have HS : Hid (∀ k, ctn X (k + 1) = if up X k = 0 then ctn X k else ctn X k + 1) := fun _ => rfl
  have HM := Lib.hid (unpack_any 18446744073709551615 (by decide) (by decide))
  have HQ : Hid (∀ k, k < 12 → ∃ z : Int, 2 ^ wd k = z ∧ up 18446744073709551615 k = z - 1 ∧ 0 < z ∧ z ≤ 2048) := Lib.hid fun k hk => ⟨_, rfl, all_up ⟨k, hk⟩, pos2 _, small_pow (wd_bd k hk)⟩
  generalize up 18446744073709551615 = m at *
  have HA := Lib.hid (alive_any w hg)
  have HG := Lib.hid hg
  have HZ := Lib.hid pack_z
  have HWA := Lib.hid cw_all
  clear hb hg hX x0 x1
  go_enter Tryd.func7, Tryd.ntmps7
  go_wp2_with (first
    | (go_at_call 9; refine HA.out.mono ?_; rintro e w1 ⟨rfl, hb⟩; replace HG := Lib.hid (HG.out.below hb); have HB := Lib.hid hb; clear hb)
    | (go_at_call 20; refine (HZ.out _ HG.out).mono ?_; rintro e w2 ⟨rfl, hb⟩; replace HG := Lib.hid (HG.out.below hb); replace HB := Lib.hid (bel2 HB.out hb); clear hb)
    | (go_at_call 23; with_reducible refine (HX.out _ HG.out).mono ?_; rintro e w3 ⟨rfl, hb⟩; replace HG := Lib.hid (HG.out.below hb); replace HB := Lib.hid (bel2 HB.out hb); clear hb)
    | (refine wpList_store_mid rfl 23 _ _ rfl w3.heap.size 0 (cw (up X)).toArray rfl rfl (new_there w3 _) wd_size (HWA.out _) ?_; obtain ⟨hk, hb⟩ := new_word w3 (up X); generalize (w3.alloc (.cells #[Value.int IntKind.i64 0, Value.int IntKind.i64 0, Value.int IntKind.i64 0, Value.int IntKind.i64 0, Value.int IntKind.i64 0, Value.int IntKind.i64 0, Value.int IntKind.i64 0, Value.int IntKind.i64 0, Value.int IntKind.i64 0, Value.int IntKind.i64 0, Value.int IntKind.i64 0, Value.int IntKind.i64 0] 23)).setCells w3.heap.size 0 (cw (up X)) = w4 at *; have HK4 := Lib.hid hk; replace HG := Lib.hid (HG.out.below hb); replace HB := Lib.hid (bel2 HB.out hb); clear hb hk)
    | (go_at_call 23; with_reducible refine (HM.out _ HG.out).mono ?_; rintro e w5 ⟨rfl, hb⟩; replace HK4 := Lib.hid (HK4.out.below hb); replace HG := Lib.hid (HG.out.below hb); replace HB := Lib.hid (bel2 HB.out hb); clear hb)
    | (refine wpList_store_mid rfl 23 _ _ rfl w5.heap.size 0 (cw m).toArray rfl rfl (new_there w5 _) wd_size (HWA.out _) ?_; obtain ⟨hk, hb⟩ := new_word w5 m; generalize (w5.alloc (.cells #[Value.int IntKind.i64 0, Value.int IntKind.i64 0, Value.int IntKind.i64 0, Value.int IntKind.i64 0, Value.int IntKind.i64 0, Value.int IntKind.i64 0, Value.int IntKind.i64 0, Value.int IntKind.i64 0, Value.int IntKind.i64 0, Value.int IntKind.i64 0, Value.int IntKind.i64 0, Value.int IntKind.i64 0] 23)).setCells w5.heap.size 0 (cw m) = w6 at *; have HK6 := Lib.hid hk; replace HK4 := Lib.hid (HK4.out.below hb); replace HG := Lib.hid (HG.out.below hb); replace HB := Lib.hid (bel2 HB.out hb); clear hb hk)
    | (refine wl_ld rfl _ rfl w3.heap.size rfl (up X) HK4.out ?_)
    | (go_at_call 14; refine (rparts_any (up X) _).mono ?_; rintro e w7 ⟨r, rfl, hr, hk, hb⟩; have HD : Hid (Nd w r w5.heap.size (up X) m w7) := Lib.hid ⟨hk, HK6.out.below hb, bel2 HB.out hb, HG.out.below hb⟩; clear hb hk hr)
    | fail)
  clear HG HB HK4 HK6 HA HZ HM HX
  generalize w3.heap.size = b3 at *
  generalize w5.heap.size = b5 at *
  go_loopw [5, 31] (fun n i W => ∃ k : Nat, k ≤ 12 ∧ i = .int .i64 k ∧ n = .int .i64 (ctn X k) ∧ Nd w r b5 (up X) m W) (fun _ i _ => 12 - (intOf i).toNat)
  case atStart => exact ⟨0, by omega, rfl, rfl, HD.out⟩
  case round =>
    clear HD
    obtain ⟨k, hk, rfl, rfl, hD⟩ := hrel
    have HD := Lib.hid hD
    by_cases hlt : k < 12
    · have hk' : (k : Int) < 12 := by omega
      have c := hD.k1.cell k _ (cw_get _ k hlt)
      obtain ⟨z, hz, hm, z0, z1⟩ := HQ.out k hlt
      have HK := Lib.hid hlt
      have HCw : Hid (∀ (W : World) (r : Nat), Bk W r 3 (cw fun k => 2 ^ wd k) → W.cell? ⟨r, k, none⟩ = some (.int .i64 z)) := Lib.hid fun W r g => by rw [← hz]; exact g.cell k _ (cw_get _ k hlt)
      have HCm : Hid (∀ (W : World) (r : Nat), Bk W r 3 (cw m) → W.cell? ⟨r, k, none⟩ = some (.int .i64 (z - 1))) := Lib.hid fun W r g => by rw [← hm]; exact g.cell k _ (cw_get _ k hlt)
      have qz : IntKind.i64.wrap (z - 1) = z - 1 := by rw [IntKind.wrap_i64]; omega
      have hn := HS.out k
      have hc := HN.out k
      have e0 := hD.k2.cell 0 _ (cw_get _ 0 (by omega))
      have e1 := hD.k2.cell 1 _ (cw_get _ 1 (by omega))
      have e2 := hD.k2.cell 2 _ (cw_get _ 2 (by omega))
      have e3 := hD.k2.cell 3 _ (cw_get _ 3 (by omega))
      have e4 := hD.k2.cell 4 _ (cw_get _ 4 (by omega))
      have e5 := hD.k2.cell 5 _ (cw_get _ 5 (by omega))
      have e6 := hD.k2.cell 6 _ (cw_get _ 6 (by omega))
      have e7 := hD.k2.cell 7 _ (cw_get _ 7 (by omega))
      have e8 := hD.k2.cell 8 _ (cw_get _ 8 (by omega))
      have e9 := hD.k2.cell 9 _ (cw_get _ 9 (by omega))
      have e10 := hD.k2.cell 10 _ (cw_get _ 10 (by omega))
      have e11 := hD.k2.cell 11 _ (cw_get _ 11 (by omega))
      have HDd : Hid (Nd w r b5 (up X) m wr.drew) := Lib.hid (hD.below (Below.refl _ _).drew)
      clear hD hz hm hlt
      by_cases h0 : up X k = 0
      · rw [if_pos h0] at hn
        rw [h0] at c
        have HH := Lib.hid hn
        clear hn h0
        generalize ctn X k = n at *
        go_wp2
        go_region_with ((first
          | (go_at_call 14; refine (rparts_any m _).mono ?_; rintro e w8 ⟨r8, rfl, hr, hk8, hb⟩; have d8 := HCm.out _ _ hk8; replace HDd := Lib.hid (HDd.out.below hb); (try (clear d9; replace HK9 := Lib.hid (HK9.out.below hb); have d9 := HCw.out _ _ HK9.out)); have HK8 := Lib.hid hk8; clear hb hr hk8)
          | (go_at_call 25; refine (wide_any _).mono ?_; rintro e w9 ⟨r9, rfl, hr, hk9, hb⟩; have d9 := HCw.out _ _ hk9; replace HDd := Lib.hid (HDd.out.below hb); (try (clear d8; replace HK8 := Lib.hid (HK8.out.below hb); have d8 := HCm.out _ _ HK8.out)); have HK9 := Lib.hid hk9; clear hb hr hk9)
          | fail))
        all_goals go_wp2
        all_goals exact ⟨⟨k + 1, by omega, by go_num, by rw [HH.out], HDd.out⟩, by simp [intOf]; omega⟩
      · rw [if_neg h0] at hn
        have HH := Lib.hid hn
        clear hn
        generalize up X k = y at *
        have h1 : (y == 0) = false := by simpa using h0
        have n0 : (0 : Int) ≤ (ctn X k : Int) := by omega
        have n1 : ((ctn X k : Nat) : Int) ≤ 12 := by omega
        generalize ctn X k = n at *
        go_wp2
        go_region_with ((first
          | (go_at_call 14; refine (rparts_any m _).mono ?_; rintro e w8 ⟨r8, rfl, hr, hk8, hb⟩; have d8 := HCm.out _ _ hk8; replace HDd := Lib.hid (HDd.out.below hb); (try (clear d9; replace HK9 := Lib.hid (HK9.out.below hb); have d9 := HCw.out _ _ HK9.out)); have HK8 := Lib.hid hk8; clear hb hr hk8)
          | (go_at_call 25; refine (wide_any _).mono ?_; rintro e w9 ⟨r9, rfl, hr, hk9, hb⟩; have d9 := HCw.out _ _ hk9; replace HDd := Lib.hid (HDd.out.below hb); (try (clear d8; replace HK8 := Lib.hid (HK8.out.below hb); have d8 := HCm.out _ _ HK8.out)); have HK9 := Lib.hid hk9; clear hb hr hk9)
          | fail))
        all_goals go_wp2
        all_goals exact ⟨⟨k + 1, by omega, by go_num, by rw [HH.out]; go_num, HDd.out⟩, by simp [intOf]; omega⟩
    · obtain rfl : k = 12 := by omega
      rw [HC.out]
      clear hD
      go_wp2
      go_ret
      exact ⟨rfl, HD.out.bel⟩

theorem nothing_walk (x : Int) (w : World) (hx : (Lit.int .i64 x).wf = true) (hg : Gl w) :
    Calls Tryd.prog 7 #[.int .i64 x] w fun e w' => e = .returned (.bool true) ∧ Below w.heap.size w w' := by
  by_cases h : 0 ≤ x ∧ x < 64
  · obtain ⟨n, rfl⟩ := Int.eq_ofNat_of_zero_le h.1
    exact nothing_in n (by omega) w hg
  · have HA := Lib.hid (alive_any w hg)
    clear hg
    by_cases h0 : x < 0
    · clear h
      go_enter Tryd.func7, Tryd.ntmps7
      go_wp2_with (first
        | (go_at_call 9; refine HA.out.mono ?_; rintro e w1 ⟨rfl, hb⟩; have HB := Lib.hid hb; clear hb)
        | fail)
      go_ret
      exact ⟨rfl, HB.out⟩
    · have h1 : 63 < x := by omega
      have h2 : 0 ≤ x := by omega
      clear h h0
      go_enter Tryd.func7, Tryd.ntmps7
      go_wp2_with (first
        | (go_at_call 9; refine HA.out.mono ?_; rintro e w1 ⟨rfl, hb⟩; have HB := Lib.hid hb; clear hb)
        | fail)
      go_ret
      exact ⟨rfl, HB.out⟩
end Go.Proofs.YtdchaalmjhjejaaDoor.Cs
