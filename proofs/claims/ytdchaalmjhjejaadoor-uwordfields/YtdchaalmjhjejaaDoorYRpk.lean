/- Contracts of the document's Pack and Unpack. -/
import Derived.Test.YtdchaalmjhjejaaDoorYUnp
namespace Go.Proofs.YtdchaalmjhjejaaDoor.Cs
open Go.RowKit Tl Tl.Ia
set_option linter.unusedVariables false
set_option linter.unusedSimpArgs false

theorem pow_bd {p : Nat → Int} (h : gd p = true) {n k : Nat} (hk : k + n = 12) : hg p n k < 18446744073709551616 := by
  have h0 := (pk_bd h k (by omega)).1
  have h1 := (pn_bd h).2
  have e := pk_hg p n k
  rw [hk] at e
  have hp := pos2 (ofk k)
  have hb := hg_bd h n k hk
  have : hg p n k * 1 ≤ hg p n k * 2 ^ ofk k := Int.mul_le_mul_of_nonneg_left (by omega) hb
  rw [Int.mul_comm (hg p n k) (2 ^ ofk k)] at this
  have e2 : pn p = pk p 12 := rfl
  omega

theorem wrap_u64 {x : Int} (h0 : 0 ≤ x) (h1 : x < 18446744073709551616) : IntKind.u64.wrap x = x := by
  show x % 18446744073709551616 = x
  omega

set_option maxHeartbeats 3200000 in
set_option maxRecDepth 100000 in
theorem rpack_any (p : Nat → Int) (hd : gd p = true) (w : World) : Calls Tryd.prog 22 #[.agg (cw p).toArray] w fun e w' => e = .returned (.int .u64 (pn p)) ∧ Below w.heap.size w w' := by
  have HK := Lib.hid (Bk.new w 23 (cw p))
  have HB := Lib.hid (al1 w (.cells (cw p).toArray 23))
  have HC := Lib.hid (fun (W : World) (r : Nat) (g : Bk W r 3 (cw fun k => 2 ^ wd k)) (k : Nat) (hk : k < 12) => g.cell k _ (cw_get _ k hk))
  have HR := Lib.hid Tryd.underlying23
  have HP : Hid (∀ n k : Nat, n + (k + 1) = 12 → ∃ X y z : Int, hg p n (k + 1) = X ∧ p k = y ∧ 2 ^ wd k = z ∧ 0 ≤ X ∧ X < 18446744073709551616 ∧ 0 ≤ y ∧ y < 2048 ∧ 0 ≤ z ∧ z ≤ 2048 ∧ 0 ≤ X * z ∧ X * z < 18446744073709551616 ∧ 0 ≤ X * z + y ∧ X * z + y < 18446744073709551616 ∧ hg p (n + 1) k = X * z + y) := Lib.hid fun n k hk => by
    obtain ⟨b0, b1⟩ := (gd_iff p).1 hd k (by omega)
    have hs := small_pow (wd_bd k (by omega))
    have x0 := hg_bd hd n (k + 1) (by omega)
    have x1 := pow_bd hd (n := n) (k := k + 1) (by omega)
    have y1 := pow_bd hd (n := n + 1) (k := k) (by omega)
    have hp := pos2 (wd k)
    have m := Int.mul_nonneg x0 (Int.le_of_lt hp)
    rw [show hg p (n + 1) k = hg p n (k + 1) * 2 ^ wd k + p k from rfl] at y1 ⊢
    exact ⟨_, _, _, rfl, rfl, rfl, x0, x1, b0, by omega, by omega, hs, m, by omega, by omega, y1, rfl⟩
  have HZ := Lib.hid (pn_hg p)
  clear hd
  go_enter Tryd.func22, Tryd.ntmps22
  go_wp2_with (first
    | (refine wl_box rfl _ _ rfl (cw p) rfl ?_; generalize w.alloc (.cells (cw p).toArray 23) = W at *)
    | (refine wpList_load_mid rfl 23 _ rfl w.heap.size 0 rfl (cw p) _ (HK.out.range 0 _ (by simp)) HR.out rfl wd_size ?_)
    | (go_at_call 14; refine (rparts_any p _).mono ?_; rintro e w1 ⟨r, rfl, hr, hk, hb⟩; have HK1 := Lib.hid hk; have HB1 := Lib.hid (bel_trans HB.out hb HB.out.size); clear hk hb hr)
    | fail)
  clear HK HB
  generalize hb : w.heap.size = b at *
  go_loopw [3, 5] (fun x i W => ∃ n k : Nat, n + k = 12 ∧ i = .int .i64 ((k : Int) - 1) ∧ x = .int .u64 (hg p n k) ∧ Bk W r 3 (cw p) ∧ Below b w W) (fun _ i _ => (intOf i + 1).toNat)
  case atStart => exact ⟨0, 12, by omega, by go_num, rfl, HK1.out, HB1.out⟩
  case round =>
    obtain ⟨n, k, hk, rfl, rfl, hK, hB⟩ := hrel
    have HK := Lib.hid hK
    have HBr := Lib.hid hB
    have HD := Lib.hid (Nat.le_trans (Nat.le_of_eq hb.symm) hB.size)
    clear hB
    obtain _ | k := k
    · obtain rfl : n = 12 := by omega
      clear hK
      go_wp2
      go_ret
      exact ⟨by rw [HZ.out]; rfl, hb ▸ HBr.out⟩
    · rw [show (((k + 1 : Nat) : Int) - 1) = (k : Int) by omega]
      have hlt : k < 12 := by omega
      have hk' : (k : Int) < 12 := by omega
      have c := hK.cell k _ (cw_get p k hlt)
      have HCk := Lib.hid (fun W r g => HC.out W r g k hlt)
      obtain ⟨X, y, z, hX, hy, hz, x0, x1, y0, y1, z0, z1, m0, m1, s0, s1, hn⟩ := HP.out n k hk
      rw [hX]
      rw [hy] at c
      rw [hz] at HCk
      have HN := Lib.hid hn
      have q1 := wrap_u64 z0 (by omega)
      have q2 := wrap_u64 y0 (by omega)
      have q3 := wrap_u64 m0 m1
      have q4 := wrap_u64 s0 s1
      clear hK hX hz hn
      go_wp2
      have HKd : Hid (Bk wr.drew r 3 (cw p)) := HK.out
      have HBd : Hid (Below b w wr.drew) := HBr.out.drew
      have HDd : Hid (b ≤ wr.drew.heap.size) := HD.out
      have HPc := Lib.hid (fun (W : World) (g : Bk W r 3 (cw p)) => (g.cell k _ (cw_get p k hlt)))
      rw [hy] at HPc
      go_region_with ((first | (go_at_call 25; refine (wide_any _).mono ?_; rintro e w2 ⟨r2, rfl, hr2, hk2, hb2⟩; have d := HCk.out _ _ hk2; have HK2 := Lib.hid (HKd.out.below hb2); have c2 := HPc.out _ HK2.out; have HB2 := Lib.hid (bel_trans HBd.out hb2 HDd.out); clear hb2 hr2 hk2) | fail))
      all_goals
        go_wp2
        go_roundw
        case rel => exact ⟨n + 1, k, by omega, by go_num, by rw [HN.out], HK2.out, HB2.out⟩
        case measure => simp [intOf]
end Go.Proofs.YtdchaalmjhjejaaDoor.Cs
