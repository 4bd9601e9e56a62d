/- Contracts: Unpack of package uword. -/
import Derived.Test.YtdchaalmjhjejaaDoorYPack
namespace Go.Proofs.YtdchaalmjhjejaaDoor.Cs
open Go.RowKit Tl Tl.Ia
set_option linter.unusedVariables false
set_option linter.unusedSimpArgs false

/-- the first k parts of a number's word -/
def upk (x : Int) (k : Nat) : Nat → Int := fun i => if i < k then up x i else 0
theorem upk_step (x : Int) (k : Nat) : cw (st (upk x k) k (up x k)) = cw (upk x (k + 1)) := cw_congr fun i hi => by
  unfold st upk
  by_cases h : i = k
  · subst h; rw [if_pos rfl, if_pos (by omega)]
  · rw [if_neg h]
    by_cases h2 : i < k
    · rw [if_pos h2, if_pos (by omega)]
    · rw [if_neg h2, if_neg (by omega)]
theorem upk_zero (x : Int) : cw (upk x 0) = cw fun _ => 0 := cw_congr fun i hi => by unfold upk; rw [if_neg (by omega)]
theorem upk_all (x : Int) : cw (upk x 12) = cw (up x) := cw_congr fun i hi => by unfold upk; rw [if_pos hi]
/-- what is left of a number behind the first k parts -/
def rs (x : Int) (k : Nat) : Int := x / 2 ^ ofk k
theorem rs_step (x : Int) (k : Nat) : rs x k / 2 ^ wd k = rs x (k + 1) := by
  unfold rs
  have h := pos2 (ofk k)
  rw [ofk_step, Int.ediv_ediv, if_neg (by omega), Int.sub_zero]
theorem rs_bd {x : Int} (h0 : 0 ≤ x) (h1 : x < 18446744073709551616) (k : Nat) : 0 ≤ rs x k ∧ rs x k < 18446744073709551616 :=
  ⟨Int.ediv_nonneg h0 (Int.le_of_lt (pos2 _)), Int.lt_of_le_of_lt (Int.ediv_le_self _ h0) h1⟩

/-- a word in a variable, another one for what is answered: while a number is unpacked -/
theorem Sd.two (w : World) (q : Nat → Int) (g : Gl w) : Sd w (w.heap.size + 1) w.heap.size (fun _ => 0) ((w.alloc (.cells #[Value.int IntKind.i64 0, Value.int IntKind.i64 0, Value.int IntKind.i64 0, Value.int IntKind.i64 0, Value.int IntKind.i64 0, Value.int IntKind.i64 0, Value.int IntKind.i64 0, Value.int IntKind.i64 0, Value.int IntKind.i64 0, Value.int IntKind.i64 0, Value.int IntKind.i64 0, Value.int IntKind.i64 0] 23)).alloc (.cells #[Value.int IntKind.i64 0, Value.int IntKind.i64 0, Value.int IntKind.i64 0, Value.int IntKind.i64 0, Value.int IntKind.i64 0, Value.int IntKind.i64 0, Value.int IntKind.i64 0, Value.int IntKind.i64 0, Value.int IntKind.i64 0, Value.int IntKind.i64 0, Value.int IntKind.i64 0, Value.int IntKind.i64 0] 23)) := by
  have hs : (w.alloc (.cells #[Value.int IntKind.i64 0, Value.int IntKind.i64 0, Value.int IntKind.i64 0, Value.int IntKind.i64 0, Value.int IntKind.i64 0, Value.int IntKind.i64 0, Value.int IntKind.i64 0, Value.int IntKind.i64 0, Value.int IntKind.i64 0, Value.int IntKind.i64 0, Value.int IntKind.i64 0, Value.int IntKind.i64 0] 23)).heap.size = w.heap.size + 1 := by simp
  have k2 := Bk.new (w.alloc (.cells #[Value.int IntKind.i64 0, Value.int IntKind.i64 0, Value.int IntKind.i64 0, Value.int IntKind.i64 0, Value.int IntKind.i64 0, Value.int IntKind.i64 0, Value.int IntKind.i64 0, Value.int IntKind.i64 0, Value.int IntKind.i64 0, Value.int IntKind.i64 0, Value.int IntKind.i64 0, Value.int IntKind.i64 0] 23)) 23 (cw fun _ => 0)
  rw [hs] at k2
  have k1 : Bk (w.alloc (.cells #[Value.int IntKind.i64 0, Value.int IntKind.i64 0, Value.int IntKind.i64 0, Value.int IntKind.i64 0, Value.int IntKind.i64 0, Value.int IntKind.i64 0, Value.int IntKind.i64 0, Value.int IntKind.i64 0, Value.int IntKind.i64 0, Value.int IntKind.i64 0, Value.int IntKind.i64 0, Value.int IntKind.i64 0] 23)) w.heap.size 23 (cw fun _ => 0) := Bk.new w _ (cw fun _ => 0)
  exact ⟨k2, k1.alloc _, by omega, Nat.le_refl _, by omega, bel2 (al1 _ _) (al1 _ _), g.below (bel2 (al1 _ _) (al1 _ _))⟩
theorem Sd.congr {w W : World} {b r : Nat} {p q : Nat → Int} (h : Sd w b r p W) (e : cw p = cw q) : Sd w b r q W := ⟨e ▸ h.k1, h.k2, h.b0, h.r0, h.ne, h.bel, h.gl⟩

set_option maxHeartbeats 3200000 in
set_option maxRecDepth 100000 in
theorem unpack_any (x : Int) (h0 : 0 ≤ x) (h1 : x < 18446744073709551616) (w : World) (hg : Gl w) : Calls Tryd.prog 23 #[.int .u64 x] w fun e w' => e = .returned (.agg (cw (up x)).toArray) ∧ Below w.heap.size w w' := by
  have HV := Lib.hid ((Sd.two w (fun _ => 0) hg).congr (upk_zero x).symm)
  have HR := Lib.hid Tryd.underlying23
  have HP : Hid (∀ k, k < 12 → ∃ X y : Int, rs x k = X ∧ up x k = y ∧ 0 ≤ X ∧ X < 18446744073709551616 ∧ 0 ≤ y ∧ y < 2048 ∧ bits .and .u64 X (2 ^ wd k - 1) = y ∧ X / 2 ^ wd k = rs x (k + 1)) := Lib.hid fun k hk => by
    obtain ⟨a0, a1⟩ := rs_bd h0 h1 k
    obtain ⟨b0, b1⟩ := up_bd x k
    have hs := small_pow (wd_bd k hk)
    have hw := wd_bd k hk
    refine ⟨_, _, rfl, rfl, a0, a1, b0, by omega, ?_, rs_step x k⟩
    have := and_mask a0 a1 (b := wd k) (by omega)
    have e : ((2 ^ wd k - 1 : Nat) : Int) = 2 ^ wd k - 1 := by
      have := Nat.two_pow_pos (wd k)
      rw [Int.natCast_sub (by omega), Int.natCast_pow]; rfl
    rw [e] at this
    rw [this]; rfl
  have HS := Lib.hid (upk_step x)
  have HZ : Hid (x = rs x 0) := by show x = x / 2 ^ ofk 0; rw [show ofk 0 = 0 from rfl]; simp
  have HU := Lib.hid (upk_all x)
  have HA := Lib.hid cw_all
  clear hg h0 h1
  go_enter Tryd.func23, Tryd.ntmps23
  go_wp2_with (first
    | (go_at_call 28; generalize (w.alloc (.cells #[Value.int IntKind.i64 0, Value.int IntKind.i64 0, Value.int IntKind.i64 0, Value.int IntKind.i64 0, Value.int IntKind.i64 0, Value.int IntKind.i64 0, Value.int IntKind.i64 0, Value.int IntKind.i64 0, Value.int IntKind.i64 0, Value.int IntKind.i64 0, Value.int IntKind.i64 0, Value.int IntKind.i64 0] 23)).alloc (.cells #[Value.int IntKind.i64 0, Value.int IntKind.i64 0, Value.int IntKind.i64 0, Value.int IntKind.i64 0, Value.int IntKind.i64 0, Value.int IntKind.i64 0, Value.int IntKind.i64 0, Value.int IntKind.i64 0, Value.int IntKind.i64 0, Value.int IntKind.i64 0, Value.int IntKind.i64 0, Value.int IntKind.i64 0] 23) = W at *; refine (parts_any _ _).mono ?_; rintro e w2 ⟨rfl, hb⟩; have HV2 := Lib.hid (HV.out.below hb); clear hb)
    | fail)
  clear HV
  obtain ⟨b, hb⟩ : ∃ b, w.heap.size + 1 = b := ⟨_, rfl⟩
  rw [hb] at HV2
  simp only [hb]
  go_loopw [0, 8] (fun y i W => ∃ k : Nat, k ≤ 12 ∧ i = .int .i64 k ∧ y = .int .u64 (rs x k) ∧ Sd w b w.heap.size (upk x k) W) (fun _ i _ => 12 - (intOf i).toNat)
  case atStart => exact ⟨0, by omega, rfl, by rw [← HZ.out], HV2.out⟩
  case round =>
    obtain ⟨k, hk, rfl, rfl, hV⟩ := hrel
    have HV := Lib.hid hV
    by_cases hlt : k < 12
    · have hk' : (k : Int) < 12 := by omega
      have HX := Lib.hid (pidx wr b k hlt)
      have c := hV.cell hlt
      have f := hV.k1.free k
      have d := hV.gl.bit hlt
      have hw := wd_bd k hlt
      obtain ⟨X, y, hX, hy, x0, x1, y0, y1, ha, hq⟩ := HP.out k hlt
      have hm : IntKind.u64.wrap (IntKind.u64.wrap (2 ^ wd k) - 1) = 2 ^ wd k - 1 := by
        rcases wd_cases k hlt with h | h | h | h | h | h | h <;> rw [h] <;> decide
      have hz : wrap64 y = y := by unfold wrap64; omega
      have HN := Lib.hid ((hV.set hlt y).congr (show cw (st (upk x k) k y) = cw (upk x (k + 1)) by rw [← hy]; exact HS.out k))
      rw [hX]
      have HX1 := Lib.hid hX
      clear hX hy hV
      generalize hY : rs x (k + 1) = Y at *
      have HY := Lib.hid hY
      clear hY
      generalize upk x k k = u at *
      generalize wd k = b2 at *
      have o0 : (0 : Int) ≤ (b2 : Int) := by omega
      have o1 : (b2 : Int) ≤ 11 := by omega
      go_wp2_with (first
        | (refine wl_index rfl 54 _ _ rfl _ _ _ rfl rfl HX.out ?_)
        | fail)
      go_roundw
      case rel => exact ⟨k + 1, by omega, by go_num, by rw [HY.out], HN.out⟩
      case measure => simp [intOf]; omega
    · obtain rfl : k = 12 := by omega
      have HW := Lib.hid (hV.congr HU.out)
      clear hV
      go_wp2_with (first
        | (refine wpList_load_mid rfl 23 _ rfl b 0 rfl (cw (up x)) _ HW.out.range HR.out rfl wd_size ?_)
        | (refine wpList_store_mid rfl 23 _ _ rfl w.heap.size 0 (cw (up x)).toArray rfl rfl HW.out.there wd_size (HA.out _) ?_)
        | fail)
      have hld := HW.out.load (up x)
      exact bodyPost_ret (v := .agg (cw (up x)).toArray) (by simp [results, Tryd.results23, asAddr, Act.put, hld]) rfl ⟨rfl, HW.out.fin (up x)⟩
end Go.Proofs.YtdchaalmjhjejaaDoor.Cs
