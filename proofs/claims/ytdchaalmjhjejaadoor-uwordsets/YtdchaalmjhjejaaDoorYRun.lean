/- Contract of the document's Unpack. -/
import Derived.Test.YtdchaalmjhjejaaDoorYRpk
namespace Go.Proofs.YtdchaalmjhjejaaDoor.Cs
open Go.RowKit Tl Tl.Ia
set_option linter.unusedVariables false
set_option linter.unusedSimpArgs false

/-- numbers in a row of one's own -/
def cin (xs : List Int) : List Value := xs.map fun a => .int .i64 a
theorem cin_one (xs : List Int) : ∀ v ∈ cin xs, v.oneCell' = true := by
  intro v hv
  simp only [cin, List.mem_map] at hv
  obtain ⟨x, _, rfl⟩ := hv
  rfl
def Ri (w : World) (v : Value) (xs : List Int) : Prop := w.ownsRow 0 3 1 v xs.length (cin xs)
theorem under_ints : Tryd.prog.underlying 31 = some (.slice 3) := by kernel_rfl
theorem int_info : (Tryd.prog.info? 3).map (fun i => (i.zero, i.size, i.bytes)) = some (some (.int .i64 0), 1, 8) := by kernel_rfl
theorem run_appi (w : World) (v : Value) (xs : List Int) (x : Int) (h : Ri w v xs) (hl : xs.length ≤ 1000000) :
    ∃ r' cap' w', (Builtin.append_ #[31, 31] 31 #[v, .slice (some ⟨w.heap.size, 0, none⟩) 1 1]).run Tryd.prog (w.alloc (.cells #[.int .i64 x] 3)) = .ok (.slice (some ⟨r', 0, none⟩) (xs.length + 1) cap') w' ∧
      Hid (Ri w' (.slice (some ⟨r', 0, none⟩) (xs.length + 1) cap') (xs ++ [x]) ∧ Step (Bl v) (Bl (.slice (some ⟨r', 0, none⟩) (xs.length + 1) cap')) w w') := by
  obtain ⟨i, hi, hz, hsz, hb⟩ := info_parts int_info
  obtain ⟨r', cap', w', hrun, ho, hst⟩ := run_app under_ints hi hz hsz hb rfl (by omega) (by omega) w v xs.length (cin xs) (cin [x]) h hl rfl (cin_one _)
  refine ⟨r', cap', w', hrun, ?_, hst⟩
  show w'.ownsRow _ _ _ _ _ _
  rw [List.length_append, show cin (xs ++ [x]) = cin xs ++ cin [x] by simp [cin]]
  exact ho

/-- the first k parts as a list -/
def upl (x : Int) (k : Nat) : List Int := (List.range k).map (up x)
theorem upl_len (x : Int) (k : Nat) : (upl x k).length = k := by simp [upl]
theorem upl_step (x : Int) (k : Nat) : upl x (k + 1) = upl x k ++ [up x k] := by simp [upl, List.range_succ]
structure Cti (w : World) (xs : List Int) (v : Value) (wr : World) : Prop where
  row : Ri wr v xs
  ab : Ab w.heap.size (Bl v)
  bel : Below w.heap.size w wr
theorem Cti.app {w wr : World} {xs : List Int} {v : Value} (h : Cti w xs v wr) (x : Int) (hl : xs.length ≤ 1000000) :
    ∃ r' cap' w', (Builtin.append_ #[31, 31] 31 #[v, .slice (some ⟨wr.heap.size, 0, none⟩) 1 1]).run Tryd.prog (wr.alloc (.cells #[.int .i64 x] 3)) = .ok (.slice (some ⟨r', 0, none⟩) (xs.length + 1) cap') w' ∧
      Hid (Cti w (xs ++ [x]) (.slice (some ⟨r', 0, none⟩) (xs.length + 1) cap') w') := by
  obtain ⟨r', cap', w', hrun, hr, hst⟩ := run_appi wr v xs x h.row hl
  exact ⟨r', cap', w', hrun, hr, hst.ab h.ab h.bel.size, hst.below h.bel h.ab h.bel.size⟩

set_option maxHeartbeats 3200000 in
set_option maxRecDepth 100000 in
theorem runpack_any (x : Int) (h0 : 0 ≤ x) (h1 : x < 18446744073709551616) (w : World) : Calls Tryd.prog 24 #[.int .u64 x] w fun e w' => e = .returned (.agg (cw (up x)).toArray) ∧ Below w.heap.size w w' := by
  have HK : Hid (Bk (w.alloc (.cells #[Value.int IntKind.i64 0, Value.int IntKind.i64 0, Value.int IntKind.i64 0, Value.int IntKind.i64 0, Value.int IntKind.i64 0, Value.int IntKind.i64 0, Value.int IntKind.i64 0, Value.int IntKind.i64 0, Value.int IntKind.i64 0, Value.int IntKind.i64 0, Value.int IntKind.i64 0, Value.int IntKind.i64 0] 23)) w.heap.size 23 (cw fun _ => 0)) := Lib.hid (Bk.new w 23 (cw fun _ => 0))
  have HB := Lib.hid (al1 w (.cells #[Value.int IntKind.i64 0, Value.int IntKind.i64 0, Value.int IntKind.i64 0, Value.int IntKind.i64 0, Value.int IntKind.i64 0, Value.int IntKind.i64 0, Value.int IntKind.i64 0, Value.int IntKind.i64 0, Value.int IntKind.i64 0, Value.int IntKind.i64 0, Value.int IntKind.i64 0, Value.int IntKind.i64 0] 23))
  have HC := Lib.hid (fun (W : World) (r : Nat) (g : Bk W r 3 (cw fun k => 2 ^ wd k)) (k : Nat) (hk : k < 12) => g.cell k _ (cw_get _ k hk))
  have HA := Lib.hid cw_all
  have HP : Hid (∀ k, k < 12 → ∃ X y z : Int, rs x k = X ∧ up x k = y ∧ 2 ^ wd k = z ∧ 0 ≤ X ∧ X < 18446744073709551616 ∧ 0 ≤ y ∧ y < 2048 ∧ 0 < z ∧ z ≤ 2048 ∧ X % z = y ∧ X / z = rs x (k + 1)) := Lib.hid fun k hk => by
    obtain ⟨a0, a1⟩ := rs_bd h0 h1 k
    obtain ⟨b0, b1⟩ := up_bd x k
    have hs := small_pow (wd_bd k hk)
    exact ⟨_, _, _, rfl, rfl, rfl, a0, a1, b0, by omega, pos2 _, hs, rfl, rs_step x k⟩
  have HZ : Hid (x = rs x 0) := by show x = x / 2 ^ ofk 0; rw [show ofk 0 = 0 from rfl]; simp
  have HS := Lib.hid (upl_step x)
  have HL := Lib.hid (upl_len x)
  have H0 : Hid (upl x 0 = []) := rfl
  clear h0 h1
  go_enter Tryd.func24, Tryd.ntmps24
  go_wp2_with (first
    | (go_at_call 25; generalize w.alloc (.cells #[Value.int IntKind.i64 0, Value.int IntKind.i64 0, Value.int IntKind.i64 0, Value.int IntKind.i64 0, Value.int IntKind.i64 0, Value.int IntKind.i64 0, Value.int IntKind.i64 0, Value.int IntKind.i64 0, Value.int IntKind.i64 0, Value.int IntKind.i64 0, Value.int IntKind.i64 0, Value.int IntKind.i64 0] 23) = W at *; refine (wide_any _).mono ?_; rintro e w1 ⟨r, rfl, hr, hk, hb⟩; have HK1 := Lib.hid hk; have HK2 := Lib.hid (HK.out.below hb); have HB1 := Lib.hid (bel_trans HB.out hb HB.out.size); clear hb hk)
    | fail)
  clear HK HB
  have hl : w.heap.size < w1.heap.size := HK2.out.lt
  have HD := Lib.hid hl
  clear hl hr
  go_loopw [0, 3, 8] (fun X v i W => ∃ k : Nat, k ≤ 12 ∧ i = .int .i64 k ∧ X = .int .u64 (rs x k) ∧ Cti w1 (upl x k) v W) (fun _ _ i _ => 12 - (intOf i).toNat)
  case atStart => exact ⟨0, by omega, rfl, by rw [← HZ.out], by rw [H0.out]; exact ⟨⟨by simp [cin], .inl ⟨rfl, rfl⟩⟩, fun k hk => by simp [Bl, Value.ownBlock] at hk, Below.refl _ _⟩⟩
  case round =>
    obtain ⟨k, hk, rfl, rfl, hV⟩ := hrel
    have HV := Lib.hid hV
    have HKr := Lib.hid (HK1.out.below hV.bel)
    clear hV
    by_cases hlt : k < 12
    · have hk' : (k : Int) < 12 := by omega
      obtain ⟨X, y, z, hX, hy, hz, x0, x1, y0, y1, z0, z1, hm, hq⟩ := HP.out k hlt
      have c := HC.out _ _ HKr.out k hlt
      obtain ⟨r', cap', w', hrun, hT⟩ := HV.out.app y (by rw [HL.out]; omega)
      rw [← hy, ← HS.out, HL.out] at hT
      rw [HL.out] at hrun
      rw [hz] at c
      rw [hX]
      have HT := Lib.hid hT.out
      have HQ := Lib.hid hq
      have q1 : IntKind.u64.wrap z = z := wrap_u64 (by omega) (by omega)
      have q2 : wrap64 y = y := by unfold wrap64; omega
      have q3 : X.tmod z = y := by rw [Int.tmod_eq_emod_of_nonneg x0]; exact hm
      have q4 : X.tdiv z = X / z := Int.tdiv_eq_ediv_of_nonneg x0
      have zn : ¬ z = 0 := by omega
      have d0 : 0 ≤ X / z := Int.ediv_nonneg x0 (by omega)
      have d1 : X / z ≤ X := Int.ediv_le_self _ x0
      have q5 : IntKind.u64.wrap (X / z) = X / z := wrap_u64 d0 (by omega)
      clear hX hy hz hT hq
      go_wp2_with (first
        | (at_builtin; refine wpList_append_run _ rfl _ _ _ _ rfl _ _ rfl rfl hrun ?_)
        | fail)
      go_roundw
      case rel => exact ⟨k + 1, by omega, by go_num, by rw [HQ.out], HT.out⟩
      case measure => simp [intOf]; omega
    · obtain rfl : k = 12 := by omega
      obtain ⟨h, h0⟩ | ⟨r', cap, rfl, _, _, _, hcs, _⟩ := own_shape HV.out.row
      · rw [HL.out] at h0; omega
      · have hl12 := HL.out 12
        rw [hl12]
        have HCs : Hid (∀ j, j < 12 → wr.cell? ⟨r', j, none⟩ = some (.int .i64 (up x j))) := Lib.hid fun j hj => hcs j _ (by simp [cin, upl, hj])
        have HK3 := Lib.hid (HK2.out.below HV.out.bel)
        have HB3 := Lib.hid (bel_trans HB1.out HV.out.bel (Nat.le_of_lt HD.out))
        clear hcs hl12
        go_wp2_with (first
          | (go_at_call 29; refine (word_any (up x) _ _ _ HCs.out).mono ?_; rintro e w5 ⟨rfl, hb⟩; have HK5 := Lib.hid (HK3.out.below hb); have HB5 := Lib.hid (bel_trans HB3.out hb (Nat.le_of_lt HK3.out.lt)); clear hb)
          | (refine wpList_store_mid rfl 23 _ _ rfl w.heap.size 0 (cw (up x)).toArray rfl rfl (HK5.out.there 0 12 (by decide)) wd_size (HA.out _) ?_)
          | fail)
        have hld := word_load (HK5.out.whole (cw (up x)) rfl)
        exact bodyPost_ret (v := .agg (cw (up x)).toArray) (by simp [results, Tryd.results24, asAddr, Act.put, hld]) rfl ⟨rfl, below_cells _ _ HB5.out (Nat.le_refl _)⟩
end Go.Proofs.YtdchaalmjhjejaaDoor.Cs
