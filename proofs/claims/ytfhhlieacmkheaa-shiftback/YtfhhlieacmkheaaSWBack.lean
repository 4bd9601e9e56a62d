/- The walk of ShiftBack. -/
import Derived.Test.YtfhhlieacmkheaaSAlive
import Derived.Deep.QuietTactic
import Derived.BigQuiet
namespace Go.Proofs.Ytfhhlieacmkheaa.Cs
open Go.RowKit

/-- bits beside a field stay -/
theorem iv_beside {r : Int} {a s : Nat} {x : Int} {i : Nat} (hi : i < 64) (h : ¬ (a ≤ i ∧ i < a + s)) : bi (iv r a s x) i = bi r i := by
  rw [iv_bi, decide_eq_true hi, Bool.true_and]
  unfold ib; rw [if_neg h]
theorem iv_within {r : Int} {a s : Nat} {x : Int} {i : Nat} (ha : a < 32) (hs : s ≤ 32) (hi : i < s) : bi (iv r a s x) (a + i) = bi x i := by
  rw [iv_bi, decide_eq_true (by omega), Bool.true_and]
  unfold ib; rw [if_pos ⟨by omega, by omega⟩, Nat.add_sub_cancel_left]
/-- what is inserted is extracted -/
theorem ev_iv {r : Int} {a s : Nat} {x : Int} (ha : a < 32) (hs : s ≤ 32) : ev (iv r a s x) a s false = ev x 0 s false := by
  refine bi_ext (ev_U _ _ _ _).1 (ev_U _ _ _ _).1 fun i => ?_
  rw [ev_bi, ev_bi]
  unfold xb
  by_cases h : i < s
  · rw [if_pos h, if_pos h, iv_within ha hs h, Nat.zero_add]
  · rw [if_neg h, if_neg h]; simp
/-- what was there, inserted again -/
theorem iv_iv {r : Int} {a s : Nat} {x : Int} (hr : V r) (ha : a < 32) (hs : s ≤ 32) : iv (iv r a s x) a s (ev r a s true) = r := by
  refine bi_ext (iv_V _ _ _ _).1 hr.1 fun i => ?_
  by_cases hi : i < 64
  · by_cases h : a ≤ i ∧ i < a + s
    · obtain ⟨j, rfl⟩ := Nat.exists_eq_add_of_le h.1
      rw [iv_within ha hs (by omega), ev_bi, xb_in (by omega) (by omega)]
    · rw [iv_beside hi h, iv_beside hi h]
  · rw [V_hi hr (by omega), V_hi (iv_V _ _ _ _) (by omega)]
/-- turned by the opposite -/
theorem ro_neg (c : Int) : (ro c + ro (-c % 256)) % 32 = 0 := by
  rw [ro_as, ro_as]; omega
theorem rt_back {x : Int} (hx : U x) (c : Int) : rt (rt x (ro c)) (ro (-c % 256)) = x := by
  rw [rt_rt hx (ro_lt _) (ro_lt _), ro_neg, rt_0 hx]

/-- two rows in variables of the law's own -/
structure Tw (w : World) (b : Nat) (f g : Nat → Bool) (W : World) : Prop where
  one : Rb W b f
  two : Rb W (b + 1) g
  bel : Below w.heap.size w W
  siz : b + 1 < W.heap.size
theorem Tw.drewN {w W : World} {b : Nat} {f g : Nat → Bool} (h : Tw w b f g W) (n : Nat) : Tw w b f g (W.drewN n) :=
  ⟨h.one, h.two, h.bel.trans ⟨rfl, rfl, rfl, Nat.le_refl _, fun _ _ => rfl⟩, h.siz⟩
theorem two_new (w : World) : Rb ((w.alloc (.cells (cl fun _ => false).toArray 35)).alloc (.cells (cl fun _ => false).toArray 35)) w.heap.size (fun _ => false) ∧ Rb ((w.alloc (.cells (cl fun _ => false).toArray 35)).alloc (.cells (cl fun _ => false).toArray 35)) (w.heap.size + 1) (fun _ => false) := by
  refine ⟨(Rb.new w _).alloc _, ?_⟩
  have := Rb.new (w.alloc (.cells (cl fun _ => false).toArray 35)) (fun _ => false)
  rw [size_alloc] at this
  exact this
theorem Tw.new {w w3 : World} (h : Below w.heap.size w w3) (f g : Nat → Bool) :
    Tw w w3.heap.size f g ((((w3.alloc (.cells (cl fun _ => false).toArray 35)).alloc (.cells (cl fun _ => false).toArray 35)).setCells w3.heap.size 0 (cl f)).setCells (w3.heap.size + 1) 0 (cl g)) := by
  obtain ⟨k1, k2⟩ := two_new w3
  refine ⟨(k1.all f).others g (by omega), (k2.others f (by omega)).all g, ?_, ?_⟩
  · exact below_setCells _ _ (below_setCells _ _ ((h.alloc h.size _).alloc (by rw [size_alloc]; have := h.size; omega) _) h.size) (by have := h.size; omega)
  · rw [size_setCells, size_setCells, size_alloc, size_alloc]; omega

set_option maxRecDepth 100000 in
set_option maxHeartbeats 4000000 in
theorem back_yes (r : Int) (t n : Nat) (x c : Int) (hr : V r) (hx : U x) (hc : B c) (ht : t ≤ 31) (hn : n ≤ 32) (w : World) :
    Calls Try.prog 5 #[.int .u64 r, .int .i64 t, .int .i64 n, .int .u32 x, .int .u8 c] w fun e w' => e = .returned (.bool true) ∧ Below w.heap.size w w' := by
  have e1 : ((t : Int) % 32).toNat = t := by omega
  have hV := iv_V r t n x
  have hx0 := hx.1
  have hx1 := hx.2
  have hy : U (rt x (ro c)) := rt_U hx (Nat.le_of_lt (ro_lt c))
  have hW : V x := ⟨by omega, by omega⟩
  have k1 := insert_any r t n x hr hx (by omega) (by omega)
  have k2 := row_any r hr
  have k3 := row_any (iv r t n x) hV
  have k4 := rot_any c x false hc hx
  have k5 := rot_any (-c % 256) (rt x (ro c)) false ⟨by omega, by omega⟩ hy
  have k6 := extract_any (iv r t n x) t n false (by omega) (by omega)
  have k7 := rext_any x 0 n false hW (by omega) (by omega) (by omega)
  have k8 := extract_any r t n true (by omega) (by omega)
  have k9 := insert_any (iv r t n x) t n (ev r t n true) hV (ev_U _ _ _ _) (by omega) (by omega)
  rw [e1, Int.toNat_natCast] at k1 k6 k8 k9
  rw [Int.toNat_natCast, show ((0 : Int) % 32).toNat = 0 from rfl] at k7
  rw [ev_iv (by omega) hn] at k6
  rw [iv_iv hr (by omega) hn] at k9
  rw [rt_back hx] at k5
  have HQ := fun i h1 h2 => Lib.hid (iv_beside (r := r) (a := t) (s := n) (x := x) (i := i) h1 h2)
  have K0 := Lib.hid alive9
  have K1 := Lib.hid k1
  have K2 := Lib.hid k2
  have K3 := Lib.hid k3
  have K4 := Lib.hid k4
  have K5 := Lib.hid k5
  have K6 := Lib.hid k6
  have K7 := Lib.hid k7
  have K8 := Lib.hid k8
  have K9 := Lib.hid k9
  obtain ⟨r0, r1⟩ := hr
  obtain ⟨y0, y1⟩ := hV
  clear k1 k2 k3 k4 k5 k6 k7 k8 k9 e1 hW hy hx
  generalize iv r t n x = y at *
  generalize ev x 0 n false = z1 at *
  generalize ev r t n true = z2 at *
  generalize ng (rt x (ro c)) 4 = q1 at *
  generalize zr (rt x (ro c)) 4 = q2 at *
  generalize rt x (ro c) = z3 at *
  generalize ng x 4 = q3 at *
  generalize zr x 4 = q4 at *
  obtain ⟨c0, c1⟩ := hc
  go_enter Try.func5, Try.ntmps5
  go_wp2_with fail
  refine (K0.out _).mono ?_
  rintro e w1 ⟨rfl, hb1⟩
  go_wp2_with fail
  refine (K1.out _).mono ?_
  rintro e w' ⟨rfl, rfl⟩
  go_wp2_with fail
  refine (K2.out _).mono ?_
  rintro e w2 ⟨rfl, hb2⟩
  go_wp2_with fail
  refine (K3.out _).mono ?_
  rintro e w3 ⟨rfl, hb3⟩
  have HT := Lib.hid ((two_new w3).1.there (bi r))
  have HT2 := Lib.hid (((two_new w3).2.others (bi r) (b' := w3.heap.size) (by omega)).there (bi y))
  have HJ := Lib.hid (ar_ofA (bi r))
  have HJ2 := Lib.hid (ar_ofA (bi y))
  have HO := Lib.hid (cl_one (bi r))
  have HO2 := Lib.hid (cl_one (bi y))
  have HN := Lib.hid (Tw.new (below2 (below2 hb1 hb2) hb3) (bi r) (bi y))
  clear hb1 hb2 hb3
  generalize cl (bi r) = l at *
  generalize cl (bi y) = l2 at *
  go_wp2_with (first
    | refine wpList_store_mid rfl 35 _ _ rfl w3.heap.size 0 l.toArray rfl rfl HT.out HJ.out HO.out ?_
    | refine wpList_store_mid rfl 35 _ _ rfl (w3.heap.size + 1) 0 l2.toArray rfl rfl HT2.out HJ2.out HO2.out ?_
    | fail)
  go_loopw [44] (fun i W => ∃ k : Nat, k ≤ 64 ∧ i = .int .i64 k ∧ Tw w w3.heap.size (bi r) (bi y) W) (fun i _ => 64 - (intOf i).toNat)
  case atStart => exact ⟨0, by omega, rfl, HN.out⟩
  case round =>
    obtain ⟨k, hk, rfl, hM⟩ := hrel
    have HM := Lib.hid hM
    clear HN HT HT2 HJ HJ2 HO HO2
    by_cases hlt : k < 64
    · have hk' : (k : Int) < 64 := by omega
      have HW : Hid (IntKind.i64.wrap ((t : Int) + n) = t + n) := by
        show _ = _
        rw [IntKind.wrap_i64]; omega
      by_cases hw : t ≤ k ∧ k < t + n
      · have d1 : decide (k < t) = false := decide_eq_false (by omega)
        have d2 : decide (IntKind.i64.wrap ((t : Int) + n) ≤ k) = false := decide_eq_false (by rw [HW.out]; omega)
        clear hM
        go_wp2_with fail
        go_quiet (fail)
        go_wp2_with fail
        go_roundw
        case rel => exact ⟨k + 1, by omega, by go_num, HM.out.drewN _⟩
        case measure => simp [intOf]; omega
      · have d := hM.one.cell hlt
        have e := hM.two.cell hlt
        rw [(HQ k hlt hw).out] at e
        clear hM
        generalize bi r k = q at *
        by_cases h1 : k < t
        · have d1 : decide (k < t) = true := decide_eq_true (by omega)
          go_wp2_with fail
          go_quiet (fail)
          go_wp2_with fail
          go_roundw
          case rel => exact ⟨k + 1, by omega, by go_num, HM.out.drewN _⟩
          case measure => simp [intOf]; omega
        · have d1 : decide (k < t) = false := decide_eq_false (by omega)
          have d2 : decide (IntKind.i64.wrap ((t : Int) + n) ≤ k) = true := decide_eq_true (by rw [HW.out]; omega)
          go_wp2_with fail
          go_quiet (fail)
          go_wp2_with fail
          go_roundw
          case rel => exact ⟨k + 1, by omega, by go_num, HM.out.drewN _⟩
          case measure => simp [intOf]; omega
    · obtain rfl : k = 64 := by omega
      have HL := Lib.hid hM.bel
      clear hM HM HQ
      go_wp2_with fail
      refine (K4.out _).mono ?_
      rintro e w4 ⟨rfl, hb4⟩
      go_wp2_with fail
      refine (K5.out _).mono ?_
      rintro e w5 ⟨rfl, hb5⟩
      go_wp2_with fail
      refine (K6.out _).mono ?_
      rintro e w' ⟨rfl, rfl⟩
      go_wp2_with fail
      refine (K7.out _).mono ?_
      rintro e w6 ⟨rfl, hb6⟩
      go_wp2_with fail
      refine (K8.out _).mono ?_
      rintro e w' ⟨rfl, rfl⟩
      go_wp2_with fail
      refine (K9.out _).mono ?_
      rintro e w' ⟨rfl, rfl⟩
      go_wp2
      go_ret
      exact ⟨rfl, below3 (below3 (below2 HL.out hb4) hb5) hb6⟩

set_option maxRecDepth 100000 in
set_option maxHeartbeats 4000000 in
theorem back_not (r t s x c : Int) (h : ¬ (0 ≤ t ∧ t ≤ 31 ∧ 0 ≤ s ∧ s ≤ 32)) (w : World) :
    Calls Try.prog 5 #[.int .u64 r, .int .i64 t, .int .i64 s, .int .u32 x, .int .u8 c] w fun e w' => e = .returned (.bool true) ∧ Below w.heap.size w w' := by
  have K0 := Lib.hid alive9
  have hh : t < 0 ∨ (0 ≤ t ∧ 31 < t) ∨ (0 ≤ t ∧ t ≤ 31 ∧ s < 0) ∨ (0 ≤ t ∧ t ≤ 31 ∧ 0 ≤ s ∧ 32 < s) := by omega
  clear h
  rcases hh with h | ⟨h, h1⟩ | ⟨h, h1, h2⟩ | ⟨h, h1, h2, h3⟩
  all_goals
    go_enter Try.func5, Try.ntmps5
    go_wp2_with fail
    refine (K0.out _).mono ?_
    rintro e w1 ⟨rfl, hb1⟩
    go_wp2
    go_ret
    exact ⟨rfl, hb1⟩

theorem back_walk (r t s x c : Int) (hr : (Lit.int .u64 r).wf = true) (_ : (Lit.int .i64 t).wf = true) (_ : (Lit.int .i64 s).wf = true) (hx : (Lit.int .u32 x).wf = true) (hc : (Lit.int .u8 c).wf = true) (w : World) :
    Calls Try.prog 5 #[.int .u64 r, .int .i64 t, .int .i64 s, .int .u32 x, .int .u8 c] w fun e w' => e = .returned (.bool true) ∧ Below w.heap.size w w' := by
  by_cases h : 0 ≤ t ∧ t ≤ 31 ∧ 0 ≤ s ∧ s ≤ 32
  · obtain ⟨h1, h2, h3, h4⟩ := h
    obtain ⟨t, rfl⟩ := Int.eq_ofNat_of_zero_le h1
    obtain ⟨n, rfl⟩ := Int.eq_ofNat_of_zero_le h3
    exact back_yes r t n x c (V_of hr) (U_of hx) (B_of hc) (by omega) (by omega) w
  · exact back_not r t s x c h w

end Go.Proofs.Ytfhhlieacmkheaa.Cs
