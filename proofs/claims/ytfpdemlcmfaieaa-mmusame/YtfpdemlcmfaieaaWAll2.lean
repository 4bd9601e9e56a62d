/- The walk of MmuAll. -/
import Derived.Test.YtfpdemlcmfaieaaWAll
namespace Go.Proofs.Ytfpdemlcmfaieaa.Cs
open Go.RowKit

set_option maxHeartbeats 400000 in
theorem all_out (A : Option Addr) (n c : Nat) (t : Tabs) (va : Int) (B : Option Addr) (m d : Nat) (u : Bool) (w : World) (h : 8192 < n ∨ 1024 < m) :
    Calls Try.prog 5 #[.slice A n c, (Value.agg #[Value.int .u32 (Tabs.pb t), Value.int .u32 (Tabs.pn t), Value.int .u32 (Tabs.sb t), Value.int .u32 (Tabs.sn t), Value.int .u32 (Tabs.me t)]), .int .u32 va, .slice B m d, .bool u] w fun e w' => e = .returned (.bool true) ∧ Below w.heap.size w w' := by
  by_cases h1 : 8192 < n
  · have h1' : (8192 : Int) < (n : Int) := by omega
    clear h
    go_enter Try.func5, Try.ntmps5
    go_wp2_with fail
    refine (alive _).mono ?_
    rintro e w1 ⟨rfl, hb1⟩
    have hb := Tl.bel2 (a := w) (by go_grown) hb1
    go_wp2
    go_ret
    exact ⟨rfl, hb⟩
  · have h1' : ¬ (8192 : Int) < (n : Int) := by omega
    have h2 : (1024 : Int) < (m : Int) := by omega
    clear h
    go_enter Try.func5, Try.ntmps5
    go_wp2_with fail
    refine (alive _).mono ?_
    rintro e w1 ⟨rfl, hb1⟩
    have hb := Tl.bel2 (a := w) (by go_grown) hb1
    go_wp2
    go_ret
    exact ⟨rfl, hb⟩

theorem bytes_all (rg r n : Nat) (xs : List Int) (w : World) (h : Rm.Mem w rg r xs) (hn : xs.length = n) :
    Calls Try.prog 30 #[(Value.pointer (some ⟨rg, 0, none⟩)), .int .u32 0, .int .i64 n] w fun e w' => ∃ b, e = .returned (.tuple #[.slice (some ⟨b, 0, none⟩) n n, .int .i64 0]) ∧ w.heap.size ≤ b ∧ w'.heap[b]? = some (.cells (Rm.cel xs).toArray 5 (0, 0)) ∧ Below w.heap.size w w' :=
  bytes_at rg r xs xs 0 0 n rfl w h (by omega) (by rw [List.drop_zero, ← hn, List.take_length])

set_option maxRecDepth 100000 in
set_option maxHeartbeats 4000000 in
theorem all_in (A : Option Addr) (n c : Nat) (ys : List Int) (t : Tabs) (va : Int) (B : Option Addr) (m d : Nat) (zs : List Int) (u : Bool) (w : World) (hi : In w A n c ys) (ht : t.Ok) (hv : U va) (hj : In w B m d zs) (hn : n ≤ 8192) (hm1 : m ≤ 1024) :
    Calls Try.prog 5 #[.slice A n c, (Value.agg #[Value.int .u32 (Tabs.pb t), Value.int .u32 (Tabs.pn t), Value.int .u32 (Tabs.sb t), Value.int .u32 (Tabs.sn t), Value.int .u32 (Tabs.me t)]), .int .u32 va, .slice B m d, .bool u] w fun e w' => e = .returned (.bool true) ∧ Below w.heap.size w w' := by
  have g1 : ¬ (8192 : Int) < (n : Int) := by omega
  have g2 : ¬ (1024 : Int) < (m : Int) := by omega
  have HI := Lib.hid hi
  have HJ := Lib.hid hj
  have HTk := Lib.hid ht
  have HV := Lib.hid hv
  clear hi ht hv hj
  go_enter Try.func5, Try.ntmps5
  go_wp2_with fail
  refine (alive _).mono ?_
  rintro e w0 ⟨rfl, hb0⟩
  have HTt := Lib.hid (Tt.below Tt.new hb0)
  have HB0 := Lib.hid (Tl.bel2 (a := w) (by go_grown) hb0)
  clear hb0
  go_wp2_with fail
  refine (Rm.new_any n _).mono ?_
  rintro e w1 ⟨rg, r, rfl, h1, h2, hm, hb⟩
  have hr : w.heap.size ≤ r := Nat.le_trans HB0.out.size h2
  have HM := Lib.hid hm
  have HB := Lib.hid (Tl.bel2 HB0.out hb)
  have HTt1 := Lib.hid (HTt.out.below hb)
  rw [Rm.sized_nat n (by omega)] at HM
  clear hm hb h1 h2 HB0 HTt
  go_wp2_with fail
  refine (load_whole rg r n c A ys _ HM.out (HI.out.below HB.out)).mono ?_
  rintro e w2 ⟨rfl, hm2, hg2⟩
  have HM2 := Lib.hid hm2
  have HB2 := Lib.hid (Rm.below_of_grown HB.out hg2 HB.out.size hr)
  have HTt2 : Hid (Tt w2 w.heap.size t) := (hg2.block _ HTt1.out.lt (fun e => by
    injection e with e
    have t1 : Typ w1 w.heap.size 25 := ⟨_, _, HTt1.out⟩
    rw [e] at t1
    exact absurd (t1.ne (mem_typ HM.out).2) (by decide))).trans HTt1.out
  clear hm2 hg2 HM HB HTt1
  go_wp2_with fail
  refine (mnew_any rg _).mono ?_
  rintro e w4 ⟨g, tg, S, rfl, h4, _, hx, hA, hb⟩
  have HT := Lib.hid (Tp.make HM2.out hr HB2.out h4 hx hA hb)
  obtain ⟨q0, q1, q2, q3, q4⟩ := (HTt2.out.below hb).cells
  clear h4 hx hA hb HM2 HB2 HTt2
  go_wp2_with fail
  refine (set_any g rg tg S noTabs t [] _ HT.out.ms.mx HTk.out).mono ?_
  rintro e w5 ⟨rfl, S5, hx5, hs5⟩
  have HT5 := Lib.hid (HT.out.set hx5 hs5)
  clear hx5 hs5 HT q0 q1 q2 q3 q4
  have HBy := Lib.hid HT5.out.ms.mem.byt
  obtain ⟨a1, ha1⟩ : ∃ a1, out t ys u true va m = a1 := ⟨_, rfl⟩
  obtain ⟨rows6, W6, C6, F6⟩ := walk_out (u := u) (wr := true) (keep := true) (n := m) HBy.out HV.out (Coh.nil (t := t)) Tl.Fit.nil
  obtain ⟨rows7, W7, _, _⟩ := walk_out (u := u) (wr := true) (keep := true) (n := m) HBy.out HV.out C6 F6
  rw [ha1] at W6 W7
  have HW6 := Lib.hid W6
  have HW7 := Lib.hid W7
  have HFl := Lib.hid (fun e => FlE.eq (a := a1) (e := e))
  have HLen := Lib.hid (stM_length (zs := zs) HV.out W7)
  have hcase : (fk a1 != 0) = true ∧ stM t ys rows7 zs a1 = ys ∨ fk a1 = 0 ∧ dif (stM t ys rows7 zs a1) ys n ≤ m + 4 * (m / 512 + 2) := by
    cases a1 with
    | bad k1 v1 i1 =>
      left
      have := (walk_bad_kd _ _ _ _ _ _ _ _ HV.out W6).1.1
      refine ⟨?_, rfl⟩
      show (k1 != 0) = true
      simp
      omega
    | ok l => exact .inr ⟨rfl, dif_store HV.out W7 n⟩
  clear W6 W7 C6 F6 ha1
  go_wp2_with fail
  refine (probe_any g rg tg r S5 t [] ys va m u true _ HT5.out.ms.mx HT5.out.ms.mem HV.out (by omega) a1 rows6 (by rw [Int.toNat_natCast]; exact HW6.out)).mono ?_
  rintro e w6 ⟨hE, S6, hT6, hs6⟩
  obtain rfl := HFl.out _ hE
  have HT6 := Lib.hid (HT5.out.turn hT6 hs6)
  clear hT6 hs6 HT5 HFl
  go_wp2_with fail
  refine (bytes_all rg r n ys _ (HT6.out.ms.mem.below_ (by go_grown)) HI.out.len).mono ?_
  rintro e w7 ⟨b7, rfl, h7, hc7, hb7⟩
  have HT7 := Lib.hid ((HT6.out.below (by go_grown)).below hb7)
  have HF7 := Lib.hid (Fv.below (Fv.new (W := w6)) hb7)
  have HC7 := Lib.hid hc7
  have hr7 : r < b7 := by have := HT6.out.ms.mem.rlt; simp at h7; omega
  clear h7 hc7 hb7
  go_wp2_with fail
  refine (store_any g rg tg r S6 t rows6 rows7 ys zs a1 va u B m d _ HT7.out.ms HV.out HJ.out.len (by omega) (HJ.out.sl HT7.out.bel HT7.out.ab) HW7.out).mono ?_
  rintro e w8 ⟨rfl, S8, hm8, hs8⟩
  have HT8 := Lib.hid (HT7.out.step hm8 hs8)
  have HF8 := Lib.hid (HF7.out.mods HT7.out.ms hs8.mods)
  have HC8 := Lib.hid ((hs8.mods.block b7 (Tl.lt_of_heap HC7.out) (fun e => by
    rcases e with e | e
    · exact tb_not HT7.out.ms.mx.tb ⟨_, _, HC7.out⟩ (by decide) (by decide) e
    · omega)).trans HC7.out)
  clear hm8 hs8 HT7 HF7 HC7
  obtain ⟨xs, hxs⟩ : ∃ xs, stM t ys rows7 zs a1 = xs := ⟨_, rfl⟩
  rw [hxs] at HT8 HLen hcase
  clear hxs
  go_wp2_with fail
  refine (bytes_all rg r n xs _ (HT8.out.ms.mem.below_ (by go_grown)) (by rw [HLen.out, HI.out.len])).mono ?_
  rintro e w9 ⟨b9, rfl, h9, hc9, hb9⟩
  have HT9 := Lib.hid ((HT8.out.below (by go_grown)).below hb9)
  have HFa := Lib.hid ((HF8.out.below (by go_grown)).below hb9)
  have HFb := Lib.hid (Fv.below (Fv.new (W := w8)) hb9)
  have HC9 := Lib.hid hc9
  have HD9 : Hid (w9.heap[b7]? = some (.cells (Rm.cel ys).toArray 5 (0, 0))) := (hb9.block _ (by have := Tl.lt_of_heap HC8.out; simp; omega)).trans ((Below.heap_alloc _ _ _ (Tl.lt_of_heap HC8.out)).trans HC8.out)
  have HI9 := Lib.hid (HI.out.below HT9.out.bel)
  clear h9 hc9 hb9 HT8 HF8 HC8
  obtain ⟨m0, m1, m2, _, _, _⟩ := HFa.out.cells
  obtain ⟨n0, n1, n2, _, _, _⟩ := HFb.out.cells
  have s1 := Rm.run_string w9 (some ⟨b7, 0, none⟩) n n ys (Rm.Src.of_row HD9.out) HI.out.len
  have s2 := Rm.run_string w9 A n c ys HI9.out.src HI.out.len
  have HXl : Hid (xs.length = n) := by show _ = _; rw [HLen.out, HI.out.len]
  generalize fk a1 = K1 at *
  generalize fa a1 = V1 at *
  generalize fi a1 = I1 at *
  rcases hcase with ⟨hK, rfl⟩ | ⟨rfl, hdif⟩
  · have s3 := Rm.run_string w9 (some ⟨b9, 0, none⟩) n n xs (Rm.Src.of_row HC9.out) HI.out.len
    go_wp2
    go_ret
    exact ⟨rfl, HT9.out.bel⟩
  · have HDif := Lib.hid hdif
    clear hdif
    go_wp2_with fail
    go_loopw [19, 91] (fun l i W => ∃ k : Nat, k ≤ n ∧ i = .int .i64 k ∧ l = .int .i64 (dif xs ys k) ∧ Below w9.heap.size w9 W) (fun _ i _ => n - (intOf i).toNat)
    case atStart => exact ⟨0, Nat.zero_le _, rfl, rfl, Below.refl _ _⟩
    case round =>
      obtain ⟨k, hk, rfl, rfl, hbl⟩ := hrel
      have HBl := Lib.hid hbl
      clear hbl s1 s2 m0 m1 m2 n0 n1 n2
      by_cases hlt : k < n
      · obtain ⟨ad, rfl, hal, hac⟩ := HI9.out.src (by rw [HI.out.len]; omega)
        have x1 : wr.cell? ⟨b9, k, none⟩ = some (.int .u8 (xs.getD k 0)) := (HBl.out.cell (p := ⟨b9, k, none⟩) (Tl.lt_of_heap HC9.out)).trans (by rw [cell_of_row w9 b9 k _ _ _ HC9.out]; simpa using Rm.cel_get xs k (by rw [HXl.out]; exact hlt))
        have x2 : wr.cell? (ad.add k) = some (.int .u8 (ys.getD k 0)) := (HBl.out.cell (p := ad.add k) (by rw [Rm.block_add]; exact hal)).trans (hac k _ (Rm.cel_get ys k (by rw [HI.out.len]; exact hlt)))
        have hd := dif_le xs ys k
        by_cases he : xs.getD k 0 = ys.getD k 0
        · have HD : Hid (dif xs ys (k + 1) = dif xs ys k) := by show _ = _; rw [dif, if_pos he]; rfl
          rw [he] at x1
          generalize ys.getD k 0 = y at x1 x2
          generalize dif xs ys k = dd at *
          clear he hac
          go_wp2
          go_region
          go_wp2
          go_roundw
          case rel => exact ⟨k + 1, by omega, by go_num, by rw [HD.out], HBl.out.drew⟩
          case measure => simp [intOf]; omega
        · have HD : Hid (dif xs ys (k + 1) = dif xs ys k + 1) := by show _ = _; simp only [dif, if_neg he]
          have he' : (xs.getD k 0 != ys.getD k 0) = true := by simpa using he
          generalize ys.getD k 0 = y at *
          generalize xs.getD k 0 = y' at *
          generalize dif xs ys k = dd at *
          clear he hac
          go_wp2
          go_region
          go_wp2
          go_roundw
          case rel => exact ⟨k + 1, by omega, by go_num, by rw [HD.out]; exact congrArg _ (by omega), HBl.out.drew⟩
          case measure => simp [intOf]; omega
      · obtain rfl : k = n := by omega
        have hd := HDif.out
        generalize dif xs ys k = dd at *
        have hd2 : (dd : Int) ≤ (m : Int) + 4 * ((m : Int) / 512 + 2) := by omega
        clear hd
        go_wp2
        go_ret
        exact ⟨rfl, Tl.bel_trans HT9.out.bel HBl.out HT9.out.bel.size⟩

theorem all_walk (A : Option Addr) (n c : Nat) (t : Tabs) (va : Int) (B : Option Addr) (m d : Nat) (u : Bool) (w : World)
    (hr : ∃ ys, In w A n c ys) (ht : t.Ok) (hv : (Lit.int .u32 va).wf = true) (hs : ∃ zs, In w B m d zs) :
    Calls Try.prog 5 #[.slice A n c, (Value.agg #[Value.int .u32 (Tabs.pb t), Value.int .u32 (Tabs.pn t), Value.int .u32 (Tabs.sb t), Value.int .u32 (Tabs.sn t), Value.int .u32 (Tabs.me t)]), .int .u32 va, .slice B m d, .bool u] w fun e w' => e = .returned (.bool true) ∧ Below w.heap.size w w' := by
  obtain ⟨ys, hi⟩ := hr
  obtain ⟨zs, hj⟩ := hs
  have hb := bounds_u32 hv
  by_cases h : 8192 < n ∨ 1024 < m
  · exact all_out A n c t va B m d u w h
  · exact all_in A n c ys t va B m d zs u w hi ht ⟨by omega, by omega⟩ hj (by omega) (by omega)

end Go.Proofs.Ytfpdemlcmfaieaa.Cs
