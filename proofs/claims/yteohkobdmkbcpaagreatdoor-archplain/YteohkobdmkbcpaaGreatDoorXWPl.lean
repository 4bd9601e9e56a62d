/- ArchPlain: the walk. -/
import Derived.Test.YteohkobdmkbcpaaGreatDoorXPl1
namespace Go.Proofs.YteohkobdmkbcpaaGreatDoor.Cs
open Go.RowKit
set_option linter.unusedVariables false
set_option linter.unusedSimpArgs false

structure Pb (w : World) (g q : Nat) (cs ds : List Value) (W : World) : Prop where
  bel : Below w.heap.size w W
  gk : Hr.Bk W g 28 cs
  qk : Hr.Bk W q 60 ds
  gg : w.heap.size ≤ g
  ne : q ≠ g
section
variable {w W W' : World} {g q : Nat} {cs ds : List Value}
theorem Pb.below (h : Pb w g q cs ds W) (b : Below W.heap.size W W') : Pb w g q cs ds W' := ⟨Tl.bel_trans h.bel b h.bel.size, h.gk.below b, h.qk.below b, h.gg, h.ne⟩
theorem Pb.set (h : Pb w g q cs ds W) (i : Nat) (v : Value) : Pb w g q (cs.set i v) ds (W.setCell ⟨g, i, none⟩ v) :=
  ⟨Tl.Mods.below (S := Hr.One g) h.bel ((Tl.Mods.refl _ _).set v (.inl rfl)) (fun k hk => by rw [show k = g from hk]; exact h.gg) h.bel.size, h.gk.set i v, h.qk.other h.ne i v, h.gg, h.ne⟩
theorem Pb.qq {a b c : Int} (h : Pb w g q cs [.int .i64 a, .int .i64 b, .int .i64 c] W) : W.cell? ⟨q, 0, none⟩ = some (.int .i64 a) ∧ W.cell? ⟨q, 1, none⟩ = some (.int .i64 b) ∧ W.cell? ⟨q, 2, none⟩ = some (.int .i64 c) := ⟨h.qk.cell 0 _ rfl, h.qk.cell 1 _ rfl, h.qk.cell 2 _ rfl⟩
end
/-- cells of a state -/
theorem cl_r {e : Hr.Re} (he : e.Ok) (l : List Value) (i : Nat) (hi : i < 16) : (e.cells l)[i]? = some (.int .u32 (e.r.getD i 0)) := by
  have hl := he.len
  unfold Hr.Re.cells Tl.c1
  rw [List.getElem?_append_left (by simp; omega), List.getElem?_map, List.getElem?_eq_getElem (by omega), List.getD_eq_getElem?_getD, List.getElem?_eq_getElem (by omega)]
  rfl
theorem cl_t {e : Hr.Re} (he : e.Ok) (l : List Value) (i : Nat) : (e.cells l)[16 + i]? = (Value.int .u32 e.p :: .int .u32 e.k :: .int .u32 e.u :: l)[i]? := by
  have hl := he.len
  unfold Hr.Re.cells
  rw [List.getElem?_append_right (by rw [Tl.c1_length]; omega), Tl.c1_length, hl]
  congr 1; omega
theorem set_t (rs : List Int) (hr : rs.length = 16) (p p' k u x a0 a1 a2 a3 a4 a4' a5 a6 : Int) :
    (((Hr.Re.cells ⟨rs, p, k, u⟩ (Hr.Xs.l ⟨a0, a1, a2, a3, a4, a5, a6⟩)).set 23 (.int .u32 a4')).set 16 (.int .u32 p')).set 15 (.int .u32 x) = Hr.Re.cells ⟨rs.set 15 x, p', k, u⟩ (Hr.Xs.l ⟨a0, a1, a2, a3, a4', a5, a6⟩) := by
  match rs, hr with
  | [b0, b1, b2, b3, b4, b5, b6, b7, b8, b9, b10, b11, b12, b13, b14, b15], _ => rfl
theorem and15u {x : Int} (h : U x) : 0 ≤ bits .and .u32 x 15 ∧ bits .and .u32 x 15 < 16 := by
  rw [u32_and _ _ h.1 h.2 (by omega) (by omega)]
  have : (x.toNat &&& (15 : Int).toNat) ≤ 15 := Nat.and_le_right
  omega
theorem pcd_eq (lo sz : Nat) : (129 : Int) + 2 * (lo : Int) + 32 * (sz : Int) = pcd lo sz := by unfold pcd; omega
def pys (lo sz ra rb rc : Nat) : List Int := [pcd lo sz, ((80 + ra : Nat) : Int), ((80 + rb : Nat) : Int), ((80 + rc : Nat) : Int)]
theorem pys_byt {lo sz ra rb rc : Nat} (h : lo < 7) (hs : sz < 3) (a : ra < 15) (b : rb < 15) (c : rc < 15) : Rm.Byt (pys lo sz ra rb rc) := by
  intro x hx
  simp only [pys, pcd, List.mem_cons, List.not_mem_nil, or_false] at hx
  rcases hx with rfl | rfl | rfl | rfl <;> omega
theorem gd_ne {l : List Int} {i j : Nat} (x : Int) (h : i ≠ j) : (l.set j x).getD i 0 = l.getD i 0 := by
  rw [List.getD_eq_getElem?_getD, List.getElem?_set_ne (fun e => h e.symm), ← List.getD_eq_getElem?_getD]
theorem gd_eq {l : List Int} {i : Nat} (x : Int) (h : i < l.length) : (l.set i x).getD i 0 = x := by
  rw [List.getD_eq_getElem?_getD, List.getElem?_set_self h]; rfl
theorem bdN (w : World) (n : Nat) : Below w.heap.size w (w.drewN n) := ⟨rfl, rfl, rfl, Nat.le_refl _, fun _ _ => rfl⟩
theorem ix0 (a b c : Int) : ∀ w, (Instr.index 60 (.agg #[.int .i64 a, .int .i64 b, .int .i64 c]) (.int .i64 0)).run Tryz.prog w = .ok (.int .i64 a) w := fun _ => by kernel_rfl
theorem ix1 (a b c : Int) : ∀ w, (Instr.index 60 (.agg #[.int .i64 a, .int .i64 b, .int .i64 c]) (.int .i64 1)).run Tryz.prog w = .ok (.int .i64 b) w := fun _ => by kernel_rfl
theorem ix2 (a b c : Int) : ∀ w, (Instr.index 60 (.agg #[.int .i64 a, .int .i64 b, .int .i64 c]) (.int .i64 2)).run Tryz.prog w = .ok (.int .i64 c) w := fun _ => by kernel_rfl
def okr (r : Int) : Prop := 0 ≤ r ∧ r ≤ 14
def t3 (a b c : Int) (k : Nat) : Int := if k = 0 then a else if k = 1 then b else c


set_option maxHeartbeats 4000000 in
set_option maxRecDepth 100000 in
theorem plain_walk (rs : List Int) (p kk u a0 a1 a2 a3 a4 a5 a6 : Int) (low size a b c : Int) (w : World) (hs : Hr.Re.Ok ⟨rs, p, kk, u⟩) (ht : U a0 ∧ U a1 ∧ U a2 ∧ U a3 ∧ U a5) (hT : 7 ≤ w.heap.size ∧ Tl.Ia.Gl w) : Calls Tryz.prog 8 #[Hr.sv ⟨rs, p, kk, u⟩ ⟨a0, a1, a2, a3, a4, a5, a6⟩, .int .i64 low, .int .i64 size, .agg #[.int .i64 a, .int .i64 b, .int .i64 c]] w fun e w' => e = .returned (.bool true) ∧ Below w.heap.size w w' := by
  have HGl := Lib.hid hT
  have HS := Lib.hid hs
  have HTb := Lib.hid ht
  obtain ⟨cs, hcs⟩ : ∃ cs, Hr.Re.cells ⟨rs, p, kk, u⟩ (Hr.Xs.l ⟨a0, a1, a2, a3, a4, a5, a6⟩) = cs := ⟨_, rfl⟩
  have hV : Hr.sv ⟨rs, p, kk, u⟩ ⟨a0, a1, a2, a3, a4, a5, a6⟩ = .agg cs.toArray := by rw [Hr.sv, hcs]
  rw [hV]
  have z6 : cs[25]? = some (.int .i64 a6) := by rw [← hcs]; exact cl_t hs _ 9
  have z1 : cs[16]? = some (.int .u32 p) := by rw [← hcs]; exact cl_t hs _ 0
  have z3 : cs[23]? = some (.int .u32 a4) := by rw [← hcs]; exact cl_t hs _ 7
  have z5 : cs[15]? = some (.int .u32 (rs.getD 15 0)) := by rw [← hcs]; exact cl_r hs _ 15 (by omega)
  have Hcs := Lib.hid hcs
  have HP0 := Lib.hid (show Pb w w.heap.size (w.heap.size + 1) cs [.int .i64 a, .int .i64 b, .int .i64 c] ((w.alloc (.cells cs.toArray 28)).alloc (.cells #[.int .i64 a, .int .i64 b, .int .i64 c] 60)) from
    ⟨by go_grown, (Hr.Bk.new _ _ _).alloc _, new_one w _ _ _, Nat.le_refl _, by omega⟩)
  have HA := Lib.hid (fun W (h : Below w.heap.size w W) => alive W (Nat.le_trans hT.1 h.size) (hT.2.below h))
  clear hT hs ht hcs hV
  go_enter Tryz.func8, Tryz.ntmps8
  go_upto_region 1 with (refine Hr.wl_box rfl _ _ rfl _ rfl ?_)
  try rw [World.heap_alloc_size] 
  generalize (w.alloc (.cells cs.toArray 28)).alloc (.cells #[.int .i64 a, .int .i64 b, .int .i64 c] 60) = W0 at *
  go_wp2_with fail
  refine (HA.out _ HP0.out.bel).mono ?_
  rintro e w1 ⟨rfl, b1⟩
  have HP := Lib.hid (HP0.out.below b1)
  clear b1 HP0 HA
  generalize w.heap.size + 1 = q at *
  generalize hgs : w.heap.size = g at *
  have y6 := HP.out.gk.cell 25 _ z6
  by_cases k1 : low < 0
  · go_wp2
    exact bodyPost_ret (v := .bool true) (by simp [results, Tryz.results8, go_sem]) rfl ⟨rfl, hgs ▸ HP.out.bel⟩
  by_cases k2 : 6 < low
  · go_wp2
    exact bodyPost_ret (v := .bool true) (by simp [results, Tryz.results8, go_sem]) rfl ⟨rfl, hgs ▸ HP.out.bel⟩
  by_cases k3 : size < 0
  · go_wp2
    exact bodyPost_ret (v := .bool true) (by simp [results, Tryz.results8, go_sem]) rfl ⟨rfl, hgs ▸ HP.out.bel⟩
  by_cases k4 : 2 < size
  · go_wp2
    exact bodyPost_ret (v := .bool true) (by simp [results, Tryz.results8, go_sem]) rfl ⟨rfl, hgs ▸ HP.out.bel⟩
  by_cases k5 : a6 = 0
  case neg =>
    have k6 : (a6 == 0) = false := by simpa using k5
    have k7 : (a6 != 0) = true := by simpa using k5
    go_wp2
    exact bodyPost_ret (v := .bool true) (by simp [results, Tryz.results8, go_sem]) rfl ⟨rfl, hgs ▸ HP.out.bel⟩
  subst k5
  obtain ⟨q0, q1, q2⟩ := HP.out.qq
  go_upto_region 6 with fail
  go_loopw [41] (fun v W => W = w1 ∧ (v = .int .i64 0 ∨ (v = .int .i64 1 ∧ okr a) ∨ (v = .int .i64 2 ∧ okr a ∧ okr b) ∨ (v = .int .i64 3 ∧ okr a ∧ okr b ∧ okr c))) (fun v _ => 3 - (intOf v).toNat)
  case atStart => exact ⟨rfl, .inl rfl⟩
  case round =>
    obtain ⟨rfl, hrel⟩ := hrel
    rcases hrel with rfl | ⟨rfl, o0⟩ | ⟨rfl, o0, o1⟩ | ⟨rfl, o0, o1, o2⟩
    · have i0 := ix0 a b c
      by_cases j1 : a < 0
      · go_wp2
        exact bodyPost_ret (v := .bool true) (by simp [results, Tryz.results8, go_sem]) rfl ⟨rfl, hgs ▸ HP.out.bel⟩
      by_cases j2 : 14 < a
      · go_wp2
        exact bodyPost_ret (v := .bool true) (by simp [results, Tryz.results8, go_sem]) rfl ⟨rfl, hgs ▸ HP.out.bel⟩
      go_wp2
      go_roundw
      case rel => exact ⟨trivial, .inr (.inl ⟨rfl, by unfold okr; omega⟩)⟩
      case measure => simp [intOf]
    · have i0 := ix1 a b c
      have O0 := Lib.hid o0
      clear o0
      by_cases j1 : b < 0
      · go_wp2
        exact bodyPost_ret (v := .bool true) (by simp [results, Tryz.results8, go_sem]) rfl ⟨rfl, hgs ▸ HP.out.bel⟩
      by_cases j2 : 14 < b
      · go_wp2
        exact bodyPost_ret (v := .bool true) (by simp [results, Tryz.results8, go_sem]) rfl ⟨rfl, hgs ▸ HP.out.bel⟩
      go_wp2
      go_roundw
      case rel => exact ⟨trivial, .inr (.inr (.inl ⟨rfl, O0.out, by unfold okr; omega⟩))⟩
      case measure => simp [intOf]
    · have i0 := ix2 a b c
      have O0 := Lib.hid o0
      have O1 := Lib.hid o1
      clear o0 o1
      by_cases j1 : c < 0
      · go_wp2
        exact bodyPost_ret (v := .bool true) (by simp [results, Tryz.results8, go_sem]) rfl ⟨rfl, hgs ▸ HP.out.bel⟩
      by_cases j2 : 14 < c
      · go_wp2
        exact bodyPost_ret (v := .bool true) (by simp [results, Tryz.results8, go_sem]) rfl ⟨rfl, hgs ▸ HP.out.bel⟩
      go_wp2
      go_roundw
      case rel => exact ⟨trivial, .inr (.inr (.inr ⟨rfl, O0.out, O1.out, by unfold okr; omega⟩))⟩
      case measure => simp [intOf]
    · clear y6 q0 q1 q2
      obtain ⟨lo, rfl⟩ := Int.eq_ofNat_of_zero_le (show 0 ≤ low by omega)
      obtain ⟨sz, rfl⟩ := Int.eq_ofNat_of_zero_le (show 0 ≤ size by omega)
      obtain ⟨ra, rfl⟩ := Int.eq_ofNat_of_zero_le o0.1
      obtain ⟨rb, rfl⟩ := Int.eq_ofNat_of_zero_le o1.1
      obtain ⟨rc, rfl⟩ := Int.eq_ofNat_of_zero_le o2.1
      have la : ra < 15 := by have := o0.2; omega
      have lb : rb < 15 := by have := o1.2; omega
      have lc : rc < 15 := by have := o2.2; omega
      have hlo : lo < 7 := by omega
      have hsz : sz < 3 := by omega
      clear o0 o1 o2 k1 k2 k3 k4 z6
      have hgl := HP.out.gk.lt
      have f23 := HP.out.gk.free 23
      have f16 := HP.out.gk.free 16
      have f15 := HP.out.gk.free 15
      have y23 := HP.out.gk.cell 23 _ z3
      have y16 := HP.out.gk.cell 16 _ z1
      have y15 := HP.out.gk.cell 15 _ z5
      clear z1 z3 z5
      have hpp := and15u HS.out.p
      go_upto_region 14 with fail
      simp only at hpp
      generalize bits .and .u32 p 15 = p' at *
      have hP3 := ((HP.out.set 23 (.int .u32 0)).set 16 (.int .u32 p')).set 15 (.int .u32 0)
      rw [← Hcs.out, set_t rs HS.out.len] at hP3
      have HP3 := Lib.hid hP3
      have HPP := Lib.hid hpp
      clear hP3 HP y23 y16 y15 f23 f16 f15 hgl hpp
      generalize ((wr.setCell ⟨g, 23, none⟩ (.int .u32 0)).setCell ⟨g, 16, none⟩ (.int .u32 p')).setCell ⟨g, 15, none⟩ (.int .u32 0) = V at *
      obtain ⟨q0, q1, q2⟩ := HP3.out.qq
      have hPl := HP3.out.gk
      obtain ⟨cs', hcs'⟩ : ∃ cs', Hr.Re.cells ⟨rs.set 15 0, p', kk, u⟩ (Hr.Xs.l ⟨a0, a1, a2, a3, 0, a5, 0⟩) = cs' := ⟨_, rfl⟩
      have hV' : (Hr.sv ⟨rs.set 15 0, p', kk, u⟩ ⟨a0, a1, a2, a3, 0, a5, 0⟩) = .agg cs'.toArray := by rw [Hr.sv, hcs']
      rw [hcs'] at hPl
      have hU0 : U 0 := ⟨by omega, by omega⟩
      have hok : Hr.Re.Ok ⟨rs.set 15 0, p', kk, u⟩ := reg_ok HS.out ⟨HPP.out.1, by have := HPP.out.2; omega⟩ hU0 15
      have hl26 : cs'.length = 26 := by rw [← hcs', Hr.Re.length hok]; rfl
      have hi6 : (Tryz.prog.info? 28).map (·.size) = some cs'.length := by rw [hl26, Hr.st_size]
      have hPB := HP3.out.below (show Below V.heap.size V (V.alloc (.cells #[.int .u8 (pcd lo sz), .int .u8 (80 + (ra : Int)), .int .u8 (80 + (rb : Int)), .int .u8 (80 + (rc : Int))] 5)) by go_grown)
      have hSr : Rm.Src (V.alloc (.cells #[.int .u8 (pcd lo sz), .int .u8 (80 + (ra : Int)), .int .u8 (80 + (rb : Int)), .int .u8 (80 + (rc : Int))] 5)) (some ⟨V.heap.size, 0, none⟩) (pys lo sz ra rb rc) := Rm.Src.of_row (heap_alloc_new _ _)
      have HMd := Lib.hid (fun W (hs : Rm.Src W (some ⟨V.heap.size, 0, none⟩) (pys lo sz ra rb rc)) (hb : Below w.heap.size w W) => made_any W _ 4 4 (pys lo sz ra rb rc) ⟨⟨rs.set 15 0, p', kk, u⟩, ⟨a0, a1, a2, a3, 0⟩, a5, 0, pys lo sz ra rb rc⟩ hs (pys_byt hlo hsz la lb lc) rfl (by omega) (Nat.le_trans (hgs ▸ HGl.out.1) hb.size) (HGl.out.2.below hb) hok ⟨HTb.out.1, HTb.out.2.1, HTb.out.2.2.1, HTb.out.2.2.2.1, hU0⟩ HTb.out.2.2.2.2)
      have hvv : Mc.val ⟨⟨rs.set 15 0, p', kk, u⟩, ⟨a0, a1, a2, a3, 0⟩, a5, 0, pys lo sz ra rb rc⟩ = .agg cs'.toArray := hV'
      rw [hvv] at HMd
      have hrg := hPB.gk.range 0 cs' (by rw [hcs']; simp)
      have HSr := Lib.hid hSr
      have HPB := Lib.hid hPB
      have Hcs' := Lib.hid hcs'
      have HOk := Lib.hid hok
      clear hSr hPB hPl hcs' hV' hvv hok hU0
      go_upto_region 15 with fail
      rw [pcd_eq]
      generalize hVV : V.alloc (.cells #[.int .u8 (pcd lo sz), .int .u8 (80 + (ra : Int)), .int .u8 (80 + (rb : Int)), .int .u8 (80 + (rc : Int))] 5) = VV at *
      have hpc : 0 ≤ pcd lo sz ∧ pcd lo sz < 256 := by unfold pcd; omega
      generalize pcd lo sz = pc at *
      go_wp2_with (first | refine wpList_load_mid rfl 28 _ rfl g 0 rfl cs' _ hrg Tryz.underlying28 rfl hi6 ?_ | fail)
      refine (HMd.out VV HSr.out (hgs ▸ HPB.out.bel)).mono ?_
      rintro e w2 ⟨ad, S, rfl, ho⟩
      have HOw := Lib.hid ho
      clear ho hrg q0 q1 q2 HMd HSr HP3 hi6 hl26 hVV hpc
      go_wp2_with fail
      refine (step_pl w2 HOw.out.ch rfl (gd_eq 0 (by have := HS.out.len; simp only at this; omega)) HPP.out.1 HPP.out.2 rfl hlo hsz la lb lc rfl (pys_byt hlo hsz la lb lc)).mono ?_
      rintro e w3 (⟨rfl, h3⟩ | ⟨rfl, rfl, c', h3⟩)
      case inr =>
        obtain ⟨S', ho⟩ := HOw.out.step h3
        have HB := Lib.hid (HPB.out.below ho.bel)
        clear ho h3
        go_wp2
        exact bodyPost_ret (v := .bool true) (by simp [results, Tryz.results8, go_sem]) rfl ⟨rfl, hgs ▸ HB.out.bel⟩
      case inl =>
        obtain ⟨S', ho⟩ := HOw.out.step h3
        have HB := Lib.hid (HPB.out.below ho.bel)
        have HO3 := Lib.hid ho
        clear ho h3 HOw HPB
        obtain ⟨y, f1, f2, f3, f4, f5, f6, f7, f8, f9⟩ := pnx_facts (c := ⟨⟨rs.set 15 0, p', kk, u⟩, ⟨a0, a1, a2, a3, 0⟩, a5, 0, pys lo sz ra rb rc⟩) HOk.out.len HPP.out.1 HPP.out.2 (low := lo) (r0 := ra) (r1 := rb) hsz lc
        generalize pnx ⟨⟨rs.set 15 0, p', kk, u⟩, ⟨a0, a1, a2, a3, 0⟩, a5, 0, pys lo sz ra rb rc⟩ lo sz ra rb rc = m1 at *
        have hmo := HO3.out.ch.eok
        obtain ⟨cs2, hcs2⟩ : ∃ cs2, m1.e.cells m1.xs7.l = cs2 := ⟨_, rfl⟩
        have hl2 : cs2.length = 26 := by rw [← hcs2, Hr.Re.length hmo]; rfl
        have ho2 : ∀ v ∈ cs2, v.oneCell' = true := by rw [← hcs2]; exact Hr.one_cells m1.xs7.one
        have HSt : Hid (Calls Tryz.prog 12 #[.pointer (some ⟨ad.g, 0, none⟩)] w3 fun e w' => e = .returned (.agg cs2.toArray) ∧ Below w3.heap.size w3 w') := Lib.hid (by
          have := state_any w3 HO3.out.ch
          rw [show m1.val = .agg cs2.toArray by rw [Mc.val, Hr.sv, hcs2]] at this
          exact this)
        have e15 : cs2[15]? = some (.int .u32 4) := by
          rw [← hcs2, cl_r hmo _ 15 (by omega), f1, gd_ne y (by omega), gd_eq 4 (by have := HOk.out.len; simp only at this ⊢; omega)]
        have e16 : cs2[16]? = some (.int .u32 m1.e.p) := by rw [← hcs2]; exact cl_t hmo _ 0
        have e17 : cs2[17]? = some (.int .u32 kk) := by rw [← hcs2]; exact (cl_t hmo _ 1).trans (by rw [f5]; rfl)
        have e19 : cs2[19]? = some (.int .u32 a0) := by rw [← hcs2]; exact (cl_t hmo _ 3).trans (by rw [Mc.xs7, f7]; rfl)
        have e20 : cs2[20]? = some (.int .u32 a1) := by rw [← hcs2]; exact (cl_t hmo _ 4).trans (by rw [Mc.xs7, f7]; rfl)
        have e21 : cs2[21]? = some (.int .u32 a2) := by rw [← hcs2]; exact (cl_t hmo _ 5).trans (by rw [Mc.xs7, f7]; rfl)
        have e22 : cs2[22]? = some (.int .u32 a3) := by rw [← hcs2]; exact (cl_t hmo _ 6).trans (by rw [Mc.xs7, f7]; rfl)
        have e23 : cs2[23]? = some (.int .u32 0) := by rw [← hcs2]; exact (cl_t hmo _ 7).trans (by rw [Mc.xs7, f7]; rfl)
        have er : ∀ i, i < 15 → i ≠ rc → cs2[i]? = some (.int .u32 ((rs.set 15 0).getD i 0)) := fun i hi hne => by
          rw [← hcs2, cl_r hmo _ i (by omega), f1, gd_ne y hne, gd_ne 4 (by omega)]
        have ec : cs2[rc]? = some (.int .u32 y) := by
          rw [← hcs2, cl_r hmo _ rc (by omega), f1, gd_eq y (by have := HOk.out.len; simp only [List.length_set] at this ⊢; omega)]
        have HEr := Lib.hid er
        have HEc := Lib.hid ec
        have HY := Lib.hid f2
        have HPp : Hid (0 ≤ m1.e.p ∧ m1.e.p < 16) := Lib.hid ⟨f3, f4⟩
        have HE := Lib.hid (And.intro e15 (And.intro e16 (And.intro e17 (And.intro e19 (And.intro e20 (And.intro e21 (And.intro e22 e23)))))))
        clear f1 f2 f3 f4 f5 f6 f7 f8 f9 hmo hcs2 er ec e15 e16 e17 e19 e20 e21 e22 e23
        go_wp2_with fail
        refine HSt.out.mono ?_
        rintro e w4 ⟨rfl, b4⟩
        have HB4 := Lib.hid (HB.out.below b4)
        clear b4 HSt HB HO3
        go_upto_region 20 with (refine wl_keep rfl _ _ rfl w4 (Hr.z26_new w4) rfl cs2 hl2 ho2 rfl ?_)
        have hn : Hr.Bk (w4.alloc (.cells cs2.toArray 28)) w4.heap.size 28 cs2 := Hr.Bk.new _ _ _
        have hb5 := HB4.out.below (show Below w4.heap.size w4 (w4.alloc (.cells cs2.toArray 28)) by go_grown)
        generalize w4.alloc (.cells cs2.toArray 28) = w5 at *
        generalize w4.heap.size = n at *
        have HN := Lib.hid hn
        have HB5 := Lib.hid hb5
        clear hn hb5 HB4
        have HG : Hid (∀ i, i < 15 → cs'[i]? = some (.int .u32 ((rs.set 15 0).getD i 0))) := Lib.hid fun i hi => by rw [← Hcs'.out]; exact cl_r HOk.out _ i (by omega)
        generalize hrs' : rs.set 15 0 = rs' at *
        go_upto_region 21 with fail
        go_loopw [17] (fun v W => Pb w g q cs' [.int .i64 ra, .int .i64 rb, .int .i64 rc] W ∧ Hr.Bk W n 28 cs2 ∧ ∃ k : Nat, k ≤ 15 ∧ v = .int .i64 k) (fun v _ => 15 - (intOf v).toNat)
        case atStart => exact ⟨Hcs'.out ▸ hgs ▸ HB5.out, HN.out, 0, by omega, rfl⟩
        case round =>
          obtain ⟨hb5, hn5, k, hk, rfl⟩ := hrel
          clear HB5 HN
          have HB5 := Lib.hid hb5
          have HN := Lib.hid hn5
          clear hb5 hn5
          by_cases hlt : k < 15
          · have hq := HB5.out.qq.2.2
            have hgk := HB5.out.gk.cell k _ (HG.out k hlt)
            by_cases hrc : k = rc
            · subst hrc
              have hg1 : ((k : Int) != (k : Int)) = false := by simp
              have hg2 : (k : Int) = (k : Int) := rfl
              have hd : decide ((k : Int) = (k : Int)) = true := by simp
              go_wp2_with fail
              go_quiet (fail)
              go_wp2
              go_roundw
              case rel => exact ⟨HB5.out.below (bdN _ _), HN.out.below (bdN _ _), k + 1, by omega, by go_num⟩
              case measure => simp [intOf]; omega
            · have hnk := HN.out.cell k _ (HEr.out k hlt hrc)
              have hg1 : ((k : Int) != (rc : Int)) = true := by simp; omega
              have hg2 : ¬ (k : Int) = (rc : Int) := by omega
              have hd : decide ((k : Int) = (rc : Int)) = false := by simp; omega
              generalize rs'.getD k 0 = X at *
              have hd2 : (X != X) = false := by simp
              go_wp2_with fail
              go_quiet (fail)
              go_wp2
              go_roundw
              case rel => exact ⟨HB5.out.below (bdN _ _), HN.out.below (bdN _ _), k + 1, by omega, by go_num⟩
              case measure => simp [intOf]; omega
          · obtain rfl : k = 15 := by omega
            have hq := HB5.out.qq.2.2
            obtain ⟨e15, e16, e17, e19, e20, e21, e22, e23⟩ := HE.out
            have n15 := HN.out.cell 15 _ e15
            have n16 := HN.out.cell 16 _ e16
            have n17 := HN.out.cell 17 _ e17
            have n19 := HN.out.cell 19 _ e19
            have n20 := HN.out.cell 20 _ e20
            have n21 := HN.out.cell 21 _ e21
            have n22 := HN.out.cell 22 _ e22
            have n23 := HN.out.cell 23 _ e23
            have nrc := HN.out.cell rc _ HEc.out
            have grc := HB5.out.gk.cell rc _ (HG.out rc lc)
            have g17 := HB5.out.gk.cell 17 _ (show cs'[17]? = some (.int .u32 kk) by rw [← Hcs'.out]; exact cl_t HOk.out _ 1)
            have g19 := HB5.out.gk.cell 19 _ (show cs'[19]? = some (.int .u32 a0) by rw [← Hcs'.out]; exact cl_t HOk.out _ 3)
            have g20 := HB5.out.gk.cell 20 _ (show cs'[20]? = some (.int .u32 a1) by rw [← Hcs'.out]; exact cl_t HOk.out _ 4)
            have g21 := HB5.out.gk.cell 21 _ (show cs'[21]? = some (.int .u32 a2) by rw [← Hcs'.out]; exact cl_t HOk.out _ 5)
            have g22 := HB5.out.gk.cell 22 _ (show cs'[22]? = some (.int .u32 a3) by rw [← Hcs'.out]; exact cl_t HOk.out _ 6)
            have g23 := HB5.out.gk.cell 23 _ (show cs'[23]? = some (.int .u32 0) by rw [← Hcs'.out]; exact cl_t HOk.out _ 7)
            have hy : y / Bt.W (psz sz) = rs'.getD rc 0 / Bt.W (psz sz) := HY.out
            obtain ⟨hp0, hp1⟩ := HPp.out
            generalize m1.e.p = mp at *
            generalize rs'.getD rc 0 = X at *
            clear e15 e16 e17 e19 e20 e21 e22 e23 HE HEc HEr HY HG hl2 ho2 HPp
            have hmp : decide (mp < 16) = true := by simp; omega
            have hlc : (rc : Int) < 16 := by omega
            rcases (show sz = 0 ∨ sz = 1 ∨ sz = 2 by omega) with rfl | rfl | rfl
            · rw [show psz 0 = 1 from rfl, Bt.W1] at hy
              go_wp2_with fail
              go_quiet (fail)
              go_wp2
              exact bodyPost_ret (v := .bool true) (by simp [results, Tryz.results8, go_sem]) rfl ⟨rfl, hgs ▸ (HB5.out.below (bdN _ _)).bel⟩
            · rw [show psz 1 = 2 from rfl, Bt.W2] at hy
              go_wp2_with fail
              go_quiet (fail)
              go_wp2
              exact bodyPost_ret (v := .bool true) (by simp [results, Tryz.results8, go_sem]) rfl ⟨rfl, hgs ▸ (HB5.out.below (bdN _ _)).bel⟩
            · rw [show psz 2 = 4 from rfl, Bt.W4] at hy
              go_wp2_with fail
              go_quiet (fail)
              go_wp2
              exact bodyPost_ret (v := .bool true) (by simp [results, Tryz.results8, go_sem]) rfl ⟨rfl, hgs ▸ (HB5.out.below (bdN _ _)).bel⟩
end Go.Proofs.YteohkobdmkbcpaaGreatDoor.Cs
