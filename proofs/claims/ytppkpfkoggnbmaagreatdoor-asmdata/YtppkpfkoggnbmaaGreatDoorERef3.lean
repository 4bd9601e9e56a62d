/- The document's own reckoning of layer 11: Decode. -/
import Derived.Test.YtppkpfkoggnbmaaGreatDoorERef2
import Derived.Test.YtppkpfkoggnbmaaGreatDoorEApp
namespace Go.Proofs.YtppkpfkoggnbmaaGreatDoor.Cs.Es
open Go.RowKit

theorem wth_b (ys : List Int) (m : Nat) (hg : gd 98 m = true) : dec ys 98 m = (if (wth ys 12 0 m).2 = 0 then (⟨(wth ys 12 0 m).1.k, (wth ys 12 0 m).1.r, (wth ys 12 0 m).1.i, (wth ys 12 0 m).1.x, m⟩, 0) else wth ys 12 0 m) := by
  unfold dec wth
  rw [hg]
  by_cases h : ys.length < m <;> simp [h]

set_option maxHeartbeats 1600000 in
set_option maxRecDepth 100000 in
theorem rdecode_b (A : Option Addr) (n c : Nat) (ys : List Int) (z : Int) (w : World) (hy : By w A n c ys) (hn : n ≤ 100000) (hg : gd 98 z = true) :
    Calls Tryz.prog 18 #[.slice A n c, opv 98 z] w fun e w' => e = .returned (.tuple #[(dec ys 98 z).1.val, .int .i64 (dec ys 98 z).2]) ∧ Below w.heap.size w w' := by
  have KI := fun w => Lib.hid (rgood_any 98 z w)
  rw [hg] at KI
  have hz := gd_sz hg
  obtain ⟨m, rfl⟩ : ∃ m : Nat, z = m := ⟨z.toNat, by rcases hz with rfl | rfl | rfl <;> rfl⟩
  have hD := wth_b ys m hg
  have KW : Hid (∀ W A' n' c', By W A' n' c' (0 :: ys) → Calls Tryz.prog 37 #[.slice A' n' c', .int .i64 12, .int .i64 0, .int .i64 m] W fun e w' => e = .returned (.tuple #[(wth ys 12 0 m).1.val, .int .i64 (wth ys 12 0 m).2]) ∧ Below W.heap.size W w') := by
    show ∀ W A' n' c', _ → Calls _ _ _ _ _
    intro W A' n' c' h
    have hl := h.len
    have hl2 := hy.len
    simp at hl
    exact rwith_any A' n' c' m 12 0 0 ys W h (by omega) hz
  have HY := Lib.hid hy
  rw [hD]
  have hd2 : (wth ys 12 0 m).2 = 0 ∨ ((wth ys 12 0 m).2 = 3 ∧ (wth ys 12 0 m).1 = zs) := by
    unfold wth
    by_cases h : ys.length < m <;> simp [h]
  generalize wth ys 12 0 m = d at *
  obtain ⟨⟨d1, d2, d3, d4, d5⟩, d6⟩ := d
  have HD := Lib.hid (Dv.new w 98 m)
  have HD2 := Lib.hid hd2
  have hk := hy.len
  clear hg hz hD hy hd2
  go_enter Tryz.func18, Tryz.ntmps18
  go_upto_region 4 with ((go_at_call 36; refine (KI _).out.mono ?_; rintro e w1 ⟨rfl, hb1⟩; have hD1 := HD.out.below hb1; have o0 := hD1.o0; have HD1 := Lib.hid hD1; clear hD1 hb1))
  go_cut [6, 7] from 17 to 25 (fun s e W => ∃ g, s = .pointer (some ⟨g, 0, none⟩) ∧ e = .int .i64 d6 ∧ Ev w 98 m g ⟨d1, d2, d3, d4, d5⟩ W)
  case first =>
    have o1 := HD1.out.o1
    have o1d : w1.drew.cell? ⟨w.heap.size, 1, none⟩ = some (.int .i64 m) := o1
    have hlt := HD1.out.lt
    have HYW : Hid (∀ W, Below w1.heap.size w1 W → By W A n c ys) := Lib.hid fun W hW => HY.out.below (bel2 HD1.out.bel hW) (Nat.le_refl _)
    have HM1 : Hid (∀ W, Below (w1.alloc (.cells #[.int .u8 0] 5)).heap.size (w1.alloc (.cells #[.int .u8 0] 5)) W → Mk w1.heap.size w1 (.slice (some ⟨w1.heap.size, 0, none⟩) 1 1) [0] W) := Lib.hid fun W hW => (Mk.lit w1 (Below.refl _ _) (Nat.le_refl _) [0] (n := 1) rfl (by decide)).below hW
    have HM2 : Hid (∀ W, Below ((w1.alloc (.cells #[.int .i64 0, .int .i64 0, .int .i64 0, .int .u32 0, .int .i64 0] 47)).alloc (.cells #[.int .u8 0] 5)).heap.size ((w1.alloc (.cells #[.int .i64 0, .int .i64 0, .int .i64 0, .int .u32 0, .int .i64 0] 47)).alloc (.cells #[.int .u8 0] 5)) W → Mk w1.heap.size w1 (.slice (some ⟨w1.heap.size + 1, 0, none⟩) 1 1) [0] W) := Lib.hid fun W hW => by
      have := (Mk.lit (W := w1.alloc (.cells #[.int .i64 0, .int .i64 0, .int .i64 0, .int .u32 0, .int .i64 0] 47)) w1 (al1 _ _) (by simp) [0] (n := 1) rfl (by decide)).below hW
      simpa using this
    have HVa : Hid (Bk ((w1.alloc (.cells #[.int .i64 0, .int .i64 0, .int .i64 0, .int .u32 0, .int .i64 0] 47)).alloc (.cells #[.int .u8 0] 5)).drew w1.heap.size 47 [.int .i64 0, .int .i64 0, .int .i64 0, .int .u32 0, .int .i64 0]) := (Bk.new w1 _ [.int .i64 0, .int .i64 0, .int .i64 0, .int .u32 0, .int .i64 0]).below (Below.drew (al1 _ _)) (Nat.le_refl _)
    have HVb : Hid (Bk ((w1.alloc (.cells #[.int .u8 0] 5)).alloc (.cells #[.int .i64 0, .int .i64 0, .int .i64 0, .int .u32 0, .int .i64 0] 47)).drew (w1.heap.size + 1) 47 [.int .i64 0, .int .i64 0, .int .i64 0, .int .u32 0, .int .i64 0]) := Lib.hid (by
      have := Bk.new (w1.alloc (.cells #[.int .u8 0] 5)) 47 [.int .i64 0, .int .i64 0, .int .i64 0, .int .u32 0, .int .i64 0]
      simp at this
      exact this)
    have hle : 1 + n ≤ 1000000000 := by omega
    have hla : w.heap.size + 1 < w1.heap.size := hlt
    have hlb : w.heap.size + 1 < w1.heap.size + 1 := by omega
    have hnea : (⟨w.heap.size, 1, none⟩ : Addr).block ≠ w1.heap.size := by simp; omega
    have hneb : (⟨w.heap.size, 1, none⟩ : Addr).block ≠ w1.heap.size + 1 := by simp; omega
    have hna : ¬ Bl (.slice (some ⟨w1.heap.size + 1, 0, none⟩) 1 1) w1.heap.size := by simp [Bl, Value.ownBlock]
    have hnb : ¬ Bl (.slice (some ⟨w1.heap.size, 0, none⟩) 1 1) (w1.heap.size + 1) := by simp [Bl, Value.ownBlock]
    go_region_held3 (fun w' => w'.cell? ⟨w.heap.size, 1, none⟩ = some (.int .i64 m))
      (first | (with_reducible exact z1) | (with_reducible exact o1d) | (with_reducible exact o1) | (with_reducible exact far5 hne z1) | go_keep)
      (first
        | ((first
            | (refine step_app8 rfl (.tmp 18) (.tmp 19) rfl rfl w1.heap.size w1 (.slice (some ⟨w1.heap.size, 0, none⟩) 1 1) [0] ys A n c (1 + n) rfl ?_ ?_ ?_ ?_ hle ?_
               · simp [Act.eval]; done
               · simp [Act.eval]; done
               · refine HM1.out _ ?_; go_grown
               · refine HYW.out _ ?_; go_grown)
            | (refine step_app8 rfl (.tmp 18) (.tmp 19) rfl rfl w1.heap.size w1 (.slice (some ⟨w1.heap.size + 1, 0, none⟩) 1 1) [0] ys A n c (1 + n) rfl ?_ ?_ ?_ ?_ hle ?_
               · simp [Act.eval]; done
               · simp [Act.eval]; done
               · refine HM2.out _ ?_; go_grown
               · refine HYW.out _ ?_; go_grown))
           intro A2 c2 w2 hM2 hb2 hm2
           have hD2 : Dv w 98 m w2 := HD1.out.below hM2.bel
           have z1 := hD2.o1
           have HB2 : Hid (∀ W, Below w2.heap.size w2 W → By W A2 (1 + n) c2 (0 :: ys)) := Lib.hid fun W hW => (hM2.below hW).by (by simp; omega) (Byt.cons (by omega) HY.out.byt)
           have hl2 := hD2.lt
           have HVc : Hid (Bk (w2.alloc (.cells #[.int .i64 0, .int .i64 0, .int .i64 0, .int .u32 0, .int .i64 0] 47)) w2.heap.size 47 [.int .i64 0, .int .i64 0, .int .i64 0, .int .u32 0, .int .i64 0]) := Bk.new w2 _ [.int .i64 0, .int .i64 0, .int .i64 0, .int .u32 0, .int .i64 0]
           have hnec : (⟨w.heap.size, 1, none⟩ : Addr).block ≠ w2.heap.size := by simp; omega
           have HD2' := Lib.hid hD2
           (first
            | (have hv2 : Bk w2 w1.heap.size 47 [.int .i64 0, .int .i64 0, .int .i64 0, .int .u32 0, .int .i64 0] := (by with_reducible exact Bk.mods HVa.out hm2 hna); have hlv := hla; have hne := hnea)
            | (have hv2 : Bk w2 (w1.heap.size + 1) 47 [.int .i64 0, .int .i64 0, .int .i64 0, .int .u32 0, .int .i64 0] := (by with_reducible exact Bk.mods HVb.out hm2 hnb); have hlv := hlb; have hne := hneb)
            | skip)
           clear hM2 hD2 hm2 hb2)
        | (go_at_call 37
           refine (KW.out _ _ _ _ (HB2.out _ (by go_grown))).mono ?_
           rintro e w3 ⟨rfl, hb3⟩
           have hD3 : Dv w 98 m w3 := HD2'.out.below (bel2 (by go_grown) hb3)
           have z1 := hD3.o1
           (first
            | (have hv3 := by with_reducible exact Bk.below hv2 hb3 (Nat.le_refl _))
            | (have hv3 : Bk w3 w2.heap.size 47 [.int .i64 0, .int .i64 0, .int .i64 0, .int .u32 0, .int .i64 0] := (by with_reducible exact Bk.below HVc.out hb3 (Nat.le_refl _)); have hlv := hl2; have hne := hnec)
            | skip)
           (first
            | (have v0 := hv3.cell 0 _ rfl; have v1 := hv3.cell 1 _ rfl; have v2 := hv3.cell 2 _ rfl; have v3 := hv3.cell 3 _ rfl; have v4 := hv3.cell 4 _ rfl; have vf := hv3.free; have hvl := hv3.lt)
            | skip)))
    all_goals go_wp2_with fail
    all_goals go_meet
    all_goals first
      | exact ⟨_, rfl, rfl, Ev.put hD3 hv3 hlv _ _ _ _ _⟩
      | exact ⟨_, rfl, rfl, Ev.new hD3 (Below.refl _ _) _ _ _ _ _⟩
  case rest =>
    obtain ⟨g, rfl, rfl, hE⟩ := hcut
    have o1 := hE.dv.o1
    have r0 := hE.dv.r0
    have r1 := hE.dv.r1
    have r2 := hE.dv.r2
    have r3 := hE.dv.r3
    have r4 := hE.dv.r4
    have rf := hE.dv.rf
    have v0 := hE.v0
    have v1 := hE.v1
    have v2 := hE.v2
    have v3 := hE.v3
    have v4 := hE.v4
    have vf := hE.vf
    have hfar := hE.far
    have HE := Lib.hid hE
    have HF := Lib.hid (hE.dv.bel)
    simp only at v0 v1 v2 v3 v4
    clear hE o0
    rcases HD2.out with rfl | ⟨rfl, hzs⟩
    · clear HD2
      go_wp2
      exact bodyPost_ret (v := .tuple #[(Sp.mk d1 d2 d3 d4 m).val, .int .i64 0]) (by simp [results, Tryz.results18, go_sem, r0, r1, r2, r3, r4]) rfl ⟨rfl, by
        iterate 6 refine Below.setCell ?_ (by simp; try omega) _
        exact HF.out⟩
    · obtain ⟨rfl, rfl, rfl, rfl, rfl⟩ : d1 = 0 ∧ d2 = 0 ∧ d3 = 0 ∧ d4 = 0 ∧ d5 = 0 := by simpa [zs] using hzs
      clear HD2 hzs
      go_wp2
      exact bodyPost_ret (v := .tuple #[zs.val, .int .i64 3]) (by simp [results, Tryz.results18, go_sem, zs, r0, r1, r2, r3, r4]) rfl ⟨rfl, by
        iterate 5 refine Below.setCell ?_ (by simp; try omega) _
        exact HF.out⟩

end Go.Proofs.YtppkpfkoggnbmaaGreatDoor.Cs.Es
