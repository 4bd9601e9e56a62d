/- The document's own reckoning of layer 11: Decode, behind an index; and all in one. -/
import Derived.Test.YtppkpfkoggnbmaaGreatDoorERef4
namespace Go.Proofs.YtppkpfkoggnbmaaGreatDoor.Cs.Es
open Go.RowKit
set_option linter.unusedVariables false

theorem fin_2 {x z a i : Int} {c : Nat} {u : List Int} (hz : Sz z) : ((fin x u a z i c).2 = 0 ∧ 0 ≤ (fin x u a z i c).1.n ∧ (fin x u a z i c).1.n ≤ c + 4) ∨ ((fin x u a z i c).2 = 3 ∧ (fin x u a z i c).1 = zs) := by
  have hw := hd_w (x := x) hz
  unfold fin
  by_cases h1 : cn (hd x z).k (hd x z).r i a = true
  · simp only [if_pos h1]
    by_cases h2 : u.length < (hd x z).w
    · simp only [if_pos h2]; right; exact ⟨trivial, trivial⟩
    · simp only [if_neg h2]; left; exact ⟨trivial, by omega, by omega⟩
  · simp only [if_neg h1]; left; exact ⟨trivial, by simp [bd], by simp [bd]; omega⟩

set_option maxHeartbeats 3200000 in
set_option maxRecDepth 100000 in
theorem rdecode_1 (A : Option Addr) (n c : Nat) (x y : Int) (u : List Int) (a z : Int) (w : World) (hy : By w A n c (x :: y :: u)) (hn : n ≤ 100000) (ha : 0 ≤ a ∧ a < 256) (hg : gd a z = true) (h98 : a ≠ 98) (hx : x / 16 = 4) (h79 : x ≠ 79) (h6 : 6 ≤ y / 16) (hyy : ¬ (y / 16 = 8 ∧ y % 16 = 15)) :
    Calls Tryz.prog 18 #[.slice A n c, opv a z] w fun e w' => e = .returned (.tuple #[(fin y u a z (x % 16) 2).1.val, .int .i64 (fin y u a z (x % 16) 2).2]) ∧ Below w.heap.size w w' := by
  have KI := fun w => Lib.hid (rgood_any a z w)
  rw [hg] at KI
  have hz := gd_sz hg
  have HD := Lib.hid (Dv.new w a z)
  have g98 : (a == 98) = false := by simpa using h98
  have g79 : (x == 79) = false := by simpa using h79
  have hl : (1 : Int) < (n : Int) := by have := hy.len; simp at this; omega
  have hl0 : ((n : Int) == 0) = false := by have : (n : Int) ≠ 0 := by omega
                                            simpa using this
  have hl1 : ((n : Int) == 1) = false := by have : (n : Int) ≠ 1 := by omega
                                            simpa using this
  rw [fin_ix h6 hyy]
  have h2 := fin_2 (x := y) (a := a) (i := -1) (c := 1) (u := u) hz
  obtain ⟨ad, rfl, had, HX⟩ := hy.c0
  have HY := hy.c1
  obtain ⟨x0, x1⟩ := hy.byt.hd
  obtain ⟨y0, y1⟩ := hy.byt.tl.hd
  have hR := run_lo ad n c 1 (by omega)
  simp only [Int.natCast_one] at hR
  have KO : Hid (∀ W, Below w.heap.size w W → Calls Tryz.prog 38 #[.slice (some (if c = 1 then ad else ad.add 1)) (n - 1) (c - 1), opv a z] W fun e w' => e = .returned (.tuple #[(fin y u a z (-1) 1).1.val, .int .i64 (fin y u a z (-1) 1).2]) ∧ Below W.heap.size W w') :=
    Lib.hid fun W hW => ronc_any _ (n - 1) (c - 1) y u a z W ((hy.below hW (Nat.le_refl _)).drop (k := 1) (by omega)) (by omega) ha hz
  generalize some (if c = 1 then ad else ad.add 1) = A' at *
  have hr0 : 0 ≤ x % 16 := by omega
  have hr1 : x % 16 < 16 := by omega
  generalize fin y u a z (-1) 1 = d at *
  obtain ⟨⟨d1, d2, d3, d4, d5⟩, d6⟩ := d
  simp only
  generalize hq : (if d1 = 14 then d3 else x % 16) = q
  have HQ := Lib.hid hq
  clear hq
  have H2 := Lib.hid h2
  have hy5 : ¬ y / 16 ≤ 5 := by omega
  have g143 : (y == 143) = false := by
    have : y ≠ 143 := by omega
    simpa using this
  clear hg h98 hy h79 hz ha h2 h6 hyy
  go_enter Tryz.func18, Tryz.ntmps18
  go_upto_region 18 with (go_at_call 36; refine (KI _).out.mono ?_; rintro e w1 ⟨rfl, hb1⟩; have hD1 := HD.out.below hb1; have o0 := hD1.o0; have o1 := hD1.o1; have hcx := HX.out _ hD1.bel; have hcy := HY.out _ hD1.bel; have HD1 := Lib.hid hD1; clear hD1 hb1)
  go_cut [8, 9] from 70 to 76 (fun s e W => ∃ g, s = .pointer (some ⟨g, 0, none⟩) ∧ e = .int .i64 d6 ∧ Ev w a z g ⟨d1, d2, d3, d4, d5⟩ W)
  case first =>
    have o0d : w1.drew.cell? ⟨w.heap.size, 0, none⟩ = some (.int .u8 a) := o0
    have o1d : w1.drew.cell? ⟨w.heap.size, 1, none⟩ = some (.int .i64 z) := o1
    have hlt := HD1.out.lt
    have HV : Hid (Bk (w1.alloc (.cells #[.int .i64 0, .int .i64 0, .int .i64 0, .int .u32 0, .int .i64 0] 47)).drew w1.heap.size 47 [.int .i64 0, .int .i64 0, .int .i64 0, .int .u32 0, .int .i64 0]) := Bk.new w1 _ [.int .i64 0, .int .i64 0, .int .i64 0, .int .u32 0, .int .i64 0]
    have hn0 : (⟨w.heap.size, 0, none⟩ : Addr).block ≠ w1.heap.size := by simp; omega
    have hn1 : (⟨w.heap.size, 1, none⟩ : Addr).block ≠ w1.heap.size := by simp; omega
    go_region_held3 (fun w' => w'.cell? ⟨w.heap.size, 0, none⟩ = some (.int .u8 a) ∧ w'.cell? ⟨w.heap.size, 1, none⟩ = some (.int .i64 z))
      (first | (with_reducible exact ⟨z0, z1⟩) | (with_reducible exact ⟨far5 hn0 z0, far5 hn1 z1⟩) | (with_reducible exact ⟨o0d, o1d⟩) | (with_reducible exact ⟨o0, o1⟩) | go_keep)
      ((go_at_call 38
        refine (KO.out _ (bel2 HD1.out.bel (by go_grown))).mono ?_
        rintro e w3 ⟨rfl, hb3⟩
        have hD3 : Dv w a z w3 := HD1.out.below (bel2 (by go_grown) hb3)
        have z0 := hD3.o0
        have z1 := hD3.o1
        (first
          | (have hv3 : Bk w3 w1.heap.size 47 [.int .i64 0, .int .i64 0, .int .i64 0, .int .u32 0, .int .i64 0] := (by with_reducible exact Bk.below HV.out hb3 (Nat.le_refl _)); have v0 := hv3.cell 0 _ rfl; have v1 := hv3.cell 1 _ rfl; have v2 := hv3.cell 2 _ rfl; have v3 := hv3.cell 3 _ rfl; have v4 := hv3.cell 4 _ rfl; have vf := hv3.free; have hvl := hv3.lt)
          | skip)))
    all_goals go_wp2_with fail
    all_goals go_meet
    all_goals first
      | exact ⟨_, rfl, rfl, Ev.put hD3 hv3 hlt _ _ _ _ _⟩
      | exact ⟨_, rfl, rfl, Ev.new hD3 (Below.refl _ _) _ _ _ _ _⟩
  case rest =>
    obtain ⟨g, rfl, rfl, hE⟩ := hcut
    have r0 := hE.dv.r0
    have r1 := hE.dv.r1
    have r2 := hE.dv.r2
    have r3 := hE.dv.r3
    have r4 := hE.dv.r4
    have rf := hE.dv.rf
    have v0 := hE.v0
    have v1 := hE.v1
    have v2 := hE.v2
    have v3 := hE.v3
    have v4 := hE.v4
    have vf := hE.vf
    have hfar := hE.far
    have hcx2 := HX.out _ hE.dv.bel
    have hadg : ad.block ≠ g := by omega
    have HE := Lib.hid hE
    have HF := Lib.hid (hE.dv.bel)
    simp only at v0 v1 v2 v3 v4
    clear hE o0 o1 hcx hcy
    rcases H2.out with ⟨rfl, n0, n5⟩ | ⟨rfl, hzs⟩
    · have m0 : 0 ≤ d5 := n0
      have m5 : d5 ≤ 5 := by simpa using n5
      clear H2 n0 n5
      by_cases h14 : d1 = 14
      · subst h14
        have hq := HQ.out
        rw [if_pos rfl] at hq
        subst hq
        clear HQ
        go_wp2
        exact bodyPost_ret (v := .tuple #[(Sp.mk 14 d2 d3 d4 (d5 + 1)).val, .int .i64 0]) (by simp [results, Tryz.results18, go_sem, r0, r1, r2, r3, r4]) rfl ⟨rfl, by
          iterate 6 refine Below.setCell ?_ (by simp; try omega) _
          exact HF.out⟩
      · have g14 : (d1 != 14) = true := by simpa using h14
        have hcx3 : ∀ o v, (wc.setCell ⟨g, o, none⟩ v).cell? ad = some (.int .u8 x) := fun o v => by
          rw [World.cell?_setCell_far _ _ _ _ (Ne.symm hadg)]
          exact hcx2
        have hq := HQ.out
        rw [if_neg h14] at hq
        clear h14 HQ
        go_wp2
        exact bodyPost_ret (v := .tuple #[(Sp.mk d1 d2 q d4 (d5 + 1)).val, .int .i64 0]) (by simp [results, Tryz.results18, go_sem, r0, r1, r2, r3, r4]) rfl ⟨rfl, by
          iterate 7 refine Below.setCell ?_ (by simp; try omega) _
          exact HF.out⟩
    · obtain ⟨rfl, rfl, rfl, rfl, rfl⟩ : d1 = 0 ∧ d2 = 0 ∧ d3 = 0 ∧ d4 = 0 ∧ d5 = 0 := by simpa [zs] using hzs
      clear H2 hzs
      go_wp2
      exact bodyPost_ret (v := .tuple #[zs.val, .int .i64 3]) (by simp [results, Tryz.results18, go_sem, zs, r0, r1, r2, r3, r4]) rfl ⟨rfl, by
        iterate 5 refine Below.setCell ?_ (by simp; try omega) _
        exact HF.out⟩

end Go.Proofs.YtppkpfkoggnbmaaGreatDoor.Cs.Es
