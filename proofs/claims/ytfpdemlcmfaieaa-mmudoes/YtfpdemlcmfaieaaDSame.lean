/- Are both the same? -/
import Derived.Test.YtfpdemlcmfaieaaDMem
import Derived.Test.YtfpdemlcmfaieaaWAll2
import Derived.Deep.RegionHeld3
namespace Go.Proofs.Ytfpdemlcmfaieaa.Cs
open Go.RowKit

set_option maxRecDepth 100000 in
set_option maxHeartbeats 4000000 in
theorem same_any (d : Ids) (S T : Nat → Prop) (t : Tabs) (xs : List Int) (rows : Rows) (pl : Bool) (w : World) (b : Bw w d S T S T ⟨t, xs, rows⟩ ⟨t, xs, rows⟩ pl w) :
    Calls Try.prog 19 #[(Value.pointer (some ⟨d.rg, 0, none⟩)), (Value.pointer (some ⟨d.g, 0, none⟩)), (Value.pointer (some ⟨d.h, 0, none⟩))] w fun e w' => e = .returned (.bool true) ∧ Below w.heap.size w w' := by
  have HB := Lib.hid b
  obtain ⟨n, hn⟩ : ∃ n, xs.length = n := ⟨_, rfl⟩
  have HN := Lib.hid hn
  have hl := b.rs.mem.len
  have j0 := b.rs.mx.c0
  have j1 := b.rs.mem.cell
  rw [hn] at hl j1
  clear b hn
  go_enter Try.func19, Try.ntmps19
  go_wp2_with fail
  refine (bytes_all d.rg d.r n xs _ HB.out.ms.mem HN.out).mono ?_
  rintro e w1 ⟨b1, rfl, hb1, hc1, hbe1⟩
  have HB1 := Lib.hid (HB.out.below hbe1)
  have HE1 := Lib.hid hbe1
  have HC1 := Lib.hid hc1
  obtain ⟨m, hm⟩ : ∃ m, rows.length = m := ⟨_, rfl⟩
  have HM := Lib.hid hm
  obtain ⟨A', c', _, _, _, r0, _, hrA, _⟩ := HB1.out.rs.mx.rf.open_
  rw [hm] at r0 hrA
  have HRA := Lib.hid hrA
  have j0 := HB1.out.rs.mx.c0
  have j1 := HB1.out.rs.mem.cell
  have j2 := HB1.out.rs.mx.c1
  have t2 := HB1.out.rs.mx.c2
  have t3 := HB1.out.rs.mx.c3
  have t4 := HB1.out.rs.mx.c4
  have t5 := HB1.out.rs.mx.c5
  have t6 := HB1.out.rs.mx.c6
  rw [HN.out] at j1
  have hg1 := HB1.out.rs.mx.glt
  have hg2 := HB1.out.rs.mem.glt
  have hg3 := HB1.out.rs.mx.rf.lo _ HB1.out.rs.mx.rf.in_
  have HSr : Hid (Rm.Src w1 (some ⟨d.hr, 0, none⟩) xs) := Rm.Src.of_row HB1.out.rs.mem.row
  obtain ⟨ss, hss⟩ : ∃ ss, Rm.str xs = ss := ⟨_, rfl⟩
  have HS1 : Hid (∀ w', Below w1.heap.size w1 w' → (convert 22 9 (.slice (some ⟨b1, 0, none⟩) n n)).run Try.prog w' = .ok (.string ss) w') := fun w' h => hss ▸ Rm.run_string w' _ n n xs ((Rm.Src.of_row HC1.out).below h) HN.out
  have HS2 : Hid (∀ w', Below w1.heap.size w1 w' → (convert 22 9 (.slice (some ⟨d.hr, 0, none⟩) n n)).run Try.prog w' = .ok (.string ss) w') := fun w' h => hss ▸ Rm.run_string w' _ n n xs ((Rm.Src.of_row HB1.out.rs.mem.row).below h) HN.out
  have s3 := HS1.out w1.drew (by go_grown)
  have s4 := HS2.out w1.drew (by go_grown)
  clear hss
  clear hm hrA hb1 hc1 hbe1
  go_wp2_with fail
  go_region_held3 (fun w' => w'.cell? ⟨d.h, 0, none⟩ = some (Value.pointer (some ⟨d.rh, 0, none⟩)) ∧ w'.cell? ⟨d.rh, 0, none⟩ = some (.slice (some ⟨d.hr, 0, none⟩) n n) ∧ w'.cell? ⟨d.h, 1, none⟩ = some (Value.pointer (some ⟨d.th, 0, none⟩)) ∧ w'.cell? ⟨d.th, 0, none⟩ = some (.slice A' m c') ∧ w'.cell? ⟨d.h, 2, none⟩ = some (.int .u32 t.pb) ∧ w'.cell? ⟨d.h, 3, none⟩ = some (.int .u32 t.pn) ∧ w'.cell? ⟨d.h, 4, none⟩ = some (.int .u32 t.sb) ∧ w'.cell? ⟨d.h, 5, none⟩ = some (.int .u32 t.sn) ∧ w'.cell? ⟨d.h, 6, none⟩ = some (.int .u32 t.me) ∧ (convert 22 9 (.slice (some ⟨b1, 0, none⟩) n n)).run Try.prog w' = .ok (.string ss) w' ∧ (convert 22 9 (.slice (some ⟨d.hr, 0, none⟩) n n)).run Try.prog w' = .ok (.string ss) w')
    (first | exact ⟨(HE7.out.cell (p := ⟨d.h, 0, none⟩) hg1).trans j0, (HE7.out.cell (p := ⟨d.rh, 0, none⟩) hg2).trans j1, (HE7.out.cell (p := ⟨d.h, 1, none⟩) hg1).trans j2, (HE7.out.cell (p := ⟨d.th, 0, none⟩) hg3).trans r0, (HE7.out.cell (p := ⟨d.h, 2, none⟩) hg1).trans t2, (HE7.out.cell (p := ⟨d.h, 3, none⟩) hg1).trans t3, (HE7.out.cell (p := ⟨d.h, 4, none⟩) hg1).trans t4, (HE7.out.cell (p := ⟨d.h, 5, none⟩) hg1).trans t5, (HE7.out.cell (p := ⟨d.h, 6, none⟩) hg1).trans t6, HS1.out _ HE7.out, HS2.out _ HE7.out⟩ | exact ⟨(HE6.out.cell (p := ⟨d.h, 0, none⟩) hg1).trans j0, (HE6.out.cell (p := ⟨d.rh, 0, none⟩) hg2).trans j1, (HE6.out.cell (p := ⟨d.h, 1, none⟩) hg1).trans j2, (HE6.out.cell (p := ⟨d.th, 0, none⟩) hg3).trans r0, (HE6.out.cell (p := ⟨d.h, 2, none⟩) hg1).trans t2, (HE6.out.cell (p := ⟨d.h, 3, none⟩) hg1).trans t3, (HE6.out.cell (p := ⟨d.h, 4, none⟩) hg1).trans t4, (HE6.out.cell (p := ⟨d.h, 5, none⟩) hg1).trans t5, (HE6.out.cell (p := ⟨d.h, 6, none⟩) hg1).trans t6, HS1.out _ HE6.out, HS2.out _ HE6.out⟩ | exact ⟨(HE5.out.cell (p := ⟨d.h, 0, none⟩) hg1).trans j0, (HE5.out.cell (p := ⟨d.rh, 0, none⟩) hg2).trans j1, (HE5.out.cell (p := ⟨d.h, 1, none⟩) hg1).trans j2, (HE5.out.cell (p := ⟨d.th, 0, none⟩) hg3).trans r0, (HE5.out.cell (p := ⟨d.h, 2, none⟩) hg1).trans t2, (HE5.out.cell (p := ⟨d.h, 3, none⟩) hg1).trans t3, (HE5.out.cell (p := ⟨d.h, 4, none⟩) hg1).trans t4, (HE5.out.cell (p := ⟨d.h, 5, none⟩) hg1).trans t5, (HE5.out.cell (p := ⟨d.h, 6, none⟩) hg1).trans t6, HS1.out _ HE5.out, HS2.out _ HE5.out⟩ | exact ⟨j0, j1, j2, r0, t2, t3, t4, t5, t6, s3, s4⟩ | go_keep)
    (first | (go_at_call 27; refine (buffered_any d.g d.rg d.tg m S t rows _ (HB1.out.ms.mx.below (by go_grown)) HM.out).mono ?_; rintro e w5 ⟨b5, cap5, rfl, hb5, hr5, hbe5⟩; have HE5 : Hid (Below w1.heap.size w1 w5) := Tl.bel2 (by go_grown) hbe5) | (go_at_call 49; refine (Tl.same_yes _ _ m _ _ (Tl.pages rows) _ (by rw [Tl.pages_length, HM.out]) hr5 (Tl.own_below HRA.out HE5.out)).mono ?_; rintro e w6 ⟨rfl, hbe6⟩; have HE6 : Hid (Below w1.heap.size w1 w6) := Tl.bel2 HE5.out hbe6) | (go_at_call 26; refine (tables_any d.g d.rg d.tg S t rows _ (HB1.out.ms.mx.below HE6.out)).mono ?_; rintro e w7 ⟨rfl, hbe7⟩; have HE7 : Hid (Below w1.heap.size w1 w7) := Tl.bel2 HE6.out hbe7))
  all_goals
    go_wp2
    go_ret
    exact ⟨rfl, Tl.bel2 HE1.out HE7.out⟩

end Go.Proofs.Ytfpdemlcmfaieaa.Cs
