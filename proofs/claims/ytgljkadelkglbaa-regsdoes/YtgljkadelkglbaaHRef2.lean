/- Contracts of the document's File: Step. -/
import Derived.Test.YtgljkadelkglbaaHRef1
namespace Go.Proofs.Ytgljkadelkglbaa.Cs
open Go.RowKit Ps Tl

theorem rf_push {w : World} {m : Nat} {S : Nat → Prop} {e : Re} {ps : Ps'} (h : Rf w m S e ps) (hl : ps.length ≤ 1000) (k : Nat) (hk : k < 16) (d : Int) (hd : U d) :
    ∃ A c B q r1 c1 w2 r2 c2 w4, w.cell? ⟨m, 26, none⟩ = some (.slice A ps.length c) ∧
      (Builtin.append_ #[33, 33] 33 #[.slice A ps.length c, .slice (some ⟨w.heap.size, 0, none⟩) 1 1]).run Try.prog (w.alloc (.cells #[.int .i64 k] 3)) = .ok (.slice (some ⟨r1, 0, none⟩) (ps.length + 1) c1) w2 ∧
      w2.cell? ⟨m, 26, none⟩ = some (.slice A ps.length c) ∧ (∀ i, w2.frozen? ⟨m, i, none⟩ = false) ∧
      (w2.setCell ⟨m, 26, none⟩ (.slice (some ⟨r1, 0, none⟩) (ps.length + 1) c1)).cell? ⟨m, 27, none⟩ = some (.slice B ps.length q) ∧
      (Builtin.append_ #[34, 34] 34 #[.slice B ps.length q, .slice (some ⟨(w2.setCell ⟨m, 26, none⟩ (.slice (some ⟨r1, 0, none⟩) (ps.length + 1) c1)).heap.size, 0, none⟩) 1 1]).run Try.prog ((w2.setCell ⟨m, 26, none⟩ (.slice (some ⟨r1, 0, none⟩) (ps.length + 1) c1)).alloc (.cells #[.int .u32 d] 23)) = .ok (.slice (some ⟨r2, 0, none⟩) (ps.length + 1) c2) w4 ∧
      w4.cell? ⟨m, 27, none⟩ = some (.slice B ps.length q) ∧ (∀ i, w4.frozen? ⟨m, i, none⟩ = false) ∧
      Hid (∃ S', Rf (w4.setCell ⟨m, 27, none⟩ (.slice (some ⟨r2, 0, none⟩) (ps.length + 1) c2)) m S' e (ps ++ [(k, d)]) ∧ Step S S' w (w4.setCell ⟨m, 27, none⟩ (.slice (some ⟨r2, 0, none⟩) (ps.length + 1) c2))) := by
  obtain ⟨A, c, B, q, c26, c27, hi, hu, hb, ha, h1, h2, hS⟩ := h.open_
  obtain ⟨r1, k1, w2, hr1, H1⟩ := run_appi w _ (fs ps) k hi (by rw [fs_length]; omega)
  rw [fs_length] at hr1 H1
  obtain ⟨hi2, s1⟩ := H1.out
  have ap1 : Apart (Bl (.slice (some ⟨r1, 0, none⟩) (ps.length + 1) k1)) (Bl (.slice B ps.length q)) := s1.apart ha (own_lo hu)
  have nm1 : ¬ Bl (.slice (some ⟨r1, 0, none⟩) (ps.length + 1) k1) m := fun hm => by
    rcases s1.grow m hm with x | x
    · exact h1 x
    · have := hb.lt; omega
  have hb2 : Bk w2 m 36 _ := hb.mods s1.mods h1
  have hu2 : R1 w2 (.slice B ps.length q) (sn ps) := own_mods hu s1.mods ha
  have e26 : (e.cells (x0.l ++ [.slice A ps.length c, .slice B ps.length q])).set 26 (.slice (some ⟨r1, 0, none⟩) (ps.length + 1) k1) = e.cells (x0.l ++ [.slice (some ⟨r1, 0, none⟩) (ps.length + 1) k1, .slice B ps.length q]) := by
    rw [show 26 = 19 + 7 from rfl, Re.set_t h.ok]; rfl
  have hb3 := hb2.set 26 (.slice (some ⟨r1, 0, none⟩) (ps.length + 1) k1)
  rw [e26] at hb3
  have keep3 : ∀ j, j ≠ m → (w2.setCell ⟨m, 26, none⟩ (.slice (some ⟨r1, 0, none⟩) (ps.length + 1) k1)).heap[j]? = w2.heap[j]? := fun j hj => Below.heap_setCell _ _ _ _ hj
  have hi3 : Ri (w2.setCell ⟨m, 26, none⟩ (.slice (some ⟨r1, 0, none⟩) (ps.length + 1) k1)) (.slice (some ⟨r1, 0, none⟩) (ps.length + 1) k1) (fs ps ++ [(k : Int)]) := own_keep hi2 (fun j hj => keep3 j (fun e => nm1 (e ▸ hj)))
  have hu3 : R1 (w2.setCell ⟨m, 26, none⟩ (.slice (some ⟨r1, 0, none⟩) (ps.length + 1) k1)) (.slice B ps.length q) (sn ps) := own_keep hu2 (fun j hj => keep3 j (fun e => h2 (e ▸ hj)))
  obtain ⟨r2, k2, w4, hr2, H2⟩ := run_app1 (w2.setCell ⟨m, 26, none⟩ (.slice (some ⟨r1, 0, none⟩) (ps.length + 1) k1)) _ (sn ps) d hu3 (by rw [sn_length]; omega)
  rw [sn_length] at hr2 H2
  obtain ⟨hu4, s2⟩ := H2.out
  have st3 : Step S (fun j => j = m ∨ Bl (.slice (some ⟨r1, 0, none⟩) (ps.length + 1) k1) j ∨ Bl (.slice B ps.length q) j) w (w2.setCell ⟨m, 26, none⟩ (.slice (some ⟨r1, 0, none⟩) (ps.length + 1) k1)) := by
    refine ⟨(s1.mods.mono (fun i _ hi => (hS i).2 (.inr (.inl hi)))).set _ (.inl h.in_), fun j hj => ?_⟩
    rcases hj with rfl | hj | hj
    · exact .inl h.in_
    · rcases s1.grow j hj with x | x
      · exact .inl ((hS j).2 (.inr (.inl x)))
      · exact .inr x
    · exact .inl ((hS j).2 (.inr (.inr hj)))
  have hb4 : Bk w4 m 36 _ := hb3.mods s2.mods h2
  have hi4 : Ri w4 (.slice (some ⟨r1, 0, none⟩) (ps.length + 1) k1) (fs ps ++ [(k : Int)]) := own_mods hi3 s2.mods ap1.symm
  have nm2 : ¬ Bl (.slice (some ⟨r2, 0, none⟩) (ps.length + 1) k2) m := fun hm => by
    rcases s2.grow m hm with x | x
    · exact h2 x
    · have := hb3.lt; omega
  have ap2 : Apart (Bl (.slice (some ⟨r1, 0, none⟩) (ps.length + 1) k1)) (Bl (.slice (some ⟨r2, 0, none⟩) (ps.length + 1) k2)) := (s2.apart ap1.symm (own_lo hi3)).symm
  have e27 : (e.cells (x0.l ++ [.slice (some ⟨r1, 0, none⟩) (ps.length + 1) k1, .slice B ps.length q])).set 27 (.slice (some ⟨r2, 0, none⟩) (ps.length + 1) k2) = e.cells (x0.l ++ [.slice (some ⟨r1, 0, none⟩) (ps.length + 1) k1, .slice (some ⟨r2, 0, none⟩) (ps.length + 1) k2]) := by
    rw [show 27 = 19 + 8 from rfl, Re.set_t h.ok]; rfl
  have hb5 := hb4.set 27 (.slice (some ⟨r2, 0, none⟩) (ps.length + 1) k2)
  rw [e27] at hb5
  have keep5 : ∀ j, j ≠ m → (w4.setCell ⟨m, 27, none⟩ (.slice (some ⟨r2, 0, none⟩) (ps.length + 1) k2)).heap[j]? = w4.heap[j]? := fun j hj => Below.heap_setCell _ _ _ _ hj
  refine ⟨A, c, B, q, r1, k1, w2, r2, k2, w4, c26, hr1, hb2.cell 26 _ ?_, fun i => hb2.free i, hb3.cell 27 _ ?_, hr2, hb4.cell 27 _ ?_, fun i => hb4.free i, ?_⟩
  · rw [show 26 = 19 + 7 from rfl, Re.at_t h.ok]; rfl
  · rw [show 27 = 19 + 8 from rfl, Re.at_t h.ok]; rfl
  · rw [show 27 = 19 + 8 from rfl, Re.at_t h.ok]; rfl
  · refine ⟨fun j => j = m ∨ Bl (.slice (some ⟨r1, 0, none⟩) (ps.length + 1) k1) j ∨ Bl (.slice (some ⟨r2, 0, none⟩) (ps.length + 1) k2) j, ⟨⟨_, _, hb5, ?_, ?_, ap2, nm1, nm2, fun _ => Iff.rfl⟩, h.ok, ?_⟩, ?_⟩
    · rw [fs_app]; exact own_keep hi4 (fun j hj => keep5 j (fun e => nm1 (e ▸ hj)))
    · rw [sn_app]; exact own_keep hu4 (fun j hj => keep5 j (fun e => nm2 (e ▸ hj)))
    · intro x hx
      rcases List.mem_append.1 hx with hx | hx
      · exact h.st x hx
      · rw [List.mem_singleton] at hx; subst hx; exact ⟨hk, hd⟩
    · refine step_set (st3.trans (S'' := fun j => j = m ∨ Bl (.slice (some ⟨r1, 0, none⟩) (ps.length + 1) k1) j ∨ Bl (.slice (some ⟨r2, 0, none⟩) (ps.length + 1) k2) j) ⟨s2.mods.mono (fun i _ hi => .inr (.inr hi)), fun j hj => ?_⟩) (.inl h.in_) _ _
      rcases hj with rfl | hj | hj
      · exact .inl (.inl rfl)
      · exact .inl (.inr (.inl hj))
      · rcases s2.grow j hj with x | x
        · exact .inl (.inr (.inr x))
        · exact .inr x

set_option maxRecDepth 100000 in
set_option maxHeartbeats 2000000 in
theorem rstep_in (w : World) (m : Nat) (S : Nat → Prop) (e : Re) (ps : Ps') (h : Rf w m S e ps) (k : Nat) (hk : k < 16) (d : Int) (hd : U d) (hl : ps.length ≤ 1000) :
    Calls Try.prog 13 #[.pointer (some ⟨m, 0, none⟩), .int .i64 k, .int .u32 d] w fun r w' =>
      r = .returned (.int .i64 0) ∧ ∃ S', Rf w' m S' (e.reg k (ad (e.r.getD k 0) d)) (ps ++ [(k, d)]) ∧ Step S S' w w' := by
  have c := h.c_r hk
  have hk' : (k : Int) < 16 := by omega
  have hk0 : ¬ (k : Int) < 0 := by omega
  have hk1 : ¬ (15 : Int) < (k : Int) := by omega
  have HD := Lib.hid hd
  obtain ⟨d0, d1⟩ := hd
  obtain ⟨y0, y1⟩ := h.ok.num k
  have HF := Lib.hid h.drew
  have HM := Lib.hid (step_drew (step_refl S w))
  have HI := Lib.hid h.in_
  have HA := Lib.hid (show ad (e.r.getD k 0) d = (e.r.getD k 0 + d) % 4294967296 from rfl)
  have HX := Lib.hid (ad_U (e.r.getD k 0) d)
  generalize e.r.getD k 0 = y at *
  clear h
  go_enter Try.func13, Try.ntmps13
  go_wp2_with fail
  go_still_tail 15, (by kernel_rfl)
  change wpList _ _ _ _ _ w.drew
  have c' : w.drew.cell? ⟨m, k, none⟩ = some (.int .u32 y) := c
  clear c
  have f := HF.out.free k
  generalize w.drew = v at *
  go_upto_region 4 with fail
  rw [show (y + d) % 4294967296 = ad y d from HA.out.symm]
  have HF2 := Lib.hid (HF.out.set_r hk HX.out)
  have HM2 := Lib.hid (step_set HM.out (.inl HI.out) k (.int .u32 (ad y d)))
  clear HF HM c' f
  generalize v.setCell ⟨m, k, none⟩ (.int .u32 (ad y d)) = v1 at *
  obtain ⟨A, c, B, q, r1, k1, w2, r2, k2, w4, c26, hr1, g26, f26, c27, hr2, g27, f27, HE⟩ := rf_push HF2.out hl k hk d HD.out
  have HR1 := Lib.hid hr1
  have HR2 := Lib.hid hr2
  clear hr1 hr2
  generalize ps.length = n at *
  go_upto_region 5 with (at_builtin; refine wpList_append_run _ rfl (.tmp 32) (.tmp 34) _ _ rfl _ _ rfl rfl HR1.out ?_)
  clear c26 g26 HR1 HF2
  generalize w2.setCell ⟨m, 26, none⟩ (.slice (some ⟨r1, 0, none⟩) (n + 1) k1) = w3 at *
  go_wp2_with (at_builtin; refine wpList_append_run _ rfl (.tmp 42) (.tmp 44) _ _ rfl _ _ rfl rfl HR2.out ?_)
  go_ret
  obtain ⟨S', h1, h2⟩ := HE.out
  exact ⟨rfl, S', h1, HM2.out.trans h2⟩
end Go.Proofs.Ytgljkadelkglbaa.Cs
