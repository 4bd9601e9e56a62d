/- Contracts of package regs: Save. -/
import Derived.Test.YtgljkadelkglbaaHFile3
import Derived.BigRegion
namespace Go.Proofs.Ytgljkadelkglbaa.Cs
open Go.RowKit Ps Tl

/-- a state of noughts -/
def z26 : List Value := Re.nul.cells (Xs.l ⟨0, 0, 0, 0, 0, 0, 0⟩)
theorem z26_new (w : World) : w.alloc (.cells #[.int .u32 0, .int .u32 0, .int .u32 0, .int .u32 0, .int .u32 0, .int .u32 0, .int .u32 0, .int .u32 0, .int .u32 0, .int .u32 0, .int .u32 0, .int .u32 0, .int .u32 0, .int .u32 0, .int .u32 0, .int .u32 0, .int .u32 0, .int .u32 0, .int .u32 0, .int .u32 0, .int .u32 0, .int .u32 0, .int .u32 0, .int .u32 0, .int .u32 0, .int .i64 0] 28) = w.alloc (.cells z26.toArray 28) := rfl

section
variable {w : World} {b g i o n : Nat} {v u : Value} {vs cs : List Value}
theorem far_cells (hb : g ≠ b) (h : w.cell? ⟨g, i, none⟩ = some v) : (w.setCells b o vs).cell? ⟨g, i, none⟩ = some v := by
  rw [World.cell?_setCells_out b vs o w ⟨g, i, none⟩ (fun h1 _ => absurd h1 hb)]; exact h
theorem far_cell (hb : g ≠ b) (h : w.cell? ⟨g, i, none⟩ = some v) : (w.setCell ⟨b, o, none⟩ u).cell? ⟨g, i, none⟩ = some v := by
  rw [World.cell?_setCell_other _ _ _ _ (by intro e; injection e with e1 e2; exact hb e1.symm)]; exact h
theorem far_range (hb : g ≠ b) (h : w.rangeAt g i cs) : (w.setCell ⟨b, o, none⟩ u).rangeAt g i cs := fun j v hv => far_cell hb (h j v hv)
theorem far_ranges (hb : g ≠ b) (h : w.rangeAt g i cs) : (w.setCells b o vs).rangeAt g i cs := fun j v hv => far_cells hb (h j v hv)
theorem there_cell (h : w.there b i n) (b' : Nat) : (w.setCell ⟨b', o, none⟩ u).there b i n := by
  have := World.there_setCells h b' o [u]
  simpa [World.setCells] using this
theorem near_cells (h : w.cell? ⟨b, i, none⟩ = some v) (hi : vs.length ≤ i) : (w.setCells b 0 vs).cell? ⟨b, i, none⟩ = some v := by
  rw [World.cell?_setCells_out b vs 0 w ⟨b, i, none⟩ (fun _ _ => .inr (by show 0 + vs.length ≤ i; omega))]; exact h
end

set_option maxHeartbeats 2000000 in
theorem save_any (w : World) (g : Nat) (e s : Re) (x : Xs) (ss : List Int) (n : Int) (h : Fi w g e ss n) (hs : s.Ok) :
    Calls Try.prog 29 #[.pointer (some ⟨g, 0, none⟩), sv s x] w fun r w' => r = .returned (sv e x) ∧ Below w.heap.size w w' := by
  have HF := Lib.hid h
  have HS := Lib.hid hs
  clear h hs
  go_enter Try.func29, Try.ntmps29
  go_upto_region 3 with (refine wl_box rfl _ _ rfl _ rfl ?_)
  rw [z26_new]
  have hgb : g ≠ w.heap.size := Nat.ne_of_lt HF.out.bk.lt
  have HF1 := Lib.hid ((HF.out.bk.alloc (.cells (s.cells x.l).toArray 28)).alloc (.cells z26.toArray 28))
  have HS1 := Lib.hid ((Sb.new w x HS.out).bk.alloc (.cells z26.toArray 28))
  have HZ1 := Lib.hid (Bk.new (w.alloc (.cells (s.cells x.l).toArray 28)) 28 z26)
  rw [show (w.alloc (.cells (s.cells x.l).toArray 28)).heap.size = w.heap.size + 1 by simp] at HZ1
  have HB := Lib.hid (((Below.refl w.heap.size w).alloc (Nat.le_refl _) (.cells (s.cells x.l).toArray 28)).alloc (by simp) (.cells z26.toArray 28))
  generalize (w.alloc (.cells (s.cells x.l).toArray 28)).alloc (.cells z26.toArray 28) = W at *
  generalize hb : w.heap.size = b at *
  have c16 := HF1.out.cell 16 _ (Re.at_p HF.out.ok _)
  have c17 := HF1.out.cell 17 _ (Re.at_k HF.out.ok _)
  have c18 := HF1.out.cell 18 _ (Re.at_u HF.out.ok _)
  have hr : W.rangeAt g 0 (c1 e.r) := HF1.out.range 0 _ (Re.drop_r e _)
  have ht : W.there b 0 16 := HS1.out.there 0 16 (by rw [Re.length HS.out]; omega)
  have hu := arr_under
  have hi : (Try.prog.info? 24).map (·.size) = some (c1 e.r).length := arr_of HF.out.ok.len
  have hl : (c1 e.r).length = 16 := by rw [c1_length, HF.out.ok.len]
  have h1 := c1_one e.r
  have k16 : (W.drew.setCells b 0 (c1 e.r)).cell? ⟨b, 16, none⟩ = some (.int .u32 s.p) := near_cells (HS1.out.cell 16 _ (Re.at_p HS.out _)) (by omega)
  have k17 : (W.drew.setCells b 0 (c1 e.r)).cell? ⟨b, 17, none⟩ = some (.int .u32 s.k) := near_cells (HS1.out.cell 17 _ (Re.at_k HS.out _)) (by omega)
  have k18 : (W.drew.setCells b 0 (c1 e.r)).cell? ⟨b, 18, none⟩ = some (.int .u32 s.u) := near_cells (HS1.out.cell 18 _ (Re.at_u HS.out _)) (by omega)
  have kf : ∀ i, (W.drew.setCells b 0 (c1 e.r)).frozen? ⟨b, i, none⟩ = false := fun i => by rw [World.frozen?_setCells]; exact HS1.out.free i
  obtain ⟨cs, hcs⟩ : ∃ cs, c1 e.r = cs := ⟨_, rfl⟩
  have HC := Lib.hid hcs
  rw [hcs] at hr hi hl h1 k16 k17 k18 kf
  clear hcs
  go_region_held3 (fun w' => w'.rangeAt g 0 cs ∧ w'.cell? ⟨g, 16, none⟩ = some (.int .u32 e.p) ∧ w'.cell? ⟨g, 17, none⟩ = some (.int .u32 e.k) ∧ w'.cell? ⟨g, 18, none⟩ = some (.int .u32 e.u) ∧ w'.there b 0 16) 
    ((refine ⟨?_, ?_, ?_, ?_, ?_⟩ <;> (repeat (first | refine far_cell hgb ?_ | refine far_cells hgb ?_ | refine far_range hgb ?_ | refine far_ranges hgb ?_ | refine there_cell ?_ _ | refine World.there_setCells ?_ _ _ _)) <;> first | exact c16 | exact c17 | exact c18 | exact hr | exact ht)) (fail)
  have HV : Hid (Bk ((((W.drew.setCells b 0 cs).setCell ⟨b, 16, none⟩ (.int .u32 e.p)).setCell ⟨b, 17, none⟩ (.int .u32 e.k)).setCell ⟨b, 18, none⟩ (.int .u32 e.u)) b 28 (e.cells x.l)) := by
    rcases Bk.setCells cs 0 HS1.out.drew with k | k
    · have e0 : (s.cells x.l).take 0 ++ cs ++ (s.cells x.l).drop (0 + cs.length) = Re.cells ⟨e.r, s.p, s.k, s.u⟩ x.l := by
        rw [List.take_zero, List.nil_append, hl, ← HC.out]
        unfold Re.cells
        rw [List.drop_append, c1_length, HS.out.len]
        simp [List.drop_eq_nil_of_le, c1_length, HS.out.len]
      rw [e0] at k
      have o1 : Re.Ok ⟨e.r, s.p, s.k, s.u⟩ := ⟨HF.out.ok.len, HF.out.ok.num, HS.out.p, HS.out.k, HS.out.u⟩
      have k1 := k.set 16 (.int .u32 e.p)
      rw [Re.set_p o1] at k1
      have o2 : Re.Ok ⟨e.r, e.p, s.k, s.u⟩ := ⟨HF.out.ok.len, HF.out.ok.num, HF.out.ok.p, HS.out.k, HS.out.u⟩
      have k2 := k1.set 17 (.int .u32 e.k)
      rw [Re.set_k o2] at k2
      have o3 : Re.Ok ⟨e.r, e.p, e.k, s.u⟩ := ⟨HF.out.ok.len, HF.out.ok.num, HF.out.ok.p, HF.out.ok.k, HS.out.u⟩
      have k3 := k2.set 18 (.int .u32 e.u)
      rw [Re.set_u o3] at k3
      exact k3
    · rw [Re.length HS.out] at k; omega
  have HY : Hid (Bk ((((W.drew.setCells b 0 cs).setCell ⟨b, 16, none⟩ (.int .u32 e.p)).setCell ⟨b, 17, none⟩ (.int .u32 e.k)).setCell ⟨b, 18, none⟩ (.int .u32 e.u)) (b + 1) 28 z26) := by
    refine Bk.other (Bk.other (Bk.other (HZ1.out.drew.mods (mods_setCells (One b) cs 0 (Mods.refl _ _) (.inl rfl)) ?_) ?_ _ _) ?_ _ _) ?_ _ _
    · show ¬ b + 1 = b; omega
    all_goals omega
  have HW : Hid (Below b w ((((W.drew.setCells b 0 cs).setCell ⟨b, 16, none⟩ (.int .u32 e.p)).setCell ⟨b, 17, none⟩ (.int .u32 e.k)).setCell ⟨b, 18, none⟩ (.int .u32 e.u))) := by
    refine Below.setCell (Below.setCell (Below.setCell (Mods.below (S := One b) HB.out.drew (mods_setCells (One b) cs 0 (Mods.refl _ _) (.inl rfl)) (fun k hk => Nat.le_of_eq hk.symm) (Nat.le_of_lt HS1.out.drew.lt)) ?_ _) ?_ _) ?_ _ <;> exact Nat.le_refl b
  clear c16 c17 c18 hr ht hi hl h1 k16 k17 k18 kf HS1 HZ1 HB HF1
  generalize (((W.drew.setCells b 0 cs).setCell ⟨b, 16, none⟩ (.int .u32 e.p)).setCell ⟨b, 17, none⟩ (.int .u32 e.k)).setCell ⟨b, 18, none⟩ (.int .u32 e.u) = V at *
  have HR : Hid (V.rangeAt b 0 (e.cells x.l)) := HV.out.range 0 _ (by simp)
  have HI : Hid ((Try.prog.info? 28).map (·.size) = some (e.cells x.l).length) := by
    show _ = _
    rw [Re.length HF.out.ok, st_size]; rfl
  have HT : Hid (V.there (b + 1) 0 (e.cells x.l).toArray.size) := HY.out.there 0 _ (by rw [List.size_toArray, Re.length HF.out.ok]; exact Nat.le_refl _)
  have HO : Hid ((e.cells x.l).toArray.all (·.oneCell') = true) := all_oneCell_toArray (one_cells x.one)
  have HE : Hid (Bk (V.setCells (b + 1) 0 (e.cells x.l)) (b + 1) 28 (e.cells x.l)) := by
    rcases Bk.setCells (e.cells x.l) 0 HY.out with k | k
    · have e0 : z26.take 0 ++ e.cells x.l ++ z26.drop (0 + (e.cells x.l).length) = e.cells x.l := by
        rw [List.take_zero, List.nil_append, List.drop_eq_nil_of_le (by rw [Re.length HF.out.ok]; exact Nat.le_refl _), List.append_nil]
      rw [e0] at k; exact k
    · rw [Re.length HF.out.ok] at k
      have : z26.length = 26 := rfl
      have : x.l.length = 7 := rfl
      omega
  have HL : Hid (Below w.heap.size w (V.setCells (b + 1) 0 (e.cells x.l))) := by
    rw [hb]
    exact Mods.below (S := One (b + 1)) HW.out (mods_setCells (One (b + 1)) _ 0 (Mods.refl _ _) (.inl rfl)) (fun k hk => hk ▸ Nat.le_succ b) (Nat.le_of_lt HV.out.lt)
  have HJ := Lib.hid HF.out.ok
  clear HF HS HC
  generalize he : e.cells x.l = l at *
  go_wp2_with (first
    | refine wpList_load_mid rfl 28 _ rfl b 0 rfl l _ HR.out Try.underlying28 rfl HI.out ?_
    | refine wpList_store_mid rfl 28 _ _ rfl (b + 1) 0 l.toArray rfl rfl HT.out (by simpa using HI.out) HO.out ?_)
  have hld := run_loadVar_mid (P := Try.prog) _ (b + 1) 0 28 l _ (HE.out.range 0 l (by simp)) Try.underlying28 rfl HI.out
  refine bodyPost_ret (v := .agg l.toArray) ?_ rfl ⟨?_, HL.out⟩
  · simp [results, Try.results29, asAddr, Act.put, hld]
  · unfold sv; rw [he]

set_option maxHeartbeats 1000000 in
theorem save_nil (w : World) (s : Re) (x : Xs) (hs : s.Ok) :
    Calls Try.prog 29 #[.pointer none, sv s x] w fun r w' => r = .returned (sv s x) ∧ Below w.heap.size w w' := by
  have HS := Lib.hid hs
  clear hs
  go_enter Try.func29, Try.ntmps29
  go_upto_region 2 with (refine wl_box rfl _ _ rfl _ rfl ?_)
  rw [z26_new]
  have HV := Lib.hid ((Sb.new w x HS.out).bk.alloc (.cells z26.toArray 28))
  have HY := Lib.hid (Bk.new (w.alloc (.cells (s.cells x.l).toArray 28)) 28 z26)
  rw [show (w.alloc (.cells (s.cells x.l).toArray 28)).heap.size = w.heap.size + 1 by simp] at HY
  have HW := Lib.hid (((Below.refl w.heap.size w).alloc (Nat.le_refl _) (.cells (s.cells x.l).toArray 28)).alloc (by simp) (.cells z26.toArray 28))
  generalize (w.alloc (.cells (s.cells x.l).toArray 28)).alloc (.cells z26.toArray 28) = V at *
  generalize hb : w.heap.size = b at *
  have HR : Hid (V.rangeAt b 0 (s.cells x.l)) := HV.out.range 0 _ (by simp)
  have HI : Hid ((Try.prog.info? 28).map (·.size) = some (s.cells x.l).length) := by
    show _ = _
    rw [Re.length HS.out, st_size]; rfl
  have HT : Hid (V.there (b + 1) 0 (s.cells x.l).toArray.size) := HY.out.there 0 _ (by rw [List.size_toArray, Re.length HS.out]; exact Nat.le_refl _)
  have HO : Hid ((s.cells x.l).toArray.all (·.oneCell') = true) := all_oneCell_toArray (one_cells x.one)
  have HE : Hid (Bk (V.setCells (b + 1) 0 (s.cells x.l)) (b + 1) 28 (s.cells x.l)) := by
    rcases Bk.setCells (s.cells x.l) 0 HY.out with k | k
    · have e0 : z26.take 0 ++ s.cells x.l ++ z26.drop (0 + (s.cells x.l).length) = s.cells x.l := by
        rw [List.take_zero, List.nil_append, List.drop_eq_nil_of_le (by rw [Re.length HS.out]; exact Nat.le_refl _), List.append_nil]
      rw [e0] at k; exact k
    · rw [Re.length HS.out] at k
      have : z26.length = 26 := rfl
      have : x.l.length = 7 := rfl
      omega
  have HL : Hid (Below w.heap.size w (V.setCells (b + 1) 0 (s.cells x.l))) := by
    rw [hb]
    exact Mods.below (S := One (b + 1)) HW.out (mods_setCells (One (b + 1)) _ 0 (Mods.refl _ _) (.inl rfl)) (fun k hk => hk ▸ Nat.le_succ b) (Nat.le_of_lt HV.out.lt)
  clear HS
  generalize he : s.cells x.l = l at *
  go_wp2_with (first
    | refine wpList_load_mid rfl 28 _ rfl b 0 rfl l _ HR.out Try.underlying28 rfl HI.out ?_
    | refine wpList_store_mid rfl 28 _ _ rfl (b + 1) 0 l.toArray rfl rfl HT.out (by simpa using HI.out) HO.out ?_)
  have hld := run_loadVar_mid (P := Try.prog) _ (b + 1) 0 28 l _ (HE.out.range 0 l (by simp)) Try.underlying28 rfl HI.out
  refine bodyPost_ret (v := .agg l.toArray) ?_ rfl ⟨?_, HL.out⟩
  · simp [results, Try.results29, asAddr, Act.put, hld]
  · unfold sv; rw [he]
end Go.Proofs.Ytgljkadelkglbaa.Cs
