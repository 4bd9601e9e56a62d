import Derived.Test.YteohkobdmkbcpaaGreatDoorGReg
import Derived.BigRegion
import Derived.OpenShut
import Derived.ChangeSame

/- Contracts of package regs: Put. -/
namespace Go.Proofs.YteohkobdmkbcpaaGreatDoor.Hr
open Go.RowKit Ps Tl

/-- another status -/
def pt (e : Re) (x : Int) : Re :=
  if bi e.p 24 = bi x 24 then ⟨e.r, x, e.k, e.u⟩ else if bi e.p 24 then ⟨e.r.set 14 e.k, x, e.k, e.r.getD 14 0⟩ else ⟨e.r.set 14 e.u, x, e.r.getD 14 0, e.u⟩

theorem user_as (x : Int) (b : Bool) (hx : U x) (hb : bi x 24 = b) (w : World) :
    Calls Tryz.prog 73 #[.int .u32 x] w fun e w' => e = .returned (.bool b) ∧ w = w' := hb ▸ user_any x hx w

theorem beside_t (w : World) (g : Nat) :
    Calls Tryz.prog 74 #[.pointer (some ⟨g, 0, none⟩), .bool true] w fun r w' => r = .returned (.pointer (some ⟨g, 18, none⟩)) ∧ w = w' := beside_any w g true
theorem beside_f (w : World) (g : Nat) :
    Calls Tryz.prog 74 #[.pointer (some ⟨g, 0, none⟩), .bool false] w fun r w' => r = .returned (.pointer (some ⟨g, 17, none⟩)) ∧ w = w' := beside_any w g false

set_option maxHeartbeats 1000000 in
set_option maxRecDepth 100000 in
theorem put_same (w : World) (g : Nat) (e : Re) (ss : List Int) (n : Int) (h : Fi w g e ss n) (x : Int) (hx : U x) (b : Bool) (h1 : bi e.p 24 = b) (h2 : bi x 24 = b) :
    Calls Tryz.prog 52 #[.pointer (some ⟨g, 0, none⟩), .int .u32 x] w fun r w' => r = .returned (.tuple #[]) ∧ Fi w' g (pt e x) ss n ∧ Mods (One g) w w' := by
  have c := h.c_p
  have f := h.free 16
  have HP := Lib.hid (show pt e x = ⟨e.r, x, e.k, e.u⟩ by unfold pt; rw [h1, h2, if_pos rfl])
  have HF := Lib.hid (h.set_p hx)
  have C1 := Lib.hid (user_as e.p b h.ok.p h1)
  have C2 := Lib.hid (user_as x b hx h2)
  obtain ⟨p, hp⟩ : ∃ p, e.p = p := ⟨_, rfl⟩
  rw [hp] at c C1
  clear h hx h1 h2 hp
  go_enter Tryz.func52, Tryz.ntmps52
  go_wp2_with fail
  refine (C1.out _).mono ?_
  rintro _ w' ⟨rfl, rfl⟩
  go_wp2_with fail
  refine (C2.out _).mono ?_
  rintro _ w' ⟨rfl, rfl⟩
  go_wp2_with fail
  first | go_end0 | (refine bodyPost_ret (results_none rfl _ _ _) rfl ?_)
  exact ⟨rfl, by rw [HP.out]; exact HF.out, (Mods.refl _ _).set _ (.inl rfl)⟩

set_option maxHeartbeats 2000000 in
set_option maxRecDepth 100000 in
theorem put_down (w : World) (g : Nat) (e : Re) (ss : List Int) (n : Int) (h : Fi w g e ss n) (x : Int) (hx : U x) (h1 : bi e.p 24 = true) (h2 : bi x 24 = false) :
    Calls Tryz.prog 52 #[.pointer (some ⟨g, 0, none⟩), .int .u32 x] w fun r w' => r = .returned (.tuple #[]) ∧ Fi w' g (pt e x) ss n ∧ Mods (One g) w w' := by
  have c := h.c_p
  have c14 := h.c_r (i := 14) (by omega)
  have ca := h.c_u
  have fa := h.free 18
  have HP := Lib.hid (show pt e x = ⟨e.r.set 14 e.k, x, e.k, e.r.getD 14 0⟩ by unfold pt; rw [h1, h2]; rfl)
  have HX := Lib.hid hx
  have HF := Lib.hid (h.set_u (h.ok.num 14)).drew
  have HM := Lib.hid ((Mods.refl (One g) w).set (p := ⟨g, 18, none⟩) (.int .u32 (e.r.getD 14 0)) (.inl rfl)).drew
  have HK := Lib.hid h.ok.k
  have C1 := Lib.hid (user_as e.p true h.ok.p h1)
  have C2 := Lib.hid (user_as x false hx h2)
  obtain ⟨p, hp⟩ : ∃ p, e.p = p := ⟨_, rfl⟩
  obtain ⟨y, hy⟩ : ∃ y, e.r.getD 14 0 = y := ⟨_, rfl⟩
  rw [hp] at c C1
  rw [hy] at c14 HP HF HM
  clear h hx h1 h2 hp hy
  go_enter Tryz.func52, Tryz.ntmps52
  go_wp2_with fail
  refine (C1.out _).mono ?_
  rintro _ w' ⟨rfl, rfl⟩
  go_wp2_with fail
  refine (C2.out _).mono ?_
  rintro _ w' ⟨rfl, rfl⟩
  go_wp2_with fail
  go_region_with (go_at_call 74; refine (beside_t _ g).mono ?_; rintro _ w' ⟨rfl, rfl⟩)
  all_goals
    clear c14 ca fa c
    go_wp2_with fail
    generalize (w.setCell ⟨g, 18, none⟩ (.int .u32 y)).drew = v at *
    have cb := HF.out.c_k
    have c14 := HF.out.c_r (i := 14) (by omega)
    have f14 := HF.out.free 14
    have HF2 := Lib.hid (HF.out.set_r (i := 14) (by omega) HK.out).drew
    have HM2 := Lib.hid (HM.out.set (p := ⟨g, 14, none⟩) (.int .u32 e.k) (.inl rfl)).drew
    clear HF HM
    go_region_with (go_at_call 74; refine (beside_f _ g).mono ?_; rintro _ w' ⟨rfl, rfl⟩)
    all_goals
      clear cb c14 f14
      go_upto_region 5 with fail
      generalize (v.setCell ⟨g, 14, none⟩ (.int .u32 e.k)).drew = v2 at *
      have cp := HF2.out.c_p
      have fp := HF2.out.free 16
      go_wp2
      first | go_end0 | (refine bodyPost_ret (results_none rfl _ _ _) rfl ?_)
      exact ⟨rfl, by rw [HP.out]; exact HF2.out.set_p HX.out, HM2.out.set _ (.inl rfl)⟩

set_option maxHeartbeats 2000000 in
set_option maxRecDepth 100000 in
theorem put_up (w : World) (g : Nat) (e : Re) (ss : List Int) (n : Int) (h : Fi w g e ss n) (x : Int) (hx : U x) (h1 : bi e.p 24 = false) (h2 : bi x 24 = true) :
    Calls Tryz.prog 52 #[.pointer (some ⟨g, 0, none⟩), .int .u32 x] w fun r w' => r = .returned (.tuple #[]) ∧ Fi w' g (pt e x) ss n ∧ Mods (One g) w w' := by
  have c := h.c_p
  have c14 := h.c_r (i := 14) (by omega)
  have ca := h.c_k
  have fa := h.free 17
  have HP := Lib.hid (show pt e x = ⟨e.r.set 14 e.u, x, e.r.getD 14 0, e.u⟩ by unfold pt; rw [h1, h2]; rfl)
  have HX := Lib.hid hx
  have HF := Lib.hid (h.set_k (h.ok.num 14)).drew
  have HM := Lib.hid ((Mods.refl (One g) w).set (p := ⟨g, 17, none⟩) (.int .u32 (e.r.getD 14 0)) (.inl rfl)).drew
  have HK := Lib.hid h.ok.u
  have C1 := Lib.hid (user_as e.p false h.ok.p h1)
  have C2 := Lib.hid (user_as x true hx h2)
  obtain ⟨p, hp⟩ : ∃ p, e.p = p := ⟨_, rfl⟩
  obtain ⟨y, hy⟩ : ∃ y, e.r.getD 14 0 = y := ⟨_, rfl⟩
  rw [hp] at c C1
  rw [hy] at c14 HP HF HM
  clear h hx h1 h2 hp hy
  go_enter Tryz.func52, Tryz.ntmps52
  go_wp2_with fail
  refine (C1.out _).mono ?_
  rintro _ w' ⟨rfl, rfl⟩
  go_wp2_with fail
  refine (C2.out _).mono ?_
  rintro _ w' ⟨rfl, rfl⟩
  go_wp2_with fail
  go_region_with (go_at_call 74; refine (beside_f _ g).mono ?_; rintro _ w' ⟨rfl, rfl⟩)
  all_goals
    clear c14 ca fa c
    go_wp2_with fail
    generalize (w.setCell ⟨g, 17, none⟩ (.int .u32 y)).drew = v at *
    have cb := HF.out.c_u
    have c14 := HF.out.c_r (i := 14) (by omega)
    have f14 := HF.out.free 14
    have HF2 := Lib.hid (HF.out.set_r (i := 14) (by omega) HK.out).drew
    have HM2 := Lib.hid (HM.out.set (p := ⟨g, 14, none⟩) (.int .u32 e.u) (.inl rfl)).drew
    clear HF HM
    go_region_with (go_at_call 74; refine (beside_t _ g).mono ?_; rintro _ w' ⟨rfl, rfl⟩)
    all_goals
      clear cb c14 f14
      go_upto_region 5 with fail
      generalize (v.setCell ⟨g, 14, none⟩ (.int .u32 e.u)).drew = v2 at *
      have cp := HF2.out.c_p
      have fp := HF2.out.free 16
      go_wp2
      first | go_end0 | (refine bodyPost_ret (results_none rfl _ _ _) rfl ?_)
      exact ⟨rfl, by rw [HP.out]; exact HF2.out.set_p HX.out, HM2.out.set _ (.inl rfl)⟩

theorem put_any (w : World) (g : Nat) (e : Re) (ss : List Int) (n : Int) (h : Fi w g e ss n) (x : Int) (hx : U x) :
    Calls Tryz.prog 52 #[.pointer (some ⟨g, 0, none⟩), .int .u32 x] w fun r w' => r = .returned (.tuple #[]) ∧ Fi w' g (pt e x) ss n ∧ Mods (One g) w w' := by
  cases h1 : bi e.p 24 <;> cases h2 : bi x 24
  · exact put_same w g e ss n h x hx _ h1 h2
  · exact put_up w g e ss n h x hx h1 h2
  · exact put_down w g e ss n h x hx h1 h2
  · exact put_same w g e ss n h x hx _ h1 h2
end Go.Proofs.YteohkobdmkbcpaaGreatDoor.Hr

/- Contracts of package regs: Save. -/
namespace Go.Proofs.YteohkobdmkbcpaaGreatDoor.Hr
open Go.RowKit Ps Tl

/-- a state of noughts -/
def z26 : List Value := Re.nul.cells (Xs.l ⟨0, 0, 0, 0, 0, 0, 0⟩)
theorem z26_new (w : World) : w.alloc (.cells #[.int .u32 0, .int .u32 0, .int .u32 0, .int .u32 0, .int .u32 0, .int .u32 0, .int .u32 0, .int .u32 0, .int .u32 0, .int .u32 0, .int .u32 0, .int .u32 0, .int .u32 0, .int .u32 0, .int .u32 0, .int .u32 0, .int .u32 0, .int .u32 0, .int .u32 0, .int .u32 0, .int .u32 0, .int .u32 0, .int .u32 0, .int .u32 0, .int .u32 0, .int .i64 0] 28) = w.alloc (.cells z26.toArray 28) := rfl

section
variable {w : World} {b g i o n : Nat} {v u : Value} {vs cs : List Value}
theorem far_cells (hb : g ≠ b) (h : w.cell? ⟨g, i, none⟩ = some v) : (w.setCells b o vs).cell? ⟨g, i, none⟩ = some v := by
  rw [World.cell?_setCells_out b vs o w ⟨g, i, none⟩ (fun h1 _ => absurd h1 hb)]; exact h
theorem far_cell (hb : g ≠ b) (h : w.cell? ⟨g, i, none⟩ = some v) : (w.setCell ⟨b, o, none⟩ u).cell? ⟨g, i, none⟩ = some v := by
  rw [World.cell?_setCell_other _ _ _ _ (by intro e; injection e with e1 e2; exact hb e1.symm)]; exact h
theorem far_range (hb : g ≠ b) (h : w.rangeAt g i cs) : (w.setCell ⟨b, o, none⟩ u).rangeAt g i cs := fun j v hv => far_cell hb (h j v hv)
theorem far_ranges (hb : g ≠ b) (h : w.rangeAt g i cs) : (w.setCells b o vs).rangeAt g i cs := fun j v hv => far_cells hb (h j v hv)
theorem there_cell (h : w.there b i n) (b' : Nat) : (w.setCell ⟨b', o, none⟩ u).there b i n := by
  have := World.there_setCells h b' o [u]
  simpa [World.setCells] using this
theorem near_cells (h : w.cell? ⟨b, i, none⟩ = some v) (hi : vs.length ≤ i) : (w.setCells b 0 vs).cell? ⟨b, i, none⟩ = some v := by
  rw [World.cell?_setCells_out b vs 0 w ⟨b, i, none⟩ (fun _ _ => .inr (by show 0 + vs.length ≤ i; omega))]; exact h
end

set_option maxHeartbeats 2000000 in
set_option maxRecDepth 100000 in
theorem save_any (w : World) (g : Nat) (e s : Re) (x : Xs) (ss : List Int) (n : Int) (h : Fi w g e ss n) (hs : s.Ok) :
    Calls Tryz.prog 28 #[.pointer (some ⟨g, 0, none⟩), sv s x] w fun r w' => r = .returned (sv e x) ∧ Below w.heap.size w w' := by
  have HF := Lib.hid h
  have HS := Lib.hid hs
  clear h hs
  go_enter Tryz.func28, Tryz.ntmps28
  go_upto_region 3 with (refine wl_box rfl _ _ rfl _ rfl ?_)
  rw [z26_new]
  have hgb : g ≠ w.heap.size := Nat.ne_of_lt HF.out.bk.lt
  have HF1 := Lib.hid ((HF.out.bk.alloc (.cells (s.cells x.l).toArray 28)).alloc (.cells z26.toArray 28))
  have HS1 := Lib.hid ((Sb.new w x HS.out).bk.alloc (.cells z26.toArray 28))
  have HZ1 := Lib.hid (Bk.new (w.alloc (.cells (s.cells x.l).toArray 28)) 28 z26)
  rw [show (w.alloc (.cells (s.cells x.l).toArray 28)).heap.size = w.heap.size + 1 by simp] at HZ1
  have HB := Lib.hid (((Below.refl w.heap.size w).alloc (Nat.le_refl _) (.cells (s.cells x.l).toArray 28)).alloc (by simp) (.cells z26.toArray 28))
  generalize (w.alloc (.cells (s.cells x.l).toArray 28)).alloc (.cells z26.toArray 28) = W at *
  generalize hb : w.heap.size = b at *
  have c16 := HF1.out.cell 16 _ (Re.at_p HF.out.ok _)
  have c17 := HF1.out.cell 17 _ (Re.at_k HF.out.ok _)
  have c18 := HF1.out.cell 18 _ (Re.at_u HF.out.ok _)
  have hr : W.rangeAt g 0 (c1 e.r) := HF1.out.range 0 _ (Re.drop_r e _)
  have ht : W.there b 0 16 := HS1.out.there 0 16 (by rw [Re.length HS.out]; omega)
  have hu := arr_under
  have hi : (Tryz.prog.info? 24).map (·.size) = some (c1 e.r).length := arr_of HF.out.ok.len
  have hl : (c1 e.r).length = 16 := by rw [c1_length, HF.out.ok.len]
  have h1 := c1_one e.r
  have k16 : (W.drew.setCells b 0 (c1 e.r)).cell? ⟨b, 16, none⟩ = some (.int .u32 s.p) := near_cells (HS1.out.cell 16 _ (Re.at_p HS.out _)) (by omega)
  have k17 : (W.drew.setCells b 0 (c1 e.r)).cell? ⟨b, 17, none⟩ = some (.int .u32 s.k) := near_cells (HS1.out.cell 17 _ (Re.at_k HS.out _)) (by omega)
  have k18 : (W.drew.setCells b 0 (c1 e.r)).cell? ⟨b, 18, none⟩ = some (.int .u32 s.u) := near_cells (HS1.out.cell 18 _ (Re.at_u HS.out _)) (by omega)
  have kf : ∀ i, (W.drew.setCells b 0 (c1 e.r)).frozen? ⟨b, i, none⟩ = false := fun i => by rw [World.frozen?_setCells]; exact HS1.out.free i
  obtain ⟨cs, hcs⟩ : ∃ cs, c1 e.r = cs := ⟨_, rfl⟩
  have HC := Lib.hid hcs
  rw [hcs] at hr hi hl h1 k16 k17 k18 kf
  clear hcs
  go_region_held3 (fun w' => w'.rangeAt g 0 cs ∧ w'.cell? ⟨g, 16, none⟩ = some (.int .u32 e.p) ∧ w'.cell? ⟨g, 17, none⟩ = some (.int .u32 e.k) ∧ w'.cell? ⟨g, 18, none⟩ = some (.int .u32 e.u) ∧ w'.there b 0 16) 
    ((refine ⟨?_, ?_, ?_, ?_, ?_⟩ <;> (repeat (first | refine far_cell hgb ?_ | refine far_cells hgb ?_ | refine far_range hgb ?_ | refine far_ranges hgb ?_ | refine there_cell ?_ _ | refine World.there_setCells ?_ _ _ _)) <;> first | exact c16 | exact c17 | exact c18 | exact hr | exact ht)) (fail)
  have HV : Hid (Bk ((((W.drew.setCells b 0 cs).setCell ⟨b, 16, none⟩ (.int .u32 e.p)).setCell ⟨b, 17, none⟩ (.int .u32 e.k)).setCell ⟨b, 18, none⟩ (.int .u32 e.u)) b 28 (e.cells x.l)) := by
    rcases Bk.setCells cs 0 HS1.out.drew with k | k
    · have e0 : (s.cells x.l).take 0 ++ cs ++ (s.cells x.l).drop (0 + cs.length) = Re.cells ⟨e.r, s.p, s.k, s.u⟩ x.l := by
        rw [List.take_zero, List.nil_append, hl, ← HC.out]
        unfold Re.cells
        rw [List.drop_append, c1_length, HS.out.len]
        simp [List.drop_eq_nil_of_le, c1_length, HS.out.len]
      rw [e0] at k
      have o1 : Re.Ok ⟨e.r, s.p, s.k, s.u⟩ := ⟨HF.out.ok.len, HF.out.ok.num, HS.out.p, HS.out.k, HS.out.u⟩
      have k1 := k.set 16 (.int .u32 e.p)
      rw [Re.set_p o1] at k1
      have o2 : Re.Ok ⟨e.r, e.p, s.k, s.u⟩ := ⟨HF.out.ok.len, HF.out.ok.num, HF.out.ok.p, HS.out.k, HS.out.u⟩
      have k2 := k1.set 17 (.int .u32 e.k)
      rw [Re.set_k o2] at k2
      have o3 : Re.Ok ⟨e.r, e.p, e.k, s.u⟩ := ⟨HF.out.ok.len, HF.out.ok.num, HF.out.ok.p, HF.out.ok.k, HS.out.u⟩
      have k3 := k2.set 18 (.int .u32 e.u)
      rw [Re.set_u o3] at k3
      exact k3
    · rw [Re.length HS.out] at k; omega
  have HY : Hid (Bk ((((W.drew.setCells b 0 cs).setCell ⟨b, 16, none⟩ (.int .u32 e.p)).setCell ⟨b, 17, none⟩ (.int .u32 e.k)).setCell ⟨b, 18, none⟩ (.int .u32 e.u)) (b + 1) 28 z26) := by
    refine Bk.other (Bk.other (Bk.other (HZ1.out.drew.mods (mods_setCells (One b) cs 0 (Mods.refl _ _) (.inl rfl)) ?_) ?_ _ _) ?_ _ _) ?_ _ _
    · show ¬ b + 1 = b; omega
    all_goals omega
  have HW : Hid (Below b w ((((W.drew.setCells b 0 cs).setCell ⟨b, 16, none⟩ (.int .u32 e.p)).setCell ⟨b, 17, none⟩ (.int .u32 e.k)).setCell ⟨b, 18, none⟩ (.int .u32 e.u))) := by
    refine Below.setCell (Below.setCell (Below.setCell (Mods.below (S := One b) HB.out.drew (mods_setCells (One b) cs 0 (Mods.refl _ _) (.inl rfl)) (fun k hk => Nat.le_of_eq hk.symm) (Nat.le_of_lt HS1.out.drew.lt)) ?_ _) ?_ _) ?_ _ <;> exact Nat.le_refl b
  clear c16 c17 c18 hr ht hi hl h1 k16 k17 k18 kf HS1 HZ1 HB HF1
  generalize (((W.drew.setCells b 0 cs).setCell ⟨b, 16, none⟩ (.int .u32 e.p)).setCell ⟨b, 17, none⟩ (.int .u32 e.k)).setCell ⟨b, 18, none⟩ (.int .u32 e.u) = V at *
  have HR : Hid (V.rangeAt b 0 (e.cells x.l)) := HV.out.range 0 _ (by simp)
  have HI : Hid ((Tryz.prog.info? 28).map (·.size) = some (e.cells x.l).length) := by
    show _ = _
    rw [Re.length HF.out.ok, st_size]; rfl
  have HT : Hid (V.there (b + 1) 0 (e.cells x.l).toArray.size) := HY.out.there 0 _ (by rw [List.size_toArray, Re.length HF.out.ok]; exact Nat.le_refl _)
  have HO : Hid ((e.cells x.l).toArray.all (·.oneCell') = true) := all_oneCell_toArray (one_cells x.one)
  have HE : Hid (Bk (V.setCells (b + 1) 0 (e.cells x.l)) (b + 1) 28 (e.cells x.l)) := by
    rcases Bk.setCells (e.cells x.l) 0 HY.out with k | k
    · have e0 : z26.take 0 ++ e.cells x.l ++ z26.drop (0 + (e.cells x.l).length) = e.cells x.l := by
        rw [List.take_zero, List.nil_append, List.drop_eq_nil_of_le (by rw [Re.length HF.out.ok]; exact Nat.le_refl _), List.append_nil]
      rw [e0] at k; exact k
    · rw [Re.length HF.out.ok] at k
      have : z26.length = 26 := rfl
      have : x.l.length = 7 := rfl
      omega
  have HL : Hid (Below w.heap.size w (V.setCells (b + 1) 0 (e.cells x.l))) := by
    rw [hb]
    exact Mods.below (S := One (b + 1)) HW.out (mods_setCells (One (b + 1)) _ 0 (Mods.refl _ _) (.inl rfl)) (fun k hk => hk ▸ Nat.le_succ b) (Nat.le_of_lt HV.out.lt)
  have HJ := Lib.hid HF.out.ok
  clear HF HS HC
  generalize he : e.cells x.l = l at *
  go_wp2_with (first
    | refine wpList_load_mid rfl 28 _ rfl b 0 rfl l _ HR.out Tryz.underlying28 rfl HI.out ?_
    | refine wpList_store_mid rfl 28 _ _ rfl (b + 1) 0 l.toArray rfl rfl HT.out (by simpa using HI.out) HO.out ?_)
  have hld := run_loadVar_mid (P := Tryz.prog) _ (b + 1) 0 28 l _ (HE.out.range 0 l (by simp)) Tryz.underlying28 rfl HI.out
  refine bodyPost_ret (v := .agg l.toArray) ?_ rfl ⟨?_, HL.out⟩
  · simp [results, Tryz.results28, asAddr, Act.put, hld]
  · unfold sv; rw [he]

set_option maxHeartbeats 1000000 in
set_option maxRecDepth 100000 in
theorem save_nil (w : World) (s : Re) (x : Xs) (hs : s.Ok) :
    Calls Tryz.prog 28 #[.pointer none, sv s x] w fun r w' => r = .returned (sv s x) ∧ Below w.heap.size w w' := by
  have HS := Lib.hid hs
  clear hs
  go_enter Tryz.func28, Tryz.ntmps28
  go_upto_region 2 with (refine wl_box rfl _ _ rfl _ rfl ?_)
  rw [z26_new]
  have HV := Lib.hid ((Sb.new w x HS.out).bk.alloc (.cells z26.toArray 28))
  have HY := Lib.hid (Bk.new (w.alloc (.cells (s.cells x.l).toArray 28)) 28 z26)
  rw [show (w.alloc (.cells (s.cells x.l).toArray 28)).heap.size = w.heap.size + 1 by simp] at HY
  have HW := Lib.hid (((Below.refl w.heap.size w).alloc (Nat.le_refl _) (.cells (s.cells x.l).toArray 28)).alloc (by simp) (.cells z26.toArray 28))
  generalize (w.alloc (.cells (s.cells x.l).toArray 28)).alloc (.cells z26.toArray 28) = V at *
  generalize hb : w.heap.size = b at *
  have HR : Hid (V.rangeAt b 0 (s.cells x.l)) := HV.out.range 0 _ (by simp)
  have HI : Hid ((Tryz.prog.info? 28).map (·.size) = some (s.cells x.l).length) := by
    show _ = _
    rw [Re.length HS.out, st_size]; rfl
  have HT : Hid (V.there (b + 1) 0 (s.cells x.l).toArray.size) := HY.out.there 0 _ (by rw [List.size_toArray, Re.length HS.out]; exact Nat.le_refl _)
  have HO : Hid ((s.cells x.l).toArray.all (·.oneCell') = true) := all_oneCell_toArray (one_cells x.one)
  have HE : Hid (Bk (V.setCells (b + 1) 0 (s.cells x.l)) (b + 1) 28 (s.cells x.l)) := by
    rcases Bk.setCells (s.cells x.l) 0 HY.out with k | k
    · have e0 : z26.take 0 ++ s.cells x.l ++ z26.drop (0 + (s.cells x.l).length) = s.cells x.l := by
        rw [List.take_zero, List.nil_append, List.drop_eq_nil_of_le (by rw [Re.length HS.out]; exact Nat.le_refl _), List.append_nil]
      rw [e0] at k; exact k
    · rw [Re.length HS.out] at k
      have : z26.length = 26 := rfl
      have : x.l.length = 7 := rfl
      omega
  have HL : Hid (Below w.heap.size w (V.setCells (b + 1) 0 (s.cells x.l))) := by
    rw [hb]
    exact Mods.below (S := One (b + 1)) HW.out (mods_setCells (One (b + 1)) _ 0 (Mods.refl _ _) (.inl rfl)) (fun k hk => hk ▸ Nat.le_succ b) (Nat.le_of_lt HV.out.lt)
  clear HS
  generalize he : s.cells x.l = l at *
  go_wp2_with (first
    | refine wpList_load_mid rfl 28 _ rfl b 0 rfl l _ HR.out Tryz.underlying28 rfl HI.out ?_
    | refine wpList_store_mid rfl 28 _ _ rfl (b + 1) 0 l.toArray rfl rfl HT.out (by simpa using HI.out) HO.out ?_)
  have hld := run_loadVar_mid (P := Tryz.prog) _ (b + 1) 0 28 l _ (HE.out.range 0 l (by simp)) Tryz.underlying28 rfl HI.out
  refine bodyPost_ret (v := .agg l.toArray) ?_ rfl ⟨?_, HL.out⟩
  · simp [results, Tryz.results28, asAddr, Act.put, hld]
  · unfold sv; rw [he]
end Go.Proofs.YteohkobdmkbcpaaGreatDoor.Hr

/- A state that comes in. -/
namespace Go.Proofs.YteohkobdmkbcpaaGreatDoor.Hr
open Go.RowKit Go.ChangeShapes Go.WideShapes Ps Tl

theorem cells_arr : Tryz.prog.cellsOf 24 = 16 := by kernel_rfl
theorem cells_u32 : Tryz.prog.cellsOf 23 = 1 := by kernel_rfl
theorem cells_int : Tryz.prog.cellsOf 3 = 1 := by kernel_rfl
theorem cells_tab : Tryz.prog.cellsOf 26 = 5 := by kernel_rfl
theorem cells_st : Tryz.prog.cellsOf 28 = 26 := by kernel_rfl

section
variable {H : Type} {enc : TypeId × Value → H} {w : World} {base : Nat} {spare : Nat → Bool} {held : Bool} {fuel : Nat} {cs : List Value} {x : DataW H × List MemPlace}
theorem U_of' {a : Int} (h : (Lit.int .u32 a).wf = true) : U a := by have := bounds_u32 h; exact ⟨by omega, by omega⟩
def num (v : Value) : Int := match v with | .int _ a => a | _ => 0
theorem ints_of (h : DataW.trod enc Tryz.prog w base spare held fuel 24 cs = some x) : ∃ rs, cs = c1 rs ∧ rs.length = 16 ∧ ∀ i, U (rs.getD i 0) := by
  obtain ⟨xs, m, _, _, hl, hxl, hf⟩ := DataW.trod_array Tryz.underlying24 h
  rw [cells_arr] at hl
  have key : ∀ i, i < 16 → ∃ a, cs[i]? = some (.int .u32 a) ∧ U a := fun i hi => by
    have g := hf i hi
    rw [cells_u32, Nat.mul_one, List.getElem?_eq_getElem (by omega)] at g
    obtain ⟨a, e, _, hw⟩ := DataW.trod_int Tryz.underlying23 g
    refine ⟨a, ?_, U_of' hw⟩
    have : ((cs.drop i).take 1)[0]? = some (.int .u32 a) := by rw [e]; rfl
    simpa using this
  refine ⟨cs.map num, ?_, by simp [hl], fun i => ?_⟩
  · apply List.ext_getElem?
    intro i
    by_cases hi : i < 16
    · obtain ⟨a, ha, _⟩ := key i hi
      simp [c1, ha, num]
    · rw [List.getElem?_eq_none (by omega), List.getElem?_eq_none (by simp [c1]; omega)]
  · by_cases hi : i < 16
    · obtain ⟨a, ha, hu⟩ := key i hi
      simp only [List.getD, List.getElem?_map, ha, Option.map_some, Option.getD_some, num]
      exact hu
    · simp only [List.getD, List.getElem?_map, List.getElem?_eq_none (show cs.length ≤ i by omega), Option.map_none, Option.getD_none]
      exact ⟨by omega, by omega⟩
set_option maxRecDepth 100000 in
theorem state_cells (h : DataW.trod enc Tryz.prog w base spare held fuel 28 cs = some x) : ∃ (e : Re) (y : Xs), cs = e.cells y.l ∧ e.Ok := by
  obtain ⟨ys, n', _, _, hl, hyl, hf⟩ := DataW.trod_struct Tryz.underlying28 h
  rw [cells_st] at hl
  match cs, hl, ys, hyl with
  | [v0, v1, v2, v3, v4, v5, v6, v7, v8, v9, v10, v11, v12, v13, v14, v15, v16, v17, v18, v19, v20, v21, v22, v23, v24, v25], _, [y0, y1, y2, y3, y4, y5, y6], _ =>
    have g0 := hf 0 _ rfl
    have g1 := hf 1 _ rfl
    have g2 := hf 2 _ rfl
    have g3 := hf 3 _ rfl
    have g4 := hf 4 _ rfl
    have g5 := hf 5 _ rfl
    have g6 := hf 6 _ rfl
    simp [cells_arr, cells_u32, cells_int, cells_tab] at g0 g1 g2 g3 g4 g5 g6
    obtain ⟨rs, er, hrl, hru⟩ := ints_of g0
    obtain ⟨p, e1, _, h1⟩ := DataW.trod_int Tryz.underlying23 g1
    obtain ⟨k, e2, _, h2⟩ := DataW.trod_int Tryz.underlying23 g2
    obtain ⟨u, e3, _, h3⟩ := DataW.trod_int Tryz.underlying23 g3
    obtain ⟨a5, e5, _, _⟩ := DataW.trod_int Tryz.underlying23 g5
    obtain ⟨a6, e6, _, _⟩ := DataW.trod_int Tryz.underlying3 g6
    obtain ⟨zs, n2, _, _, _, hzl, hf4⟩ := DataW.trod_struct Tryz.underlying26 g4
    match zs, hzl with
    | [z0, z1, z2, z3, z4], _ =>
      have i0 := hf4 0 _ rfl
      have i1 := hf4 1 _ rfl
      have i2 := hf4 2 _ rfl
      have i3 := hf4 3 _ rfl
      have i4 := hf4 4 _ rfl
      simp [cells_u32] at i0 i1 i2 i3 i4
      obtain ⟨b0, d0, _, _⟩ := DataW.trod_int Tryz.underlying23 i0
      obtain ⟨b1, d1, _, _⟩ := DataW.trod_int Tryz.underlying23 i1
      obtain ⟨b2, d2, _, _⟩ := DataW.trod_int Tryz.underlying23 i2
      obtain ⟨b3, d3, _, _⟩ := DataW.trod_int Tryz.underlying23 i3
      obtain ⟨b4, d4, _, _⟩ := DataW.trod_int Tryz.underlying23 i4
      simp at e1 e2 e3 e5 e6 d0 d1 d2 d3 d4
      subst e1 e2 e3 e5 e6 d0 d1 d2 d3 d4
      refine ⟨⟨rs, p, k, u⟩, ⟨b0, b1, b2, b3, b4, a5, a6⟩, ?_, ⟨hrl, hru, U_of' h1, U_of' h2, U_of' h3⟩⟩
      unfold Re.cells
      rw [← er]
      rfl
end
/-- a state: its numbers, and what else it holds -/
structure Sx where
  e : Re
  x : Xs
def Sx.Ok (t : Sx) : Prop := t.e.Ok
set_option maxRecDepth 100000 in
theorem state_of {H : Type} {enc : TypeId × Value → H} {w : World} {base b0 : Nat} {r : Reach} {spare : Nat → Bool} {held : Bool} {v : Value} {d : DataW H} {ps : List MemPlace}
    (hval : Value.okWide Tryz.prog w r b0 28 v) (hd : DataW.Trod enc Tryz.prog w base spare held 28 v d ps) : ∃ t : Sx, v = sv t.e t.x ∧ t.Ok := by
  obtain ⟨cs, rfl, _⟩ := okWide_struct Tryz.underlying28 hval
  obtain ⟨fuel, hf⟩ := hd
  obtain ⟨e, y, he, ho⟩ := state_cells hf
  refine ⟨⟨e, y⟩, ?_, ho⟩
  unfold sv
  rw [← he]; rfl
end Go.Proofs.YteohkobdmkbcpaaGreatDoor.Hr
