/- Program and document side by side: the comparison behind each call. -/
import Derived.Test.YtgljkadelkglbaaHRef2
import Derived.Test.YtgljkadelkglbaaHRef3
import Derived.Test.YtgljkadelkglbaaHRef5
import Derived.Test.YtgljkadelkglbaaHSrc
namespace Go.Proofs.Ytgljkadelkglbaa.Cs
open Go.RowKit Ps Tl

theorem box_new (w : World) (s : Re) (x : Xs) : Below w.heap.size w (w.alloc (.cells (s.cells x.l).toArray 28)) := (Below.refl _ _).alloc (Nat.le_refl _) _

set_option maxRecDepth 100000 in
set_option maxHeartbeats 8000000 in
theorem same_any (w : World) (g m : Nat) (S : Nat → Prop) (e s : Re) (x : Xs) (ss : List Int) (ps : Ps') (hf : Fi w g e ss ps.length) (hr : Rf w m S e ps) (hs : s.Ok) :
    Calls Try.prog 24 #[.pointer (some ⟨g, 0, none⟩), .pointer (some ⟨m, 0, none⟩), sv s x] w fun r w' => r = .returned (.bool true) ∧ Below w.heap.size w w' := by
  have HS := Lib.hid hs
  have HG := Lib.hid hf.bk.lt
  have HMl := Lib.hid hr.lt
  have HU : Hid (¬ S w.heap.size) := fun h => by have := hr.lo _ h; omega
  have HF := Lib.hid (hf.below (box_new w s x))
  have HR := Lib.hid (hr.below (box_new w s x))
  have HT := Lib.hid (Sb.new w x hs)
  have HB := Lib.hid (box_new w s x)
  clear hf hr hs
  go_enter Try.func24, Try.ntmps24
  go_upto_region 1 with (refine wl_box rfl _ _ rfl _ rfl ?_)
  generalize w.alloc (.cells (s.cells x.l).toArray 28) = W at *
  have hmb : m ≠ w.heap.size := Nat.ne_of_lt HMl.out
  generalize hb : w.heap.size = b at *
  go_wp2_with fail
  go_loop [7] (fun i => ∃ k : Nat, k ≤ 18 ∧ i = .int .i64 ((k : Int) - 1)) (fun i => 18 - (intOf i + 1).toNat)
  case atStart => exact ⟨0, by omega, rfl⟩
  case round =>
    obtain ⟨k, hk, rfl⟩ := hrel
    by_cases hlt : k < 18
    · by_cases h0 : k = 0
      · subst h0
        have C := Lib.hid (get_out W g (-1) (.inl (by omega)))
        go_wp2_with (go_at_call 25; refine C.out.mono ?_; rintro _ w' ⟨rfl, rfl⟩)
        go_round
        case rel => exact ⟨1, by omega, rfl⟩
        case measure => simp [intOf]
      · obtain ⟨j, rfl⟩ : ∃ j, k = j + 1 := ⟨k - 1, by omega⟩
        have e1 : ((j + 1 : Nat) : Int) - 1 = j := by omega
        rw [e1]
        clear e1 h0
        by_cases h16 : j < 16
        · have C := Lib.hid (get_in W g e _ _ HF.out j h16)
          have c := HR.out.c_r h16
          have hj' : (j : Int) < 16 := by omega
          generalize e.r.getD j 0 = y at *
          go_wp2_with (go_at_call 25; refine C.out.mono ?_; rintro _ w' ⟨rfl, rfl⟩)
          go_round
          case rel => exact ⟨j + 1 + 1, by omega, by go_num⟩
          case measure => simp [intOf]; omega
        · obtain rfl : j = 16 := by omega
          have C := Lib.hid (get_out W g 16 (.inr (by omega)))
          go_wp2_with (go_at_call 25; refine C.out.mono ?_; rintro _ w' ⟨rfl, rfl⟩)
          go_round
          case rel => exact ⟨18, by omega, rfl⟩
          case measure => simp [intOf]
    · obtain rfl : k = 18 := by omega
      clear hlt hk
      go_upto_region 9 with fail
      go_wp2_with (refine wl_state rfl _ rfl b rfl s x HT.out ?_)
      refine (save_any _ g e s x _ _ HF.out HS.out).mono ?_
      rintro _ w2 ⟨rfl, b2⟩
      have HF2 := Lib.hid (HF.out.below b2)
      have HR2 := Lib.hid (HR.out.below b2)
      have HT2 := Lib.hid (HT.out.below b2)
      have HE := Lib.hid HF.out.ok
      have HB2 : Hid (Below b w w2) := HB.out.trans (b2.mono (Nat.le_of_lt HT.out.lt))
      clear b2 HF HR HT HB
      have HF3 := Lib.hid (HF2.out.below (box_new w2 e x))
      have HR3 := Lib.hid (HR2.out.below (box_new w2 e x))
      have HT3 := Lib.hid (HT2.out.below (box_new w2 e x))
      have HQ3 := Lib.hid (Sb.new w2 x HE.out)
      have HB3 : Hid (Below b w (w2.alloc (.cells (e.cells x.l).toArray 28))) := HB2.out.alloc (Nat.le_of_lt HT2.out.lt) _
      have hqb : w2.heap.size ≠ b := fun h => by have := HT2.out.lt; omega
      go_upto_region 10 with (refine wl_keep rfl _ _ rfl w2 (z26_new w2) rfl e x HE.out rfl ?_)
      clear HF2 HR2 HT2 HB2
      generalize w2.alloc (.cells (e.cells x.l).toArray 28) = W3 at *
      generalize w2.heap.size = q at *
      have HN := Lib.hid hqb
      clear hqb
      have c16 := HR3.out.c_p
      have c17 := HR3.out.c_k
      have c18 := HR3.out.c_u
      have hr := HR3.out.range
      have ht : W3.there b 0 16 := HT3.out.bk.there 0 16 (by rw [Re.length HS.out]; omega)
      have hu := arr_under
      have hi : (Try.prog.info? 24).map (·.size) = some (c1 e.r).length := arr_of HE.out.len
      have hl : (c1 e.r).length = 16 := by rw [c1_length, HE.out.len]
      have h1 := c1_one e.r
      have k16 : (W3.drew.setCells b 0 (c1 e.r)).cell? ⟨b, 16, none⟩ = some (.int .u32 s.p) := near_cells HT3.out.c_p (by omega)
      have k17 : (W3.drew.setCells b 0 (c1 e.r)).cell? ⟨b, 17, none⟩ = some (.int .u32 s.k) := near_cells HT3.out.c_k (by omega)
      have k18 : (W3.drew.setCells b 0 (c1 e.r)).cell? ⟨b, 18, none⟩ = some (.int .u32 s.u) := near_cells HT3.out.c_u (by omega)
      have kf : ∀ i, (W3.drew.setCells b 0 (c1 e.r)).frozen? ⟨b, i, none⟩ = false := fun i => by rw [World.frozen?_setCells]; exact HT3.out.bk.free i
      obtain ⟨cs, hcs⟩ : ∃ cs, c1 e.r = cs := ⟨_, rfl⟩
      have HC := Lib.hid hcs
      rw [hcs] at hr hi hl h1 k16 k17 k18 kf
      clear hcs
      go_region_held3 (fun w' => w'.rangeAt m 0 cs ∧ w'.cell? ⟨m, 16, none⟩ = some (.int .u32 e.p) ∧ w'.cell? ⟨m, 17, none⟩ = some (.int .u32 e.k) ∧ w'.cell? ⟨m, 18, none⟩ = some (.int .u32 e.u) ∧ w'.there b 0 16)
        ((refine ⟨?_, ?_, ?_, ?_, ?_⟩ <;> (repeat (first | refine far_cell hmb ?_ | refine far_cells hmb ?_ | refine far_range hmb ?_ | refine far_ranges hmb ?_ | refine there_cell ?_ _ | refine World.there_setCells ?_ _ _ _)) <;> first | exact c16 | exact c17 | exact c18 | exact hr | exact ht)) (fail)
      have HV : Hid (Sb ((((W3.drew.setCells b 0 cs).setCell ⟨b, 16, none⟩ (.int .u32 e.p)).setCell ⟨b, 17, none⟩ (.int .u32 e.k)).setCell ⟨b, 18, none⟩ (.int .u32 e.u)) b e x) := by
        refine ⟨?_, HE.out⟩
        rcases Bk.setCells cs 0 HT3.out.bk.drew with k | k
        · have e0 : (s.cells x.l).take 0 ++ cs ++ (s.cells x.l).drop (0 + cs.length) = Re.cells ⟨e.r, s.p, s.k, s.u⟩ x.l := by
            rw [List.take_zero, List.nil_append, hl, ← HC.out]
            unfold Re.cells
            rw [List.drop_append, c1_length, HS.out.len]
            simp [List.drop_eq_nil_of_le, c1_length, HS.out.len]
          rw [e0] at k
          have o1 : Re.Ok ⟨e.r, s.p, s.k, s.u⟩ := ⟨HE.out.len, HE.out.num, HS.out.p, HS.out.k, HS.out.u⟩
          have k1 := k.set 16 (.int .u32 e.p)
          rw [Re.set_p o1] at k1
          have o2 : Re.Ok ⟨e.r, e.p, s.k, s.u⟩ := ⟨HE.out.len, HE.out.num, HE.out.p, HS.out.k, HS.out.u⟩
          have k2 := k1.set 17 (.int .u32 e.k)
          rw [Re.set_k o2] at k2
          have o3 : Re.Ok ⟨e.r, e.p, e.k, s.u⟩ := ⟨HE.out.len, HE.out.num, HE.out.p, HE.out.k, HS.out.u⟩
          have k3 := k2.set 18 (.int .u32 e.u)
          rw [Re.set_u o3] at k3
          exact k3
        · rw [Re.length HS.out] at k
          have : x.l.length = 7 := rfl
          omega
      have hM : Mods (One b) W3 ((((W3.drew.setCells b 0 cs).setCell ⟨b, 16, none⟩ (.int .u32 e.p)).setCell ⟨b, 17, none⟩ (.int .u32 e.k)).setCell ⟨b, 18, none⟩ (.int .u32 e.u)) :=
        (((mods_setCells (One b) cs 0 (Mods.refl _ _).drew (.inl rfl)).set (p := ⟨b, 16, none⟩) _ (.inl rfl)).set (p := ⟨b, 17, none⟩) _ (.inl rfl)).set (p := ⟨b, 18, none⟩) _ (.inl rfl)
      have HW : Hid (Below b w ((((W3.drew.setCells b 0 cs).setCell ⟨b, 16, none⟩ (.int .u32 e.p)).setCell ⟨b, 17, none⟩ (.int .u32 e.k)).setCell ⟨b, 18, none⟩ (.int .u32 e.u))) :=
        Mods.below (S := One b) HB3.out hM (fun k hk => Nat.le_of_eq hk.symm) (Nat.le_of_lt HT3.out.lt)
      have HF4 := Lib.hid (HF3.out.mods hM (fun h : g = b => by have := HG.out; omega))
      have HR4 := Lib.hid (HR3.out.keep (w' := (((W3.drew.setCells b 0 cs).setCell ⟨b, 16, none⟩ (.int .u32 e.p)).setCell ⟨b, 17, none⟩ (.int .u32 e.k)).setCell ⟨b, 18, none⟩ (.int .u32 e.u)) (fun k hk => hM.block k (HR3.out.lo k hk) (fun h : k = b => HU.out (h ▸ hk))))
      have HQ4 := Lib.hid (HQ3.out.mods hM (fun h : q = b => HN.out h))
      clear c16 c17 c18 hr ht hi hl h1 k16 k17 k18 kf hM HF3 HR3 HT3 HQ3 HB3 HC
      generalize (((W3.drew.setCells b 0 cs).setCell ⟨b, 16, none⟩ (.int .u32 e.p)).setCell ⟨b, 17, none⟩ (.int .u32 e.k)).setCell ⟨b, 18, none⟩ (.int .u32 e.u) = V at *
      go_wp2_with fail
      have S1 := Lib.hid (later_sb HV.out)
      have S2 := Lib.hid (later_sb HQ4.out)
      have C26 := Lib.hid (fun p : Later V => psl_any p.v g e _ _ (HF4.out.below p.h))
      have C27 := Lib.hid (fun (p : Later V) (u : Bool) => stack_as p.v g e _ _ (HF4.out.below p.h) u _ rfl)
      have C28 := Lib.hid (fun p : Later V => steps_any p.v g e _ _ (HF4.out.below p.h))
      have C40 := Lib.hid (fun (p : Later V) (u : Bool) => rstack_any p.v m S e ps (HR4.out.below p.h) u)
      obtain ⟨A, c, B, d, c26, _⟩ := HR4.out.open_
      have l16 := later_cell HR4.out.c_p
      have l26 := later_cell c26
      clear c26
      generalize ps.length = n at *
      generalize ks e true = y1 at *
      generalize ks e false = y0 at *
      refine wp_region_later (by kernel_rfl) (by kernel_rfl) ?_
      repeat (first
        | (go_big_quiet_want; (first | refine quiet_state _ rfl b (by rfl) e x S1.out ?_ | refine quiet_state _ rfl q (by rfl) e x S2.out ?_ | refine quiet_eql _ _ _ rfl e x HE.out rfl rfl ?_); simp only [Act.put, List.setIfInBounds_toArray, List.set_cons_succ, List.set_cons_zero]; go_big_quiet_on)
        | go_big_quiet_step (first | (go_at_call 26; exact later_same (C26.out _)) | (go_at_call 27; exact later_same (C27.out _ _)) | (go_at_call 28; exact later_same (C28.out _)) | (go_at_call 40; exact later_of (C40.out _ _))))
      refine wpQuiet_nil ?_
      rintro _ ⟨⟨w9, hb9⟩, rfl⟩
      go_wp2
      go_ret
      exact ⟨rfl, below2 (hb ▸ HW.out) hb9⟩
end Go.Proofs.Ytgljkadelkglbaa.Cs
