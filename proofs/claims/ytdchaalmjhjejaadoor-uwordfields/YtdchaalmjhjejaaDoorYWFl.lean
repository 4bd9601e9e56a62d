/- The walk of UwordFields. -/
import Derived.Test.YtdchaalmjhjejaaDoorYWFz
namespace Go.Proofs.YtdchaalmjhjejaaDoor.Cs
open Go.RowKit Go.ChangeShapes Go.WideShapes Tl Tl.Ia
set_option linter.unusedVariables false
set_option linter.unusedSimpArgs false

/-- what is held while the fields are gone over -/
structure Fd (w : World) (r b : Nat) (p : Nat → Int) (W : World) : Prop where
  k1 : Bk W r 51 fc
  k2 : Bk W b 23 (cw p)
  b0 : w.heap.size ≤ b
  bel : Below w.heap.size w W
  gl : Gl W
theorem Fd.below {w W W' : World} {r b : Nat} {p : Nat → Int} (h : Fd w r b p W) (m : Below W.heap.size W W') : Fd w r b p W' :=
  ⟨h.k1.below m, h.k2.below m, h.b0, bel_trans h.bel m h.bel.size, h.gl.below m⟩
abbrev AtC (l : List UInt8) (j : Int) : Prop := ∀ W, Calls Tryd.prog 13 #[.string (sb l)] W fun e w' => e = .returned (.int .i64 j) ∧ Below W.heap.size W w'
abbrev BtC (l : List UInt8) (j : Int) : Prop := ∀ W, Gl W → Calls Tryd.prog 17 #[.string (sb l)] W fun e w' => e = .returned (.int .i64 j) ∧ Below W.heap.size W w'
abbrev RsC (p : Nat → Int) (l : List UInt8) (x : Int) (q : Nat → Int) (e : Int) : Prop := ∀ W, Gl W → Calls Tryd.prog 16 #[.agg (cw p).toArray, .string (sb l), .int .i64 x] W fun r w' => r = .returned (.tuple #[.agg (cw q).toArray, .int .i64 e]) ∧ Below W.heap.size W w'
theorem rsC_of {p : Nat → Int} {l : List UInt8} {x : Int} {q : Nat → Int} {e : Int} (h : stF p l x = (q, e)) : RsC p l x q e := fun W g => by
  have := rset_any p l x W g
  rw [h] at this
  exact this

set_option maxHeartbeats 6400000 in
set_option maxRecDepth 100000 in
theorem fields_in (p q : Nat → Int) (l : List UInt8) (x e j bt pt : Int) (w : World) (hg : Gl w) (hl : (l.length : Int) ≤ 256) (h1 : AtC l j) (h2 : BtC l bt) (h3 : GtC p l pt) (h4 : StC p l x q e) (h5 : RsC p l x q e)
    (hj : j = -1 ∧ bt = 0 ∧ pt = 0 ∨ ∃ i : Nat, i < 12 ∧ j = i ∧ bt = wd i ∧ pt = p i) (he : ¬ e = 0 ∨ e = 0 ∧ GtC q l x) :
    Calls Tryd.prog 3 #[.agg (cw p).toArray, .string (sb l), .int .i64 x] w fun e w' => e = .returned (.bool true) ∧ Below w.heap.size w w' := by
  have HV := Lib.hid (Ws.box w p hg)
  have HA := Lib.hid alive_any
  have C1 := Lib.hid h1
  have C2 := Lib.hid h2
  have C3 := Lib.hid h3
  have C4 := Lib.hid h4
  have C5 := Lib.hid h5
  have HJ := Lib.hid hj
  have HE := Lib.hid he
  clear hg h1 h2 h3 h4 h5 hj he
  go_enter Tryd.func3, Tryd.ntmps3
  go_wp2_with (first
      | (refine wl_box rfl _ _ rfl (cw p) rfl ?_; generalize w.alloc (.cells (cw p).toArray 23) = W at *)
      | (go_at_call 9; with_reducible refine (HA.out _ HV.out.gl).mono ?_; rintro e w1 ⟨rfl, hb⟩; replace HV := Lib.hid (HV.out.below hb); clear hb)
      | (go_at_call 10; refine (fields_any _ HV.out.gl).mono ?_; rintro e w2 ⟨r, rfl, hr, hk, hb⟩; have HD : Hid (Fd w r w.heap.size p w2) := Lib.hid ⟨hk, (HV.out.at_ _ _ (by simp)).below hb, Nat.le_refl _, bel_trans HV.out.bel hb HV.out.bel.size, HV.out.gl.below hb⟩; clear hb hk hr)
      | fail)
  clear HV HA
  generalize hb : w.heap.size = b at *
  go_loopw [28] (fun j W => ∃ k : Nat, k ≤ 12 ∧ j = .int .i64 k ∧ Fd w r b p W) (fun j _ => 12 - (intOf j).toNat)
  case atStart => exact ⟨0, by omega, rfl, HD.out⟩
  case round =>
    clear HD
    obtain ⟨k, hk, rfl, hD⟩ := hrel
    have HD := Lib.hid hD
    by_cases hlt : k < 12
    · have hk' : (k : Int) < 12 := by omega
      have c := hD.k1.cell (k * 2) _ (fc_get0 k hlt)
      have c1 := hD.k1.cell (k * 2 + 1) _ (fc_get1 k hlt)
      have HN : Hid (∀ (W : World) (r : Nat), Bk W r 9 nc → W.cell? ⟨r, k, none⟩ = some (.string (sb (nmk k)))) := Lib.hid fun W r g => g.cell k _ (nc_get k hlt)
      have HT : Hid (∀ (W : World) (r : Nat), Bk W r 3 (cw fun k => wd k) → W.cell? ⟨r, k, none⟩ = some (.int .i64 (wd k))) := Lib.hid fun W r g => g.cell k _ (cw_get _ k hlt)
      clear hD hlt
      generalize nmk k = m at *
      generalize ((wd k : Nat) : Int) = z at *
      have bm : (m == m) = true := by simp
      have HF : Hid (Bk (wr.alloc (.cells #[Value.string (sb m), Value.int IntKind.i64 z] 28)).drew wr.heap.size 28 [.string (sb m), .int .i64 z]) := Bk.new wr _ [.string (sb m), .int .i64 z]
      have HDd : Hid (Fd w r b p (wr.alloc (.cells #[Value.string (sb m), Value.int IntKind.i64 z] 28)).drew) := Lib.hid (HD.out.below (al1 wr _).drew)
      go_wp2
      generalize wr.alloc (.cells #[Value.string (sb m), Value.int IntKind.i64 z] 28) = V at *
      generalize wr.heap.size = g at *
      have a0 : V.cell? ⟨g, 0, none⟩ = _ := HF.out.cell 0 _ rfl
      have a1 : V.cell? ⟨g, 1, none⟩ = _ := HF.out.cell 1 _ rfl
      clear HD c c1
      go_region_with ((first
        | (go_at_call 11; refine (names_any _).mono ?_; rintro e n1 ⟨r1, rfl, hr, hk1, hb⟩; have g1 := HN.out _ _ hk1; replace HF := Lib.hid (HF.out.below hb); have b0 := HF.out.cell 0 _ rfl; have b1 := HF.out.cell 1 _ rfl; replace HDd := Lib.hid (HDd.out.below hb); clear hb hr hk1)
        | (go_at_call 12; refine (bits_any _).mono ?_; rintro e n2 ⟨r2, rfl, hr, hk2, hb⟩; have g2 := HT.out _ _ hk2; replace HF := Lib.hid (HF.out.below hb); have d0 := HF.out.cell 0 _ rfl; have d1 := HF.out.cell 1 _ rfl; replace HDd := Lib.hid (HDd.out.below hb); clear hb hr hk2)
        | fail))
      all_goals go_wp2
      all_goals exact ⟨⟨k + 1, by omega, by go_num, HDd.out⟩, by simp [intOf]; omega⟩
    · obtain rfl : k = 12 := by omega
      have HV : Hid (Ws w [(b, p)] wr) := Lib.hid ⟨fun x hx => by simp at hx; subst hx; exact hD.k2, hD.bel, hD.gl⟩
      clear hD HD
      have HS := Lib.hid (eqw_self q)
      have hJ := HJ.out
      have hE := HE.out
      clear HJ HE
      rcases hJ with ⟨rfl, rfl, rfl⟩ | ⟨i, hi, rfl, rfl, rfl⟩
      · rcases hE with he | ⟨rfl, h6⟩
        · go_wp2_with (first
            | (go_at_call 13; with_reducible refine (C1.out _).mono ?_; rintro e s0 ⟨rfl, hb⟩; replace HV := Lib.hid (HV.out.below hb); clear hb)
            | (refine wl_ld rfl _ rfl b rfl p (HV.out.at_ _ _ (by simp)) ?_)
            | (go_at_call 15; with_reducible refine (C4.out _ HV.out.gl).mono ?_; rintro e s1 ⟨rfl, hb⟩; replace HV := Lib.hid (HV.out.below hb); clear hb)
            | (refine wpList_store_mid rfl 23 _ _ rfl s1.heap.size 0 (cw q).toArray rfl rfl (new_there s1 _) wd_size (cw_all _) ?_; obtain ⟨hk, hb⟩ := new_word s1 q; generalize (s1.alloc (.cells #[Value.int IntKind.i64 0, Value.int IntKind.i64 0, Value.int IntKind.i64 0, Value.int IntKind.i64 0, Value.int IntKind.i64 0, Value.int IntKind.i64 0, Value.int IntKind.i64 0, Value.int IntKind.i64 0, Value.int IntKind.i64 0, Value.int IntKind.i64 0, Value.int IntKind.i64 0, Value.int IntKind.i64 0] 23)).setCells s1.heap.size 0 (cw q) = s2 at *; replace HV := Lib.hid (HV.out.add q hb s1.heap.size hk); clear hb hk)
            | (go_at_call 16; with_reducible refine (C5.out _ HV.out.gl).mono ?_; rintro e s3 ⟨rfl, hb⟩; replace HV := Lib.hid (HV.out.below hb); clear hb)
            | (refine wpList_store_mid rfl 23 _ _ rfl s3.heap.size 0 (cw q).toArray rfl rfl (new_there s3 _) wd_size (cw_all _) ?_; obtain ⟨hk, hb⟩ := new_word s3 q; generalize (s3.alloc (.cells #[Value.int IntKind.i64 0, Value.int IntKind.i64 0, Value.int IntKind.i64 0, Value.int IntKind.i64 0, Value.int IntKind.i64 0, Value.int IntKind.i64 0, Value.int IntKind.i64 0, Value.int IntKind.i64 0, Value.int IntKind.i64 0, Value.int IntKind.i64 0, Value.int IntKind.i64 0, Value.int IntKind.i64 0] 23)).setCells s3.heap.size 0 (cw q) = s4 at *; replace HV := Lib.hid (HV.out.add q hb s3.heap.size hk); clear hb hk)
            | (refine wl_ld rfl _ rfl s1.heap.size rfl q (HV.out.at_ _ _ (by simp)) ?_)
            | (refine wl_ld rfl _ rfl s3.heap.size rfl q (HV.out.at_ _ _ (by simp)) ?_)
            | (with_reducible refine wl_eqw rfl _ _ _ rfl _ _ rfl rfl ?_; rw [HS.out])
            | (go_at_call 17; with_reducible refine (C2.out _ HV.out.gl).mono ?_; rintro e s5 ⟨rfl, hb⟩; replace HV := Lib.hid (HV.out.below hb); clear hb)
            | (go_at_call 18; with_reducible refine (C3.out _ HV.out.gl).mono ?_; rintro e s6 ⟨rfl, hb⟩; replace HV := Lib.hid (HV.out.below hb); clear hb)
            | fail)
          go_ret
          exact ⟨rfl, hb ▸ HV.out.bel⟩
        · have C6 := Lib.hid h6
          clear h6
          go_wp2_with (first
            | (go_at_call 13; with_reducible refine (C1.out _).mono ?_; rintro e s0 ⟨rfl, hb⟩; replace HV := Lib.hid (HV.out.below hb); clear hb)
            | (refine wl_ld rfl _ rfl b rfl p (HV.out.at_ _ _ (by simp)) ?_)
            | (go_at_call 15; with_reducible refine (C4.out _ HV.out.gl).mono ?_; rintro e s1 ⟨rfl, hb⟩; replace HV := Lib.hid (HV.out.below hb); clear hb)
            | (refine wpList_store_mid rfl 23 _ _ rfl s1.heap.size 0 (cw q).toArray rfl rfl (new_there s1 _) wd_size (cw_all _) ?_; obtain ⟨hk, hb⟩ := new_word s1 q; generalize (s1.alloc (.cells #[Value.int IntKind.i64 0, Value.int IntKind.i64 0, Value.int IntKind.i64 0, Value.int IntKind.i64 0, Value.int IntKind.i64 0, Value.int IntKind.i64 0, Value.int IntKind.i64 0, Value.int IntKind.i64 0, Value.int IntKind.i64 0, Value.int IntKind.i64 0, Value.int IntKind.i64 0, Value.int IntKind.i64 0] 23)).setCells s1.heap.size 0 (cw q) = s2 at *; replace HV := Lib.hid (HV.out.add q hb s1.heap.size hk); clear hb hk)
            | (go_at_call 16; with_reducible refine (C5.out _ HV.out.gl).mono ?_; rintro e s3 ⟨rfl, hb⟩; replace HV := Lib.hid (HV.out.below hb); clear hb)
            | (refine wpList_store_mid rfl 23 _ _ rfl s3.heap.size 0 (cw q).toArray rfl rfl (new_there s3 _) wd_size (cw_all _) ?_; obtain ⟨hk, hb⟩ := new_word s3 q; generalize (s3.alloc (.cells #[Value.int IntKind.i64 0, Value.int IntKind.i64 0, Value.int IntKind.i64 0, Value.int IntKind.i64 0, Value.int IntKind.i64 0, Value.int IntKind.i64 0, Value.int IntKind.i64 0, Value.int IntKind.i64 0, Value.int IntKind.i64 0, Value.int IntKind.i64 0, Value.int IntKind.i64 0, Value.int IntKind.i64 0] 23)).setCells s3.heap.size 0 (cw q) = s4 at *; replace HV := Lib.hid (HV.out.add q hb s3.heap.size hk); clear hb hk)
            | (refine wl_ld rfl _ rfl s1.heap.size rfl q (HV.out.at_ _ _ (by simp)) ?_)
            | (refine wl_ld rfl _ rfl s3.heap.size rfl q (HV.out.at_ _ _ (by simp)) ?_)
            | (with_reducible refine wl_eqw rfl _ _ _ rfl _ _ rfl rfl ?_; rw [HS.out])
            | (go_at_call 17; with_reducible refine (C2.out _ HV.out.gl).mono ?_; rintro e s5 ⟨rfl, hb⟩; replace HV := Lib.hid (HV.out.below hb); clear hb)
            | (go_at_call 18; with_reducible refine (C3.out _ HV.out.gl).mono ?_; rintro e s6 ⟨rfl, hb⟩; replace HV := Lib.hid (HV.out.below hb); clear hb)
            | (go_at_call 18; with_reducible refine (C6.out _ HV.out.gl).mono ?_; rintro e s7 ⟨rfl, hb⟩; replace HV := Lib.hid (HV.out.below hb); clear hb)
            | fail)
          go_ret
          exact ⟨rfl, hb ▸ HV.out.bel⟩
      · rcases hE with he | ⟨rfl, h6⟩
        · go_wp2_with (first
            | (go_at_call 13; with_reducible refine (C1.out _).mono ?_; rintro e s0 ⟨rfl, hb⟩; replace HV := Lib.hid (HV.out.below hb); clear hb)
            | fail)
          have HCw : Hid (∀ (W : World) (r : Nat), Bk W r 3 (cw fun k => wd k) → W.cell? ⟨r, i, none⟩ = some (.int .i64 (wd i))) := Lib.hid fun W r g => g.cell i _ (cw_get _ i hi)
          have HCp : Hid (∀ (W : World) (r : Nat), Bk W r 3 (cw p) → W.cell? ⟨r, i, none⟩ = some (.int .i64 (p i))) := Lib.hid fun W r g => g.cell i _ (cw_get _ i hi)
          have hi' : (i : Int) < 12 := by omega
          have C2 := C2.out
          have C3 := C3.out
          have C2 := Lib.hid C2
          have C3 := Lib.hid C3
          clear hi
          generalize p i = pt at *
          generalize ((wd i : Nat) : Int) = bt at *
          replace HV := Lib.hid (HV.out.below (Below.refl s0.heap.size s0).drew)
          have c0 : s0.cell? ⟨b, 0, none⟩ = _ := (HV.out.at_ b p (by simp)).cell 0 _ (cw_get _ 0 (by omega))
          have c1 : s0.cell? ⟨b, 1, none⟩ = _ := (HV.out.at_ b p (by simp)).cell 1 _ (cw_get _ 1 (by omega))
          have c2 : s0.cell? ⟨b, 2, none⟩ = _ := (HV.out.at_ b p (by simp)).cell 2 _ (cw_get _ 2 (by omega))
          have c3 : s0.cell? ⟨b, 3, none⟩ = _ := (HV.out.at_ b p (by simp)).cell 3 _ (cw_get _ 3 (by omega))
          have c4 : s0.cell? ⟨b, 4, none⟩ = _ := (HV.out.at_ b p (by simp)).cell 4 _ (cw_get _ 4 (by omega))
          have c5 : s0.cell? ⟨b, 5, none⟩ = _ := (HV.out.at_ b p (by simp)).cell 5 _ (cw_get _ 5 (by omega))
          have c6 : s0.cell? ⟨b, 6, none⟩ = _ := (HV.out.at_ b p (by simp)).cell 6 _ (cw_get _ 6 (by omega))
          have c7 : s0.cell? ⟨b, 7, none⟩ = _ := (HV.out.at_ b p (by simp)).cell 7 _ (cw_get _ 7 (by omega))
          have c8 : s0.cell? ⟨b, 8, none⟩ = _ := (HV.out.at_ b p (by simp)).cell 8 _ (cw_get _ 8 (by omega))
          have c9 : s0.cell? ⟨b, 9, none⟩ = _ := (HV.out.at_ b p (by simp)).cell 9 _ (cw_get _ 9 (by omega))
          have c10 : s0.cell? ⟨b, 10, none⟩ = _ := (HV.out.at_ b p (by simp)).cell 10 _ (cw_get _ 10 (by omega))
          have c11 : s0.cell? ⟨b, 11, none⟩ = _ := (HV.out.at_ b p (by simp)).cell 11 _ (cw_get _ 11 (by omega))
          go_region_with ((first
            | (go_at_call 12; refine (bits_any _).mono ?_; rintro e n1 ⟨r1, rfl, hr, hk1, hb⟩; have g1 := HCw.out _ _ hk1; have K1 := Lib.hid hk1; replace HV := Lib.hid (HV.out.below hb); have c0 := HV.out.at_ b p (by simp) |>.cell 0 _ (cw_get _ 0 (by omega)); have c1 := HV.out.at_ b p (by simp) |>.cell 1 _ (cw_get _ 1 (by omega)); have c2 := HV.out.at_ b p (by simp) |>.cell 2 _ (cw_get _ 2 (by omega)); have c3 := HV.out.at_ b p (by simp) |>.cell 3 _ (cw_get _ 3 (by omega)); have c4 := HV.out.at_ b p (by simp) |>.cell 4 _ (cw_get _ 4 (by omega)); have c5 := HV.out.at_ b p (by simp) |>.cell 5 _ (cw_get _ 5 (by omega)); have c6 := HV.out.at_ b p (by simp) |>.cell 6 _ (cw_get _ 6 (by omega)); have c7 := HV.out.at_ b p (by simp) |>.cell 7 _ (cw_get _ 7 (by omega)); have c8 := HV.out.at_ b p (by simp) |>.cell 8 _ (cw_get _ 8 (by omega)); have c9 := HV.out.at_ b p (by simp) |>.cell 9 _ (cw_get _ 9 (by omega)); have c10 := HV.out.at_ b p (by simp) |>.cell 10 _ (cw_get _ 10 (by omega)); have c11 := HV.out.at_ b p (by simp) |>.cell 11 _ (cw_get _ 11 (by omega)); clear hb hr hk1)
            | (go_at_call 14; refine (rparts_any p _).mono ?_; rintro e n2 ⟨r2, rfl, hr, hk2, hb⟩; have g2 := HCp.out _ _ hk2; (try (replace K1 := Lib.hid (K1.out.below hb); have g1 := HCw.out _ _ K1.out)); replace HV := Lib.hid (HV.out.below hb); clear hb hr hk2)
            | fail))
          all_goals clear c0 c1 c2 c3 c4 c5 c6 c7 c8 c9 c10 c11
          all_goals go_wp2_with (first
            | (refine wl_ld rfl _ rfl b rfl p (HV.out.at_ _ _ (by simp)) ?_)
            | (go_at_call 15; with_reducible refine (C4.out _ HV.out.gl).mono ?_; rintro e s1 ⟨rfl, hb⟩; replace HV := Lib.hid (HV.out.below hb); clear hb)
            | (refine wpList_store_mid rfl 23 _ _ rfl s1.heap.size 0 (cw q).toArray rfl rfl (new_there s1 _) wd_size (cw_all _) ?_; obtain ⟨hk, hb⟩ := new_word s1 q; generalize (s1.alloc (.cells #[Value.int IntKind.i64 0, Value.int IntKind.i64 0, Value.int IntKind.i64 0, Value.int IntKind.i64 0, Value.int IntKind.i64 0, Value.int IntKind.i64 0, Value.int IntKind.i64 0, Value.int IntKind.i64 0, Value.int IntKind.i64 0, Value.int IntKind.i64 0, Value.int IntKind.i64 0, Value.int IntKind.i64 0] 23)).setCells s1.heap.size 0 (cw q) = s2 at *; replace HV := Lib.hid (HV.out.add q hb s1.heap.size hk); clear hb hk)
            | (go_at_call 16; with_reducible refine (C5.out _ HV.out.gl).mono ?_; rintro e s3 ⟨rfl, hb⟩; replace HV := Lib.hid (HV.out.below hb); clear hb)
            | (refine wpList_store_mid rfl 23 _ _ rfl s3.heap.size 0 (cw q).toArray rfl rfl (new_there s3 _) wd_size (cw_all _) ?_; obtain ⟨hk, hb⟩ := new_word s3 q; generalize (s3.alloc (.cells #[Value.int IntKind.i64 0, Value.int IntKind.i64 0, Value.int IntKind.i64 0, Value.int IntKind.i64 0, Value.int IntKind.i64 0, Value.int IntKind.i64 0, Value.int IntKind.i64 0, Value.int IntKind.i64 0, Value.int IntKind.i64 0, Value.int IntKind.i64 0, Value.int IntKind.i64 0, Value.int IntKind.i64 0] 23)).setCells s3.heap.size 0 (cw q) = s4 at *; replace HV := Lib.hid (HV.out.add q hb s3.heap.size hk); clear hb hk)
            | (refine wl_ld rfl _ rfl s1.heap.size rfl q (HV.out.at_ _ _ (by simp)) ?_)
            | (refine wl_ld rfl _ rfl s3.heap.size rfl q (HV.out.at_ _ _ (by simp)) ?_)
            | (with_reducible refine wl_eqw rfl _ _ _ rfl _ _ rfl rfl ?_; rw [HS.out])
            | (go_at_call 17; with_reducible refine (C2.out _ HV.out.gl).mono ?_; rintro e s5 ⟨rfl, hb⟩; replace HV := Lib.hid (HV.out.below hb); clear hb)
            | (go_at_call 18; with_reducible refine (C3.out _ HV.out.gl).mono ?_; rintro e s6 ⟨rfl, hb⟩; replace HV := Lib.hid (HV.out.below hb); clear hb)
            | fail)
          all_goals go_ret
          all_goals exact ⟨rfl, hb ▸ HV.out.bel⟩
        · have C6 := Lib.hid h6
          clear h6
          go_wp2_with (first
            | (go_at_call 13; with_reducible refine (C1.out _).mono ?_; rintro e s0 ⟨rfl, hb⟩; replace HV := Lib.hid (HV.out.below hb); clear hb)
            | fail)
          have HCw : Hid (∀ (W : World) (r : Nat), Bk W r 3 (cw fun k => wd k) → W.cell? ⟨r, i, none⟩ = some (.int .i64 (wd i))) := Lib.hid fun W r g => g.cell i _ (cw_get _ i hi)
          have HCp : Hid (∀ (W : World) (r : Nat), Bk W r 3 (cw p) → W.cell? ⟨r, i, none⟩ = some (.int .i64 (p i))) := Lib.hid fun W r g => g.cell i _ (cw_get _ i hi)
          have hi' : (i : Int) < 12 := by omega
          have C2 := C2.out
          have C3 := C3.out
          have C2 := Lib.hid C2
          have C3 := Lib.hid C3
          clear hi
          generalize p i = pt at *
          generalize ((wd i : Nat) : Int) = bt at *
          replace HV := Lib.hid (HV.out.below (Below.refl s0.heap.size s0).drew)
          have c0 : s0.cell? ⟨b, 0, none⟩ = _ := (HV.out.at_ b p (by simp)).cell 0 _ (cw_get _ 0 (by omega))
          have c1 : s0.cell? ⟨b, 1, none⟩ = _ := (HV.out.at_ b p (by simp)).cell 1 _ (cw_get _ 1 (by omega))
          have c2 : s0.cell? ⟨b, 2, none⟩ = _ := (HV.out.at_ b p (by simp)).cell 2 _ (cw_get _ 2 (by omega))
          have c3 : s0.cell? ⟨b, 3, none⟩ = _ := (HV.out.at_ b p (by simp)).cell 3 _ (cw_get _ 3 (by omega))
          have c4 : s0.cell? ⟨b, 4, none⟩ = _ := (HV.out.at_ b p (by simp)).cell 4 _ (cw_get _ 4 (by omega))
          have c5 : s0.cell? ⟨b, 5, none⟩ = _ := (HV.out.at_ b p (by simp)).cell 5 _ (cw_get _ 5 (by omega))
          have c6 : s0.cell? ⟨b, 6, none⟩ = _ := (HV.out.at_ b p (by simp)).cell 6 _ (cw_get _ 6 (by omega))
          have c7 : s0.cell? ⟨b, 7, none⟩ = _ := (HV.out.at_ b p (by simp)).cell 7 _ (cw_get _ 7 (by omega))
          have c8 : s0.cell? ⟨b, 8, none⟩ = _ := (HV.out.at_ b p (by simp)).cell 8 _ (cw_get _ 8 (by omega))
          have c9 : s0.cell? ⟨b, 9, none⟩ = _ := (HV.out.at_ b p (by simp)).cell 9 _ (cw_get _ 9 (by omega))
          have c10 : s0.cell? ⟨b, 10, none⟩ = _ := (HV.out.at_ b p (by simp)).cell 10 _ (cw_get _ 10 (by omega))
          have c11 : s0.cell? ⟨b, 11, none⟩ = _ := (HV.out.at_ b p (by simp)).cell 11 _ (cw_get _ 11 (by omega))
          go_region_with ((first
            | (go_at_call 12; refine (bits_any _).mono ?_; rintro e n1 ⟨r1, rfl, hr, hk1, hb⟩; have g1 := HCw.out _ _ hk1; have K1 := Lib.hid hk1; replace HV := Lib.hid (HV.out.below hb); have c0 := HV.out.at_ b p (by simp) |>.cell 0 _ (cw_get _ 0 (by omega)); have c1 := HV.out.at_ b p (by simp) |>.cell 1 _ (cw_get _ 1 (by omega)); have c2 := HV.out.at_ b p (by simp) |>.cell 2 _ (cw_get _ 2 (by omega)); have c3 := HV.out.at_ b p (by simp) |>.cell 3 _ (cw_get _ 3 (by omega)); have c4 := HV.out.at_ b p (by simp) |>.cell 4 _ (cw_get _ 4 (by omega)); have c5 := HV.out.at_ b p (by simp) |>.cell 5 _ (cw_get _ 5 (by omega)); have c6 := HV.out.at_ b p (by simp) |>.cell 6 _ (cw_get _ 6 (by omega)); have c7 := HV.out.at_ b p (by simp) |>.cell 7 _ (cw_get _ 7 (by omega)); have c8 := HV.out.at_ b p (by simp) |>.cell 8 _ (cw_get _ 8 (by omega)); have c9 := HV.out.at_ b p (by simp) |>.cell 9 _ (cw_get _ 9 (by omega)); have c10 := HV.out.at_ b p (by simp) |>.cell 10 _ (cw_get _ 10 (by omega)); have c11 := HV.out.at_ b p (by simp) |>.cell 11 _ (cw_get _ 11 (by omega)); clear hb hr hk1)
            | (go_at_call 14; refine (rparts_any p _).mono ?_; rintro e n2 ⟨r2, rfl, hr, hk2, hb⟩; have g2 := HCp.out _ _ hk2; (try (replace K1 := Lib.hid (K1.out.below hb); have g1 := HCw.out _ _ K1.out)); replace HV := Lib.hid (HV.out.below hb); clear hb hr hk2)
            | fail))
          all_goals clear c0 c1 c2 c3 c4 c5 c6 c7 c8 c9 c10 c11
          all_goals go_wp2_with (first
            | (refine wl_ld rfl _ rfl b rfl p (HV.out.at_ _ _ (by simp)) ?_)
            | (go_at_call 15; with_reducible refine (C4.out _ HV.out.gl).mono ?_; rintro e s1 ⟨rfl, hb⟩; replace HV := Lib.hid (HV.out.below hb); clear hb)
            | (refine wpList_store_mid rfl 23 _ _ rfl s1.heap.size 0 (cw q).toArray rfl rfl (new_there s1 _) wd_size (cw_all _) ?_; obtain ⟨hk, hb⟩ := new_word s1 q; generalize (s1.alloc (.cells #[Value.int IntKind.i64 0, Value.int IntKind.i64 0, Value.int IntKind.i64 0, Value.int IntKind.i64 0, Value.int IntKind.i64 0, Value.int IntKind.i64 0, Value.int IntKind.i64 0, Value.int IntKind.i64 0, Value.int IntKind.i64 0, Value.int IntKind.i64 0, Value.int IntKind.i64 0, Value.int IntKind.i64 0] 23)).setCells s1.heap.size 0 (cw q) = s2 at *; replace HV := Lib.hid (HV.out.add q hb s1.heap.size hk); clear hb hk)
            | (go_at_call 16; with_reducible refine (C5.out _ HV.out.gl).mono ?_; rintro e s3 ⟨rfl, hb⟩; replace HV := Lib.hid (HV.out.below hb); clear hb)
            | (refine wpList_store_mid rfl 23 _ _ rfl s3.heap.size 0 (cw q).toArray rfl rfl (new_there s3 _) wd_size (cw_all _) ?_; obtain ⟨hk, hb⟩ := new_word s3 q; generalize (s3.alloc (.cells #[Value.int IntKind.i64 0, Value.int IntKind.i64 0, Value.int IntKind.i64 0, Value.int IntKind.i64 0, Value.int IntKind.i64 0, Value.int IntKind.i64 0, Value.int IntKind.i64 0, Value.int IntKind.i64 0, Value.int IntKind.i64 0, Value.int IntKind.i64 0, Value.int IntKind.i64 0, Value.int IntKind.i64 0] 23)).setCells s3.heap.size 0 (cw q) = s4 at *; replace HV := Lib.hid (HV.out.add q hb s3.heap.size hk); clear hb hk)
            | (refine wl_ld rfl _ rfl s1.heap.size rfl q (HV.out.at_ _ _ (by simp)) ?_)
            | (refine wl_ld rfl _ rfl s3.heap.size rfl q (HV.out.at_ _ _ (by simp)) ?_)
            | (with_reducible refine wl_eqw rfl _ _ _ rfl _ _ rfl rfl ?_; rw [HS.out])
            | (go_at_call 17; with_reducible refine (C2.out _ HV.out.gl).mono ?_; rintro e s5 ⟨rfl, hb⟩; replace HV := Lib.hid (HV.out.below hb); clear hb)
            | (go_at_call 18; with_reducible refine (C3.out _ HV.out.gl).mono ?_; rintro e s6 ⟨rfl, hb⟩; replace HV := Lib.hid (HV.out.below hb); clear hb)
            | (go_at_call 18; with_reducible refine (C6.out _ HV.out.gl).mono ?_; rintro e s7 ⟨rfl, hb⟩; replace HV := Lib.hid (HV.out.below hb); clear hb)
            | fail)
          all_goals go_ret
          all_goals exact ⟨rfl, hb ▸ HV.out.bel⟩
end Go.Proofs.YtdchaalmjhjejaaDoor.Cs
