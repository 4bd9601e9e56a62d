import Derived.Test.YtppkpfkoggnbmaaGreatDoorGKtl
import Derived.Test.YtppkpfkoggnbmaaGreatDoorGIs2

/- Contracts of package asm: Text. -/
namespace Go.Proofs.YtppkpfkoggnbmaaGreatDoor.Cs.Ka
open Go.RowKit Es
open Ia (sb cst sb_size sb_get sb_append)
set_option linter.unusedVariables false
set_option linter.unusedSimpArgs false

/-- an operand at block p, a specifier at block g, behind a world's own blocks -/
structure Tw (w : World) (p : Nat) (a z : Int) (g : Nat) (s : Sp) (W : World) : Prop where
  opr : Es.Bk W p 45 [.int .u8 a, .int .i64 z]
  var : Es.Bk W g 47 s.cells
  bel : Below w.heap.size w W
  le : w.heap.size ≤ p
  lt : p < g
theorem Tw.new {w W : World} {p : Nat} {a z : Int} (ho : Es.Bk W p 45 [.int .u8 a, .int .i64 z]) (b : Below w.heap.size w W) (hp : w.heap.size ≤ p) (k r i x n : Int) :
    Tw w p a z W.heap.size ⟨k, r, i, x, n⟩ (W.alloc (.cells #[.int .i64 k, .int .i64 r, .int .i64 i, .int .u32 x, .int .i64 n] 47)) :=
  ⟨ho.below (Es.al1 _ _) (Nat.le_refl _), Es.Bk.new W _ [.int .i64 k, .int .i64 r, .int .i64 i, .int .u32 x, .int .i64 n], bel2 b (Es.al1 _ _), hp, ho.lt⟩
theorem Tw.put {w W : World} {p h : Nat} {a z : Int} (ho : Es.Bk W p 45 [.int .u8 a, .int .i64 z]) (b : Below w.heap.size w W) (hp : w.heap.size ≤ p) {b0 b1 b2 b3 b4 : Value} (hb : Es.Bk W h 47 [b0, b1, b2, b3, b4]) (hg : p < h) (k r i x n : Int) :
    Tw w p a z h ⟨k, r, i, x, n⟩ (((((W.setCell ⟨h, 0, none⟩ (.int .i64 k)).setCell ⟨h, 1, none⟩ (.int .i64 r)).setCell ⟨h, 2, none⟩ (.int .i64 i)).setCell ⟨h, 3, none⟩ (.int .u32 x)).setCell ⟨h, 4, none⟩ (.int .i64 n)) :=
  ⟨((((ho.far (by omega) 0 _).far (by omega) 1 _).far (by omega) 2 _).far (by omega) 3 _).far (by omega) 4 _, ((((hb.set 0 _).set 1 _).set 2 _).set 3 _).set 4 _, by
    iterate 5 refine Below.setCell ?_ (by simp; omega) _
    exact b, hp, hg⟩

theorem ret3 {t t' : ByteArray} {a b c d : Int} (h : t = t') (h1 : a = b) (h2 : c = d) : Ending.returned (.tuple #[.string t, .int .i64 a, .int .i64 c]) = .returned (.tuple #[.string t', .int .i64 b, .int .i64 d]) := by rw [h, h1, h2]
/-- what Text answers, as an ending -/
def TxE (w : World) (r : Tx × Int × Int) (e : Ending) (w' : World) : Prop := e = .returned (.tuple #[.string (sb r.1), .int .i64 r.2.1, .int .i64 r.2.2]) ∧ Below w.heap.size w w'

theorem prg_u8 : Ia.upto 256 (fun k => (Ia.prg (k : Int)).1.ops.all (fun q => decide (0 ≤ q.1) && (decide (q.1 < 256) && (decide (0 ≤ q.2) && decide (q.2 ≤ 4)))) && (decide ((Ia.prg (k : Int)).1.ops.length ≤ 6) && decide ((Ia.prg (k : Int)).1.name.length ≤ 8))) = true := by kernel_rfl
theorem prg_in {y : Int} (h : 0 ≤ y ∧ y < 256) : (∀ q ∈ (Ia.prg y).1.ops, 0 ≤ q.1 ∧ q.1 < 256 ∧ 0 ≤ q.2 ∧ q.2 ≤ 4) ∧ (Ia.prg y).1.ops.length ≤ 6 ∧ (Ia.prg y).1.name.length ≤ 8 := by
  have := Ia.upto_at prg_u8 y.toNat (by omega)
  rw [show ((y.toNat : Nat) : Int) = y by omega] at this
  simp only [Bool.and_eq_true, List.all_eq_true, decide_eq_true_eq] at this
  exact this
theorem txtG_cons (ys : List Int) (t b : Tx) (at_ : Nat) (q : Int × Int) (qs : List (Int × Int)) : txtG ys t b at_ (q :: qs) = if (dec (ys.drop at_) q.1 q.2).2 = 0 then
      (if (dec (ys.drop at_) q.1 q.2).1.k = 14 then ([], 0, 4)
      else txtG ys (t ++ (b ++ toldF (dec (ys.drop at_) q.1 q.2).1 q.1)) [44, 32] (at_ + (dec (ys.drop at_) q.1 q.2).1.n.toNat) qs)
    else ([], 0, (dec (ys.drop at_) q.1 q.2).2) := rfl

set_option maxHeartbeats 6400000 in
set_option maxRecDepth 100000 in
theorem text_any (A : Option Addr) (n c : Nat) (ys : List Int) (w : World) (hy : By w A n c ys) (hn : n ≤ 100000) (hg : Gt w) (hgl : Ia.Gl w) :
    Calls Tryz.prog 9 #[.slice A n c] w (TxE w (txtF ys)) := by
  by_cases h0 : n = 0
  · subst h0
    obtain rfl : ys = [] := List.eq_nil_of_length_eq_zero hy.len
    clear hy
    go_enter Tryz.func9, Tryz.ntmps9
    go_wp2
    refine bodyPost_ret (v := .tuple #[.string ⟨#[]⟩, .int .i64 0, .int .i64 3]) (by simp [results, Tryz.results9, go_sem]) rfl ?_
    exact ⟨rfl, Below.refl _ _⟩
  · have hl := hy.len
    obtain ⟨y0, yt, rfl⟩ : ∃ y0 yt, ys = y0 :: yt := by
      cases ys with
      | nil => simp at hl; omega
      | cons a b => exact ⟨a, b, rfl⟩
    have hb0 := hy.byt.hd
    obtain ⟨ad, rfl, had, HX⟩ := hy.c0
    have hc0 := HX.out w (Below.refl _ _)
    obtain ⟨ho1, ho2, ho3⟩ := prg_in hb0
    have HO := Lib.hid (fun W h => Ia.of_any y0 W h)
    have HE : Hid (txtF (y0 :: yt) = if (Ia.prg y0).2 = true then txtG (y0 :: yt) (Ia.prg y0).1.name [32] 1 (Ia.prg y0).1.ops else ([], 0, 4)) := rfl
    have hn0 : ((n : Int) == 0) = false := by apply beq_false_of_ne; omega
    have hn1 : (0 : Int) < n := by omega
    generalize txtF (y0 :: yt) = res at *
    generalize Ia.prg y0 = q at *
    obtain ⟨⟨code, name, cls, al, ops⟩, is⟩ := q
    have HGL := Lib.hid hgl
    simp only at ho1 ho2 ho3 HE
    have HG := Lib.hid hg
    have HY := Lib.hid hy
    have HO1 := Lib.hid ho1
    have HLn := Lib.hid hl
    clear hgl hg hy ho1 hl HX
    cases is
    · go_enter Tryz.func9, Tryz.ntmps9
      go_wp2_with (first | (go_at_call 14; refine (HO.out _ HGL.out).mono ?_; rintro e w1 ⟨u, rfl, hu, hb⟩; obtain ⟨A', c', rfl⟩ := Ia.ro_slice hu.1; have HB := Lib.hid hb; clear hu hb) | fail)
      refine bodyPost_ret (v := .tuple #[.string ⟨#[]⟩, .int .i64 0, .int .i64 4]) (by simp [results, Tryz.results9, go_sem]) rfl ?_
      exact ⟨by rw [HE.out]; rfl, bel2 HB.out (Es.al1 _ _)⟩
    · go_enter Tryz.func9, Tryz.ntmps9
      go_upto_region 6 with (first | (go_at_call 14; refine (HO.out _ HGL.out).mono ?_; rintro e w1 ⟨u, rfl, hu, hb⟩; obtain ⟨A', c', rfl⟩ := Ia.ro_slice hu.1; have HB := Lib.hid hb; have HU := Lib.hid hu.1; clear hu hb) | fail)
      have hv := Es.Bk.new w1 41 [.int .i64 code, .string (sb name), .int .i64 cls, .int .i64 al, .slice A' ops.length c']
      have HB0 := Lib.hid (bel2 HB.out (Es.al1 w1 (.cells #[.int .i64 code, .string (sb name), .int .i64 cls, .int .i64 al, .slice A' ops.length c'] 41)))
      have HU0 := Lib.hid (own_below HU.out (Es.al1 w1 (.cells #[.int .i64 code, .string (sb name), .int .i64 cls, .int .i64 al, .slice A' ops.length c'] 41)))
      clear HB HU
      generalize w1.alloc (.cells #[.int .i64 code, .string (sb name), .int .i64 cls, .int .i64 al, .slice A' ops.length c'] 41) = W0 at *
      obtain ⟨v0, v1, v2, v3, v4, vf, vl⟩ := hv.five
      have HG0 := Lib.hid (HG.out.below HB0.out)
      have HY0 := Lib.hid (HY.out.below HB0.out (Nat.le_refl _))
      clear hv HG HY HO HGL
      go_wp2_with fail
      go_loopw [7, 8, 9, 32] (fun t b a i W => ∃ (k at_ : Nat) (tt bb : Tx), k ≤ ops.length ∧ i = .int .i64 k ∧ a = .int .i64 at_ ∧ t = .string (sb tt) ∧ b = .string (sb bb) ∧ at_ ≤ n ∧ tt.length ≤ 8 + 50 * k ∧ bb.length ≤ 2 ∧ Below W0.heap.size W0 W ∧ txtG (y0 :: yt) tt bb at_ (ops.drop k) = res) (fun _ _ _ i _ => ops.length - (intOf i).toNat)
      case atStart => exact ⟨0, 1, name, [32], Nat.zero_le _, rfl, rfl, rfl, rfl, by omega, by omega, by simp, Below.refl _ _, by rw [HE.out]; rfl⟩
      case round =>
        clear v0 v1 v2 v3 v4 vf hc0
        obtain ⟨k, at_, tt, bb, hk, rfl, rfl, rfl, rfl, hat, htl, hbl, hbel, hA⟩ := hrel
        have HBW := Lib.hid hbel
        by_cases hlt : k < ops.length
        · rw [Ia.drop_cons ops k hlt, txtG_cons] at hA
          obtain ⟨r, c'', hre, hrl⟩ := Ia.ro_some HU0.out (by omega)
          simp only [Value.slice.injEq, true_and] at hre
          obtain ⟨rfl, rfl⟩ := hre
          obtain ⟨k0, k1⟩ := Ia.ro_at (own_below HU0.out hbel) k hlt
          have hq := HO1.out _ (Ia.opn_mem ops k hlt)
          obtain ⟨hq0, hq1, hz0, hz1⟩ := hq
          generalize Ia.opn ops k = q at *
          obtain ⟨a, z⟩ := q
          simp only at k0 k1 hA hq0 hq1 hz0 hz1
          go_upto_region 10 with fail
          have hO := Es.Bk.new wr 45 [.int .u8 a, .int .i64 z]
          have HB1 := Lib.hid (bel2 hbel (Es.al1 wr (.cells #[.int .u8 a, .int .i64 z] 45)))
          have hWl := hbel.size
          clear k0 k1 hbel
          generalize wr.alloc (.cells #[.int .u8 a, .int .i64 z] 45) = W1 at *
          have hyat := HY0.out.drop (k := at_) hat
          have hR := run_lo ad n c at_ hat
          have KO : Hid (∀ V, Below W0.heap.size W0 V → Calls Tryz.prog 15 #[.slice (some (if c = at_ then ad else ad.add at_)) (n - at_) (c - at_), opv a z] V fun e w' => e = .returned (.tuple #[(dec ((y0 :: yt).drop at_) a z).1.val, .int .i64 (dec ((y0 :: yt).drop at_) a z).2]) ∧ Below V.heap.size V w') :=
            Lib.hid fun V hV => decode_any _ (n - at_) (c - at_) _ a z V (hyat.below hV (Nat.le_refl _)) (by omega) ⟨hq0, hq1⟩
          generalize some (if c = at_ then ad else ad.add at_) = A2 at *
          have hdk : ∀ t, dec ((y0 :: yt).drop at_) a z = (t, 0) → t.k ≠ 14 → Spk t ∧ 1 ≤ t.n ∧ t.n ≤ ((y0 :: yt).drop at_).length := fun t h1 h2 => dec_ok hyat.byt h1 h2
          have hdl := hyat.len
          clear hyat
          generalize dec ((y0 :: yt).drop at_) a z = d at *
          obtain ⟨⟨d1, d2, d3, d4, d5⟩, d6⟩ := d
          simp only at hA hdk
          simp only [Sp.val] at KO
          have HDK := Lib.hid hdk
          have HA := Lib.hid hA
          clear hdk hA
          go_cut [12, 13] from 36 to 43 (fun s e V => ∃ g, s = .pointer (some ⟨g, 0, none⟩) ∧ e = .int .i64 d6 ∧ Tw W0 wr.heap.size a z g ⟨d1, d2, d3, d4, d5⟩ V)
          case first =>
            have o0 := hO.cell 0 _ rfl
            have o1 := hO.cell 1 _ rfl
            have o0d : W1.drew.cell? ⟨wr.heap.size, 0, none⟩ = some (.int .u8 a) := o0
            have o1d : W1.drew.cell? ⟨wr.heap.size, 1, none⟩ = some (.int .i64 z) := o1
            have hlt1 := hO.lt
            have HV : Hid (Es.Bk (W1.alloc (.cells #[.int .i64 0, .int .i64 0, .int .i64 0, .int .u32 0, .int .i64 0] 47)).drew W1.heap.size 47 [.int .i64 0, .int .i64 0, .int .i64 0, .int .u32 0, .int .i64 0]) := Es.Bk.new W1 _ [.int .i64 0, .int .i64 0, .int .i64 0, .int .u32 0, .int .i64 0]
            have HOB := Lib.hid hO
            have hn0 : (⟨wr.heap.size, 0, none⟩ : Addr).block ≠ W1.heap.size := by simp; omega
            have hn1 : (⟨wr.heap.size, 1, none⟩ : Addr).block ≠ W1.heap.size := by simp; omega
            clear hO
            go_region_held3 (fun w' => w'.cell? ⟨wr.heap.size, 0, none⟩ = some (.int .u8 a) ∧ w'.cell? ⟨wr.heap.size, 1, none⟩ = some (.int .i64 z))
              (first | (with_reducible exact ⟨z0, z1⟩) | (with_reducible exact ⟨far5 hn0 z0, far5 hn1 z1⟩) | (with_reducible exact ⟨o0d, o1d⟩) | (with_reducible exact ⟨o0, o1⟩) | go_keep)
              ((go_at_call 15
                refine (KO.out _ (bel2 HB1.out (by go_grown))).mono ?_
                rintro e w3 ⟨rfl, hb3⟩
                have hO3 := HOB.out.below (bel2 (by go_grown) hb3) (Nat.le_refl _)
                have z0 := hO3.cell 0 _ rfl
                have z1 := hO3.cell 1 _ rfl
                have hb4 := bel2 HB1.out (bel2 (by go_grown) hb3)
                (first
                  | (have hv3 : Es.Bk w3 W1.heap.size 47 [.int .i64 0, .int .i64 0, .int .i64 0, .int .u32 0, .int .i64 0] := (by with_reducible exact Es.Bk.below HV.out hb3 (Nat.le_refl _)); have v0 := hv3.cell 0 _ rfl; have v1 := hv3.cell 1 _ rfl; have v2 := hv3.cell 2 _ rfl; have v3 := hv3.cell 3 _ rfl; have v4 := hv3.cell 4 _ rfl; have vf := hv3.free; have hvl := hv3.lt)
                  | skip)))
            all_goals go_wp2_with fail
            all_goals go_meet
            all_goals first
              | exact ⟨_, rfl, rfl, Tw.put hO3 hb4 hWl hv3 hlt1 _ _ _ _ _⟩
              | exact ⟨_, rfl, rfl, Tw.new hO3 hb4 hWl _ _ _ _ _⟩
          case rest =>
            obtain ⟨g, rfl, rfl, hT⟩ := hcut
            have HT := Lib.hid hT
            have hgl := hT.lt
            obtain ⟨s0, s1, s2, s3, s4, sf, sl⟩ := hT.var.five
            have o0 := hT.opr.cell 0 _ rfl
            have o1 := hT.opr.cell 1 _ rfl
            simp only at s0 s1 s2 s3 s4
            clear hT hO HB1
            by_cases h6 : d6 = 0
            · subst h6
              by_cases h14 : d1 = 14
              · subst h14
                have HR : Hid (res = ([], 0, 4)) := by show _ = _; rw [← HA.out]; simp
                clear HA HDK
                go_wp2_with fail
                refine bodyPost_ret (v := .tuple #[.string ⟨#[]⟩, .int .i64 0, .int .i64 4]) (by simp [results, Tryz.results9, go_sem]) rfl ?_
                exact ⟨by rw [HR.out], bel2 HB0.out HT.out.bel⟩
              · have b14 : (d1 == 14) = false := by simpa using h14
                have hspk := (HDK.out _ rfl h14).1
                obtain ⟨hn1', hn2'⟩ := (HDK.out _ rfl h14).2
                simp only at hn1' hn2'
                have HTO := Lib.hid (fun V h => told_any ⟨d1, d2, d3, d4, d5⟩ a V hspk.k hspk.r hspk.i hspk.x h)
                have htd := toldF_len hspk a
                have HA2 : Hid (txtG (y0 :: yt) (tt ++ (bb ++ toldF ⟨d1, d2, d3, d4, d5⟩ a)) [44, 32] (at_ + d5.toNat) (ops.drop (k + 1)) = res) := by
                  show _ = _; rw [← HA.out, if_pos rfl, if_neg h14]
                clear HA HDK hspk h14
                generalize toldF ⟨d1, d2, d3, d4, d5⟩ a = tl at *
                simp only [Sp.val] at HTO
                have hGc := HG0.out.below HT.out.bel
                have HGC := Lib.hid hGc
                clear hGc
                go_wp2_with (first | (go_at_call 16; refine (HTO.out _ HGC.out).mono ?_; rintro e w5 ⟨rfl, hb5⟩; have hv5 := HT.out.var.below hb5 (Nat.le_refl _); have t4 := hv5.cell 4 _ rfl; simp only at t4; have HB5 := Lib.hid (bel2 HT.out.bel hb5); clear hv5 hb5) | fail)
                go_roundw
                case rel =>
                  refine ⟨k + 1, at_ + d5.toNat, tt ++ (bb ++ tl), [44, 32], by omega, by go_num, ?_, ?_, rfl, by omega, by simp; omega, by simp, HB5.out, HA2.out⟩
                  · first | (congr 1; done) | (congr 1; omega)
                  · rfl
                case measure => first | (simp [intOf]; done) | (simp [intOf]; omega)
            · have b6 : (d6 != 0) = true := by simpa using h6
              have HR : Hid (res = ([], 0, d6)) := by show _ = _; rw [← HA.out, if_neg h6]
              clear HA HDK h6
              go_wp2_with fail
              refine bodyPost_ret (v := .tuple #[.string ⟨#[]⟩, .int .i64 0, .int .i64 d6]) (by simp [results, Tryz.results9, go_sem]) rfl ?_
              exact ⟨by rw [HR.out], bel2 HB0.out HT.out.bel⟩
        · have e : ops.drop k = [] := List.drop_eq_nil_of_le (by omega)
          have HR : Hid (res = (tt, (at_ : Int), 0)) := by show _ = _; rw [← hA, e]; rfl
          clear hA e
          go_wp2_with fail
          refine bodyPost_ret (v := .tuple #[.string (sb tt), .int .i64 at_, .int .i64 0]) (by simp [results, Tryz.results9, go_sem]) rfl ?_
          exact ⟨by rw [HR.out], bel2 HB0.out HBW.out⟩

end Go.Proofs.YtppkpfkoggnbmaaGreatDoor.Cs.Ka

/- The document's Text (layer 12). -/
namespace Go.Proofs.YtppkpfkoggnbmaaGreatDoor.Cs.Ka
open Go.RowKit Es
open Ia (sb cst sb_size sb_get sb_append)
set_option linter.unusedVariables false
set_option linter.unusedSimpArgs false

set_option maxHeartbeats 6400000 in
set_option maxRecDepth 100000 in
theorem rtext_any (A : Option Addr) (n c : Nat) (ys : List Int) (w : World) (hy : By w A n c ys) (hn : n ≤ 100000) (hg : Gt w) :
    Calls Tryz.prog 10 #[.slice A n c] w (TxE w (txtF ys)) := by
  by_cases h0 : n = 0
  · subst h0
    obtain rfl : ys = [] := List.eq_nil_of_length_eq_zero hy.len
    clear hy
    go_enter Tryz.func10, Tryz.ntmps10
    go_wp2
    refine bodyPost_ret (v := .tuple #[.string ⟨#[]⟩, .int .i64 0, .int .i64 3]) (by simp [results, Tryz.results10, go_sem]) rfl ?_
    exact ⟨rfl, Below.refl _ _⟩
  · have hl := hy.len
    obtain ⟨y0, yt, rfl⟩ : ∃ y0 yt, ys = y0 :: yt := by
      cases ys with
      | nil => simp at hl; omega
      | cons a b => exact ⟨a, b, rfl⟩
    have hb0 := hy.byt.hd
    obtain ⟨ad, rfl, had, HX⟩ := hy.c0
    have hc0 := HX.out w (Below.refl _ _)
    obtain ⟨ho1, ho2, ho3⟩ := prg_in hb0
    have HO := Lib.hid (fun W => Ia.dof_any y0 W)
    rw [Ia.code_prg y0] at HO
    have HE : Hid (txtF (y0 :: yt) = if (Ia.prg y0).2 = true then txtG (y0 :: yt) (Ia.prg y0).1.name [32] 1 (Ia.prg y0).1.ops else ([], 0, 4)) := rfl
    have hn0 : ((n : Int) == 0) = false := by apply beq_false_of_ne; omega
    have hn1 : (0 : Int) < n := by omega
    generalize txtF (y0 :: yt) = res at *
    generalize Ia.prg y0 = q at *
    obtain ⟨⟨code, name, cls, al, ops⟩, is⟩ := q
    simp only at ho1 ho2 ho3 HE
    have HG := Lib.hid hg
    have HY := Lib.hid hy
    have HO1 := Lib.hid ho1
    have HLn := Lib.hid hl
    clear hg hy ho1 hl HX
    cases is
    · go_enter Tryz.func10, Tryz.ntmps10
      go_wp2_with (first | (go_at_call 17; refine (HO.out _).mono ?_; rintro e w1 ⟨u, rfl, hu, hb⟩; obtain ⟨A', c', rfl⟩ := Ia.ro_slice hu.1; have HB := Lib.hid hb; clear hu hb) | fail)
      refine bodyPost_ret (v := .tuple #[.string ⟨#[]⟩, .int .i64 0, .int .i64 4]) (by simp [results, Tryz.results10, go_sem]) rfl ?_
      exact ⟨by rw [HE.out]; rfl, bel2 HB.out (Es.al1 _ _)⟩
    · go_enter Tryz.func10, Tryz.ntmps10
      go_upto_region 6 with (first | (go_at_call 17; refine (HO.out _).mono ?_; rintro e w1 ⟨u, rfl, hu, hb⟩; obtain ⟨A', c', rfl⟩ := Ia.ro_slice hu.1; have HB := Lib.hid hb; have HU := Lib.hid hu.1; clear hu hb) | fail)
      have hv := Es.Bk.new w1 41 [.int .i64 code, .string (sb name), .int .i64 cls, .int .i64 al, .slice A' ops.length c']
      have HB0 := Lib.hid (bel2 HB.out (Es.al1 w1 (.cells #[.int .i64 code, .string (sb name), .int .i64 cls, .int .i64 al, .slice A' ops.length c'] 41)))
      have HU0 := Lib.hid (own_below HU.out (Es.al1 w1 (.cells #[.int .i64 code, .string (sb name), .int .i64 cls, .int .i64 al, .slice A' ops.length c'] 41)))
      clear HB HU
      generalize w1.alloc (.cells #[.int .i64 code, .string (sb name), .int .i64 cls, .int .i64 al, .slice A' ops.length c'] 41) = W0 at *
      obtain ⟨v0, v1, v2, v3, v4, vf, vl⟩ := hv.five
      have HG0 := Lib.hid (HG.out.below HB0.out)
      have HY0 := Lib.hid (HY.out.below HB0.out (Nat.le_refl _))
      clear hv HG HY HO
      go_wp2_with fail
      go_loopw [7, 8, 31] (fun t a i W => ∃ (k at_ : Nat) (tt : Tx), k ≤ ops.length ∧ i = .int .i64 k ∧ a = .int .i64 at_ ∧ t = .string (sb tt) ∧ at_ ≤ n ∧ tt.length ≤ 8 + 50 * k ∧ Below W0.heap.size W0 W ∧ txtG (y0 :: yt) tt (if k = 0 then [32] else [44, 32]) at_ (ops.drop k) = res) (fun _ _ i _ => ops.length - (intOf i).toNat)
      case atStart => exact ⟨0, 1, name, Nat.zero_le _, rfl, rfl, rfl, by omega, by omega, Below.refl _ _, by rw [HE.out]; rfl⟩
      case round =>
        clear v0 v1 v2 v3 v4 vf hc0
        obtain ⟨k, at_, tt, hk, rfl, rfl, rfl, hat, htl, hbel, hA⟩ := hrel
        have HBW := Lib.hid hbel
        by_cases hlt : k < ops.length
        · rw [Ia.drop_cons ops k hlt, txtG_cons] at hA
          obtain ⟨r, c'', hre, hrl⟩ := Ia.ro_some HU0.out (by omega)
          simp only [Value.slice.injEq, true_and] at hre
          obtain ⟨rfl, rfl⟩ := hre
          obtain ⟨k0, k1⟩ := Ia.ro_at (own_below HU0.out hbel) k hlt
          have hq := HO1.out _ (Ia.opn_mem ops k hlt)
          obtain ⟨hq0, hq1, hz0, hz1⟩ := hq
          generalize Ia.opn ops k = q at *
          obtain ⟨a, z⟩ := q
          simp only at k0 k1 hA hq0 hq1 hz0 hz1
          go_upto_region 11 with fail
          have hO := Es.Bk.new wr 45 [.int .u8 a, .int .i64 z]
          have HB1 := Lib.hid (bel2 hbel (Es.al1 wr (.cells #[.int .u8 a, .int .i64 z] 45)))
          have hWl := hbel.size
          clear k0 k1 hbel
          generalize wr.alloc (.cells #[.int .u8 a, .int .i64 z] 45) = W1 at *
          have hyat := HY0.out.drop (k := at_) hat
          have hR := run_lo ad n c at_ hat
          have KO : Hid (∀ V, Below W0.heap.size W0 V → Calls Tryz.prog 18 #[.slice (some (if c = at_ then ad else ad.add at_)) (n - at_) (c - at_), opv a z] V fun e w' => e = .returned (.tuple #[(dec ((y0 :: yt).drop at_) a z).1.val, .int .i64 (dec ((y0 :: yt).drop at_) a z).2]) ∧ Below V.heap.size V w') :=
            Lib.hid fun V hV => rdecode_any _ (n - at_) (c - at_) _ a z V (hyat.below hV (Nat.le_refl _)) (by omega) ⟨hq0, hq1⟩
          generalize some (if c = at_ then ad else ad.add at_) = A2 at *
          have hdk : ∀ t, dec ((y0 :: yt).drop at_) a z = (t, 0) → t.k ≠ 14 → Spk t ∧ 1 ≤ t.n ∧ t.n ≤ ((y0 :: yt).drop at_).length := fun t h1 h2 => dec_ok hyat.byt h1 h2
          have hdl := hyat.len
          clear hyat
          generalize dec ((y0 :: yt).drop at_) a z = d at *
          obtain ⟨⟨d1, d2, d3, d4, d5⟩, d6⟩ := d
          simp only at hA hdk
          simp only [Sp.val] at KO
          have HDK := Lib.hid hdk
          have HA := Lib.hid hA
          clear hdk hA
          go_cut [11, 12] from 36 to 43 (fun s e V => ∃ g, s = .pointer (some ⟨g, 0, none⟩) ∧ e = .int .i64 d6 ∧ Tw W0 wr.heap.size a z g ⟨d1, d2, d3, d4, d5⟩ V)
          case first =>
            have o0 := hO.cell 0 _ rfl
            have o1 := hO.cell 1 _ rfl
            have o0d : W1.drew.cell? ⟨wr.heap.size, 0, none⟩ = some (.int .u8 a) := o0
            have o1d : W1.drew.cell? ⟨wr.heap.size, 1, none⟩ = some (.int .i64 z) := o1
            have hlt1 := hO.lt
            have HV : Hid (Es.Bk (W1.alloc (.cells #[.int .i64 0, .int .i64 0, .int .i64 0, .int .u32 0, .int .i64 0] 47)).drew W1.heap.size 47 [.int .i64 0, .int .i64 0, .int .i64 0, .int .u32 0, .int .i64 0]) := Es.Bk.new W1 _ [.int .i64 0, .int .i64 0, .int .i64 0, .int .u32 0, .int .i64 0]
            have HOB := Lib.hid hO
            have hn0 : (⟨wr.heap.size, 0, none⟩ : Addr).block ≠ W1.heap.size := by simp; omega
            have hn1 : (⟨wr.heap.size, 1, none⟩ : Addr).block ≠ W1.heap.size := by simp; omega
            clear hO
            go_region_held3 (fun w' => w'.cell? ⟨wr.heap.size, 0, none⟩ = some (.int .u8 a) ∧ w'.cell? ⟨wr.heap.size, 1, none⟩ = some (.int .i64 z))
              (first | (with_reducible exact ⟨z0, z1⟩) | (with_reducible exact ⟨far5 hn0 z0, far5 hn1 z1⟩) | (with_reducible exact ⟨o0d, o1d⟩) | (with_reducible exact ⟨o0, o1⟩) | go_keep)
              ((go_at_call 18
                refine (KO.out _ (bel2 HB1.out (by go_grown))).mono ?_
                rintro e w3 ⟨rfl, hb3⟩
                have hO3 := HOB.out.below (bel2 (by go_grown) hb3) (Nat.le_refl _)
                have z0 := hO3.cell 0 _ rfl
                have z1 := hO3.cell 1 _ rfl
                have hb4 := bel2 HB1.out (bel2 (by go_grown) hb3)
                (first
                  | (have hv3 : Es.Bk w3 W1.heap.size 47 [.int .i64 0, .int .i64 0, .int .i64 0, .int .u32 0, .int .i64 0] := (by with_reducible exact Es.Bk.below HV.out hb3 (Nat.le_refl _)); have v0 := hv3.cell 0 _ rfl; have v1 := hv3.cell 1 _ rfl; have v2 := hv3.cell 2 _ rfl; have v3 := hv3.cell 3 _ rfl; have v4 := hv3.cell 4 _ rfl; have vf := hv3.free; have hvl := hv3.lt)
                  | skip)))
            all_goals go_wp2_with fail
            all_goals go_meet
            all_goals first
              | exact ⟨_, rfl, rfl, Tw.put hO3 hb4 hWl hv3 hlt1 _ _ _ _ _⟩
              | exact ⟨_, rfl, rfl, Tw.new hO3 hb4 hWl _ _ _ _ _⟩
          case rest =>
            obtain ⟨g, rfl, rfl, hT⟩ := hcut
            have HT := Lib.hid hT
            have hgl := hT.lt
            obtain ⟨s0, s1, s2, s3, s4, sf, sl⟩ := hT.var.five
            have o0 := hT.opr.cell 0 _ rfl
            have o1 := hT.opr.cell 1 _ rfl
            simp only at s0 s1 s2 s3 s4
            clear hT hO HB1
            by_cases h6 : d6 = 0
            · subst h6
              by_cases h14 : d1 = 14
              · subst h14
                have HR : Hid (res = ([], 0, 4)) := by show _ = _; rw [← HA.out]; simp
                clear HA HDK
                go_wp2_with fail
                refine bodyPost_ret (v := .tuple #[.string ⟨#[]⟩, .int .i64 0, .int .i64 4]) (by simp [results, Tryz.results10, go_sem]) rfl ?_
                exact ⟨by rw [HR.out], bel2 HB0.out HT.out.bel⟩
              · have b14 : (d1 == 14) = false := by simpa using h14
                have hspk := (HDK.out _ rfl h14).1
                obtain ⟨hn1', hn2'⟩ := (HDK.out _ rfl h14).2
                simp only at hn1' hn2'
                have HTO := Lib.hid (fun V h => show_any ⟨d1, d2, d3, d4, d5⟩ a z V hspk.k hspk.r hspk.i hspk.x h)
                have htd := toldF_len hspk a
                have HA2 : Hid (txtG (y0 :: yt) (tt ++ ((if k = 0 then [32] else [44, 32]) ++ toldF ⟨d1, d2, d3, d4, d5⟩ a)) [44, 32] (at_ + d5.toNat) (ops.drop (k + 1)) = res) := by
                  show _ = _; rw [← HA.out, if_pos rfl, if_neg h14]
                clear HA HDK hspk h14
                generalize toldF ⟨d1, d2, d3, d4, d5⟩ a = tl at *
                simp only [Sp.val] at HTO
                have hGc := HG0.out.below HT.out.bel
                have HGC := Lib.hid hGc
                clear hGc
                by_cases hk0 : k = 0
                · subst hk0
                  rw [if_pos rfl] at HA2
                  go_wp2_with (first | (go_at_call 19; refine (HTO.out _ HGC.out).mono ?_; rintro e w5 ⟨rfl, hb5⟩; have HB5 := Lib.hid (bel2 HT.out.bel hb5); clear hb5) | fail)
                  go_roundw
                  case rel =>
                    refine ⟨0 + 1, at_ + d5.toNat, tt ++ ([32] ++ tl), by omega, by go_num, ?_, ?_, by omega, by simp; omega, HB5.out, HA2.out⟩
                    · first | (congr 1; done) | (congr 1; omega)
                    · congr 1
                      show sb tt ++ sb [32] ++ sb tl = _
                      rw [sb_append tt [32], sb_append _ tl, List.append_assoc]
                  case measure => first | (simp [intOf]; done) | (simp [intOf]; omega)
                · have hk1 : (0 : Int) < k := by omega
                  rw [if_neg hk0] at HA2
                  have HA3 : Hid (txtG (y0 :: yt) (tt ++ ([44, 32] ++ tl)) (if k + 1 = 0 then [32] else [44, 32]) (at_ + d5.toNat) (ops.drop (k + 1)) = res) := HA2.out
                  clear hk0 HA2
                  go_wp2_with (first | (go_at_call 19; refine (HTO.out _ HGC.out).mono ?_; rintro e w5 ⟨rfl, hb5⟩; have HB5 := Lib.hid (bel2 HT.out.bel hb5); clear hb5) | fail)
                  go_roundw
                  case rel =>
                    refine ⟨k + 1, at_ + d5.toNat, tt ++ ([44, 32] ++ tl), by omega, by go_num, ?_, ?_, by omega, by simp; omega, HB5.out, HA3.out⟩
                    · first | (congr 1; done) | (congr 1; omega)
                    · congr 1
                      show sb tt ++ sb [44] ++ sb [32] ++ sb tl = _
                      rw [sb_append tt [44], sb_append _ [32], sb_append _ tl, List.append_assoc, List.append_assoc]
                      rfl
                  case measure => first | (simp [intOf]; done) | (simp [intOf]; omega)
            · have b6 : (d6 != 0) = true := by simpa using h6
              have HR : Hid (res = ([], 0, d6)) := by show _ = _; rw [← HA.out, if_neg h6]
              clear HA HDK h6
              go_wp2_with fail
              refine bodyPost_ret (v := .tuple #[.string ⟨#[]⟩, .int .i64 0, .int .i64 d6]) (by simp [results, Tryz.results10, go_sem]) rfl ?_
              exact ⟨by rw [HR.out], bel2 HB0.out HT.out.bel⟩
        · have e : ops.drop k = [] := List.drop_eq_nil_of_le (by omega)
          have HR : Hid (res = (tt, (at_ : Int), 0)) := by show _ = _; rw [← hA, e]; rfl
          clear hA e
          go_wp2_with fail
          refine bodyPost_ret (v := .tuple #[.string (sb tt), .int .i64 at_, .int .i64 0]) (by simp [results, Tryz.results10, go_sem]) rfl ?_
          exact ⟨by rw [HR.out], bel2 HB0.out HBW.out⟩

end Go.Proofs.YtppkpfkoggnbmaaGreatDoor.Cs.Ka
