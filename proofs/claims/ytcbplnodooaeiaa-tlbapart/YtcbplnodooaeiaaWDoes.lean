/- The walk of TlbDoes. -/
import Derived.Test.YtcbplnodooaeiaaTSrc
import Derived.Deep.Slices
import Derived.Deep.RegionWith
import Derived.Deep.CutBlock
import Derived.Outline
namespace Go.Proofs.Ytcbplnodooaeiaa.Cs
open Go.RowKit

/-- A slice of calls that came in. -/
def Src3 (w : World) (A : Option Addr) (n : Nat) : Prop := ∀ k, k < n → ∃ (ad : Addr) (K p x : Int), A = some ad ∧ ad.block < w.heap.size ∧
  w.cell? (ad.add (k * 3)) = some (.int .i64 K) ∧ w.cell? (ad.add (k * 3 + 1)) = some (.int .u32 p) ∧ w.cell? (ad.add (k * 3 + 2)) = some (.int .u32 x) ∧ U32 p ∧ U32 x
theorem add_next (a : Addr) (m j : Nat) (b o : Nat) (s : Option Nat) (h : a.add m = ⟨b, o, s⟩) : a.add (m + (j + 1)) = ⟨b, o + (j + 1), none⟩ := by
  have e : (a.add m).add (j + 1) = a.add (m + (j + 1)) := Deep.add_add a m (j + 1)
  rw [← e, h]; rfl
theorem Src3.at_ {w wr : World} {A : Option Addr} {n : Nat} (h : Src3 w A n) (hb : Below w.heap.size w wr) {k : Nat} (hk : k < n) : ∃ (ad : Addr) (b o : Nat) (s : Option Nat) (K p x : Int), A = some ad ∧ ad.add (k * 3) = ⟨b, o, s⟩ ∧ b < w.heap.size ∧
    wr.cell? ⟨b, o, s⟩ = some (.int .i64 K) ∧ wr.cell? ⟨b, o + 1, none⟩ = some (.int .u32 p) ∧ wr.cell? ⟨b, o + 2, none⟩ = some (.int .u32 x) ∧ U32 p ∧ U32 x := by
  obtain ⟨ad, K, p, x, e, hl, h0, h1, h2, hp, hx⟩ := h k hk
  obtain ⟨b, o, s, ha⟩ : ∃ b o s, ad.add (k * 3) = ⟨b, o, s⟩ := ⟨_, _, _, rfl⟩
  have hbl : b < w.heap.size := by
    have := block_add ad (k * 3)
    rw [ha] at this
    rw [show b = ad.block from this]; exact hl
  rw [add_next ad (k * 3) 0 b o s ha] at h1
  rw [add_next ad (k * 3) 1 b o s ha] at h2
  rw [ha] at h0
  exact ⟨ad, b, o, s, K, p, x, e, ha, hbl, (hb.cell (p := ⟨b, o, s⟩) hbl).trans h0, (hb.cell (p := ⟨b, o + 1, none⟩) hbl).trans h1, (hb.cell (p := ⟨b, o + 2, none⟩) hbl).trans h2, hp, hx⟩

set_option maxHeartbeats 400000 in
theorem does_long (A : Option Addr) (n c : Nat) (w : World) (hn : 200 < n) :
    Calls Try.prog 3 #[.slice A n c] w fun e w' => e = .returned (.bool true) ∧ Below w.heap.size w w' := by
  have hn' : (200 : Int) < (n : Int) := by omega
  go_enter Try.func3, Try.ntmps3
  go_wp2_with fail
  refine (alive _).mono ?_
  rintro e w1 ⟨rfl, hb1⟩
  go_wp2
  go_ret
  exact ⟨rfl, hb1⟩

/-- The buffer and the document's have the same. -/
structure Both (w : World) (g h : Nat) (xs : Rows) (S T : Nat → Prop) (wr : World) : Prop where
  tb : Tb wr g S xs
  rf : Rf wr h T xs
  ap : Apart S T
  aS : Ab w.heap.size S
  aT : Ab w.heap.size T
  bel : Below w.heap.size w wr
section
variable {w wr w' w'' : World} {g h : Nat} {xs ys : Rows} {S S' T T' : Nat → Prop}
theorem Both.below (b : Both w g h xs S T wr) (hb : Below wr.heap.size wr w') : Both w g h xs S T w' :=
  ⟨b.tb.below hb, b.rf.below hb, b.ap, b.aS, b.aT, bel_trans b.bel hb b.bel.size⟩
/-- The buffer has turned, the document's stays. -/
theorem Both.one (b : Both w g h xs S T wr) (hs : Step S S' wr w') : Rf w' h T xs ∧ Apart S' T ∧ Ab w.heap.size S' ∧ Below w.heap.size w w' :=
  ⟨b.rf.mods hs.mods b.ap, hs.apart b.ap b.rf.lo, hs.ab b.aS b.bel.size, hs.below b.bel b.aS b.bel.size⟩
theorem Both.two (b : Both w g h xs S T wr) (ht : Tb w' g S' ys) (hs : Step S S' wr w') (hr : Rf w'' h T' ys) (hs' : Step T T' w' w'') : Both w g h ys S' T' w'' := by
  obtain ⟨_, h2, h3, h4⟩ := b.one hs
  exact ⟨ht.mods hs'.mods h2.symm, hr, (hs'.apart h2.symm ht.lo).symm, h3, hs'.ab b.aT h4.size, hs'.below h4 b.aT h4.size⟩
end

/-- In a round: the call's own block, too. -/
structure Rd (w : World) (g h q : Nat) (K p x : Int) (xs : Rows) (S T : Nat → Prop) (W : World) : Prop where
  both : Both w g h xs S T W
  cl : W.heap[q]? = some (.cells #[.int .i64 K, .int .u32 p, .int .u32 x] 32 (0, 0))
  qS : ¬ S q
  qT : ¬ T q
section
variable {w W W' W'' : World} {g h q : Nat} {K p x : Int} {xs ys : Rows} {S S' T T' : Nat → Prop}
theorem Both.round (b : Both w g h xs S T W) : Rd w g h W.heap.size K p x xs S T (W.alloc (.cells #[.int .i64 K, .int .u32 p, .int .u32 x] 32)) :=
  ⟨b.below ((Below.refl _ _).alloc (Nat.le_refl _) _), heap_alloc_new _ _, fun e => by have := b.tb.lo _ e; omega, fun e => by have := b.rf.lo _ e; omega⟩
theorem Rd.below (r : Rd w g h q K p x xs S T W) (hb : Below W.heap.size W W') : Rd w g h q K p x xs S T W' :=
  ⟨r.both.below hb, (hb.block q (lt_of_heap r.cl)).trans r.cl, r.qS, r.qT⟩
theorem call_cells (e : W.heap[q]? = some (.cells #[.int .i64 K, .int .u32 p, .int .u32 x] 32 (0, 0))) : W.cell? ⟨q, 0, none⟩ = some (.int .i64 K) ∧ W.cell? ⟨q, 1, none⟩ = some (.int .u32 p) ∧ W.cell? ⟨q, 2, none⟩ = some (.int .u32 x) := by
  rw [cell_of_row W q 0 _ _ _ e, cell_of_row W q 1 _ _ _ e, cell_of_row W q 2 _ _ _ e]
  exact ⟨rfl, rfl, rfl⟩
/-- The buffer's call is behind us. -/
theorem Rd.one (r : Rd w g h q K p x xs S T W) (hs : Step S S' W W') : W'.heap[q]? = some (.cells #[.int .i64 K, .int .u32 p, .int .u32 x] 32 (0, 0)) ∧ Rf W' h T xs :=
  ⟨(hs.mods.block q (lt_of_heap r.cl) r.qS).trans r.cl, (r.both.one hs).1⟩
/-- Both are. -/
theorem Rd.two (r : Rd w g h q K p x xs S T W) (ht : Tb W' g S' ys) (hs : Step S S' W W') (hr : Rf W'' h T' ys) (hs' : Step T T' W' W'') : Rd w g h q K p x ys S' T' W'' := by
  have hq := lt_of_heap r.cl
  have h1 := r.one hs
  refine ⟨r.both.two ht hs hr hs', (hs'.mods.block q (lt_of_heap h1.1) r.qT).trans h1.1, fun e => ?_, fun e => ?_⟩
  · rcases hs.grow q e with e | e
    · exact r.qS e
    · omega
  · rcases hs'.grow q e with e | e
    · exact r.qT e
    · have := hs.mods.size; omega
end

set_option maxHeartbeats 4000000 in
set_option maxRecDepth 100000 in
theorem does_short (A : Option Addr) (n c : Nat) (w : World) (hs : Src3 w A n) (hn : n ≤ 200) :
    Calls Try.prog 3 #[.slice A n c] w fun e w' => e = .returned (.bool true) ∧ Below w.heap.size w w' := by
  have hn' : ¬ (200 : Int) < (n : Int) := by omega
  have HS := Lib.hid hs
  clear hs
  go_enter Try.func3, Try.ntmps3
  go_wp2_with fail
  refine (alive _).mono ?_
  rintro e' w1 ⟨rfl, hb1⟩
  go_wp2_with fail
  refine (new_any _).mono ?_
  rintro e' w2 ⟨g, S, rfl, hg, hg', h2, hab, hb2⟩
  have HL : Hid (Both w g w2.heap.size [] S (fun k => k = w2.heap.size) (w2.alloc (.cells #[.slice none 0 0, .slice none 0 0] 29))) := by
    have hb3 : Below w2.heap.size w2 (w2.alloc (.cells #[.slice none 0 0, .slice none 0 0] 29)) := (Below.refl _ _).alloc (Nat.le_refl _) _
    have hb02 := bel_trans hb1 hb2 hb1.size
    refine ⟨h2.below hb3, ⟨⟨_, _, heap_alloc_new _ _, R1.nil _, R1.nil _, fun k hk => absurd hk (bl_nil k), fun k => by simp [Bl, Value.ownBlock]⟩⟩, fun k hk e => ?_, fun k hk => Nat.le_trans hb1.size (hab k hk), fun k e => ?_, bel_trans hb02 hb3 hb02.size⟩
    · have := h2.lo k hk; omega
    · have := hb02.size; omega
  clear hb1 h2 hab hb2 hg hg'
  go_wp2
  generalize hh : w2.heap.size = h at HL
  clear hh
  go_loopg [24] n (fun gg i wr => ∃ k : Nat, k ≤ n ∧ gg = n - k ∧ i = .int .i64 k ∧ ∃ xs S T, Both w g h xs S T wr)
  case atStart => exact ⟨0, Nat.zero_le _, rfl, rfl, _, _, _, HL.out⟩
  case round =>
    clear HL
    obtain ⟨k, hk, hgk, rfl, xs, S, T, hL⟩ := hrel
    have HGK := Lib.hid hgk
    have HL := Lib.hid hL
    clear hL hgk
    by_cases hlt : k < n
    · obtain ⟨ad, b, o, s, K, p, x, rfl, ha, _, h0, h1, h2, hp, hx⟩ := HS.out.at_ HL.out.bel hlt
      have HP := Lib.hid hp
      have HX := Lib.hid hx
      have HR : Hid (Rd w g h wr.heap.size K p x xs S T (wr.alloc (.cells #[.int .i64 K, .int .u32 p, .int .u32 x] 32))) := HL.out.round
      have hl8 := HL.out.tb.fit.2.1
      clear hp hx HL
      go_upto_block 2 with fail
      go_cut [24] from 24 to 120 (fun i wx => i = .int .i64 k ∧ ∃ xs S T, Both w g h xs S T wx)
      case first =>
        by_cases hK0 : K = 0
        · subst hK0
          go_wp2_with fail
          refine (get_any g S xs p _ HR.out.both.tb).mono ?_
          rintro e' w3 ⟨rfl, hb3⟩
          have HR3 := Lib.hid (HR.out.below hb3)
          obtain ⟨_, hp1, _⟩ := call_cells HR3.out.cl
          clear hb3 HR
          go_wp2_with fail
          refine (rget_any _ T xs p _ HR3.out.both.rf hl8).mono ?_
          rintro e' w' ⟨rfl, rfl⟩
          go_wp2_with fail
          refine (get_nil p _).mono ?_
          rintro e' w4 ⟨rfl, hb4⟩
          have HR4 := Lib.hid (HR3.out.below hb4)
          clear hb4 HR3 hp1
          generalize ent xs p = y
          generalize hav xs p = t
          cases t <;> go_wp2_with fail
          all_goals go_meet
          all_goals exact ⟨rfl, _, _, _, HR4.out.both⟩
        · by_cases hK1 : K = 1
          · subst hK1
            go_wp2_with fail
            refine (put_any g S xs p x _ HR.out.both.tb HP.out HX.out).mono ?_
            rintro e' w3 ⟨rfl, S3, h3, s3⟩
            obtain ⟨hcl, hrf⟩ := HR.out.one s3
            obtain ⟨_, hp1, hx1⟩ := call_cells hcl
            have HT3 := Lib.hid h3
            have HS3 := Lib.hid s3
            have HRf := Lib.hid hrf
            have HF := Lib.hid HR.out.both.tb.fit
            clear h3 s3 hcl hrf
            go_wp2_with fail
            refine (rput_any _ T xs p x _ HRf.out HF.out).mono ?_
            rintro e' w4 ⟨rfl, T4, h4, s4⟩
            have HR4 := Lib.hid (HR.out.two HT3.out HS3.out h4 s4)
            obtain ⟨_, hp2, hx2⟩ := call_cells HR4.out.cl
            clear h4 s4 HT3 HS3 HRf hp1 hx1
            go_wp2_with fail
            refine (put_nil p x _).mono ?_
            rintro e' w' ⟨rfl, rfl⟩
            go_wp2_with fail
            go_meet
            exact ⟨rfl, _, _, _, HR4.out.both⟩
          · by_cases hK2 : K = 2
            · subst hK2
              go_wp2_with fail
              refine (drop_any g S xs p _ HR.out.both.tb).mono ?_
              rintro e' w3 ⟨rfl, S3, h3, s3⟩
              obtain ⟨hcl, hrf⟩ := HR.out.one s3
              obtain ⟨_, hp1, _⟩ := call_cells hcl
              have HT3 := Lib.hid h3
              have HS3 := Lib.hid s3
              have HRf := Lib.hid hrf
              have HF := Lib.hid HR.out.both.tb.fit
              clear h3 s3 hcl hrf
              go_wp2_with fail
              refine (rdrop_any _ T xs p _ HRf.out HF.out).mono ?_
              rintro e' w4 ⟨rfl, T4, h4, s4⟩
              have HR4 := Lib.hid (HR.out.two HT3.out HS3.out h4 s4)
              obtain ⟨_, hp2, _⟩ := call_cells HR4.out.cl
              clear h4 s4 HT3 HS3 HRf hp1
              go_wp2_with fail
              refine (drop_nil p _).mono ?_
              rintro e' w5 ⟨rfl, hb5⟩
              have HB5 := Lib.hid (HR4.out.both.below hb5)
              clear hb5
              go_wp2_with fail
              go_meet
              exact ⟨rfl, _, _, _, HB5.out⟩
            · by_cases hK3 : K = 3
              · subst hK3
                go_wp2_with fail
                refine (clear_any g S xs _ HR.out.both.tb).mono ?_
                rintro e' w3 ⟨rfl, S3, h3, s3⟩
                have HT3 := Lib.hid h3
                have HS3 := Lib.hid s3
                have HRf := Lib.hid (HR.out.one s3).2
                clear h3 s3
                go_wp2_with fail
                refine (rclear_any _ T xs _ HRf.out).mono ?_
                rintro e' w4 ⟨rfl, T4, h4, s4⟩
                have HR4 := Lib.hid (HR.out.two HT3.out HS3.out h4 s4)
                clear h4 s4 HT3 HS3 HRf
                go_wp2_with fail
                refine (clear_nil _).mono ?_
                rintro e' w' ⟨rfl, rfl⟩
                go_wp2_with fail
                go_meet
                exact ⟨rfl, _, _, _, HR4.out.both⟩
              · have e0 : (K == 0) = false := by simpa using hK0
                have e1 : (K == 1) = false := by simpa using hK1
                have e2 : (K == 2) = false := by simpa using hK2
                have e3 : (K == 3) = false := by simpa using hK3
                go_wp2_with fail
                go_meet
                exact ⟨rfl, _, _, _, HR.out.both⟩
      case rest =>
        clear HR hl8 HP HX h0 h1 h2 ha
        obtain ⟨rfl, xs, S, T, hB⟩ := hcut
        obtain ⟨m, hm⟩ : ∃ m, xs.length = m := ⟨_, rfl⟩
        obtain ⟨A', c', _, _, _, hc0, _, hrA, _⟩ := hB.rf.open_
        have hl8 := hB.tb.fit.2.1
        rw [hm] at hc0 hrA hl8
        have HM := Lib.hid hm
        have HRA := Lib.hid hrA
        have HB := Lib.hid hB
        have hhl := hB.rf.lo _ hB.rf.in_
        clear hm hrA hB
        go_wp2_with fail
        go_region_with (first
          | (go_at_call_of 19 (Value.pointer none); refine (pages_nil _).mono ?_; rintro e' w' ⟨rfl, rfl⟩)
          | (go_at_call 19; refine (pages_any g S xs m _ (HB.out.tb.below (Below.refl _ _).drew) HM.out).mono ?_; rintro e' w5 ⟨b5, cap5, rfl, hb5, hr5, hbe5⟩; have hc5 := (hbe5.cell (p := ⟨h, 0, none⟩) hhl).trans hc0; have HE5 := Lib.hid hbe5; have HR5 := Lib.hid hr5; clear hbe5 hr5)
          | (go_at_call 18; refine (same_yes _ _ m _ _ (pages xs) _ (by rw [pages_length, HM.out]) HR5.out (own_below HRA.out.drew HE5.out)).mono ?_; rintro e' w6 ⟨rfl, hb6⟩))
        all_goals
          have HB6 := Lib.hid ((HB.out.below (Below.refl _ _).drew).below HE5.out |>.below hb6)
          clear hb6 HE5 HR5 HRA
          go_wp2
          go_roundg (n - (k + 1))
          case measure => have := HGK.out; omega
          case rel => exact ⟨k + 1, by omega, rfl, by go_num, _, _, _, HB6.out⟩
    · go_wp2
      go_ret
      exact ⟨rfl, HL.out.bel⟩

end Go.Proofs.Ytcbplnodooaeiaa.Cs
