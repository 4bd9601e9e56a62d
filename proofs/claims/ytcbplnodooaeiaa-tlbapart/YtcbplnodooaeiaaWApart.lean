/- The walk of TlbApart. -/
import Derived.Test.YtcbplnodooaeiaaTOpen
import Derived.StillTailTactics
namespace Go.Proofs.Ytcbplnodooaeiaa.Cs
open Go.RowKit

set_option maxHeartbeats 400000 in
theorem apart_long (A A2 : Option Addr) (n c n2 c2 : Nat) (w : World) (hn : 60 < n ∨ 60 < n2) :
    Calls Try.prog 7 #[.slice A n c, .slice A2 n2 c2] w fun e w' => e = .returned (.bool true) ∧ Below w.heap.size w w' := by
  by_cases h1 : 60 < n
  · have hn' : (60 : Int) < (n : Int) := by omega
    clear hn
    go_enter Try.func7, Try.ntmps7
    go_wp2_with fail
    refine (alive _).mono ?_
    rintro e w1 ⟨rfl, hb1⟩
    go_wp2
    go_ret
    exact ⟨rfl, hb1⟩
  · have hn' : ¬ (60 : Int) < (n : Int) := by omega
    have hn2' : (60 : Int) < (n2 : Int) := by omega
    clear hn
    go_enter Try.func7, Try.ntmps7
    go_wp2_with fail
    refine (alive _).mono ?_
    rintro e w1 ⟨rfl, hb1⟩
    go_wp2
    go_ret
    exact ⟨rfl, hb1⟩

/-- Three buffers. -/
structure Tri (w : World) (g1 g2 g3 : Nat) (x1 x2 x3 : Rows) (S1 S2 S3 : Nat → Prop) (W : World) : Prop where
  t1 : Tb W g1 S1 x1
  t2 : Tb W g2 S2 x2
  t3 : Tb W g3 S3 x3
  a12 : Apart S1 S2
  a13 : Apart S1 S3
  a23 : Apart S2 S3
  b1 : Ab w.heap.size S1
  b2 : Ab w.heap.size S2
  b3 : Ab w.heap.size S3
  bel : Below w.heap.size w W
section
variable {w W W' : World} {g1 g2 g3 : Nat} {x1 x2 x3 y : Rows} {S1 S2 S3 S' : Nat → Prop}
theorem Tri.below (h : Tri w g1 g2 g3 x1 x2 x3 S1 S2 S3 W) (hb : Below W.heap.size W W') : Tri w g1 g2 g3 x1 x2 x3 S1 S2 S3 W' :=
  ⟨h.t1.below hb, h.t2.below hb, h.t3.below hb, h.a12, h.a13, h.a23, h.b1, h.b2, h.b3, bel_trans h.bel hb h.bel.size⟩
theorem Tri.one (h : Tri w g1 g2 g3 x1 x2 x3 S1 S2 S3 W) (t : Tb W' g1 S' y) (s : Step S1 S' W W') : Tri w g1 g2 g3 y x2 x3 S' S2 S3 W' :=
  ⟨t, h.t2.mods s.mods h.a12, h.t3.mods s.mods h.a13, s.apart h.a12 h.t2.lo, s.apart h.a13 h.t3.lo, h.a23, s.ab h.b1 h.bel.size, h.b2, h.b3, s.below h.bel h.b1 h.bel.size⟩
theorem Tri.two (h : Tri w g1 g2 g3 x1 x2 x3 S1 S2 S3 W) (t : Tb W' g2 S' y) (s : Step S2 S' W W') : Tri w g1 g2 g3 x1 y x3 S1 S' S3 W' :=
  ⟨h.t1.mods s.mods h.a12.symm, t, h.t3.mods s.mods h.a23, (s.apart h.a12.symm h.t1.lo).symm, h.a13, s.apart h.a23 h.t3.lo, h.b1, s.ab h.b2 h.bel.size, h.b3, s.below h.bel h.b2 h.bel.size⟩
theorem Tri.three (h : Tri w g1 g2 g3 x1 x2 x3 S1 S2 S3 W) (t : Tb W' g3 S' y) (s : Step S3 S' W W') : Tri w g1 g2 g3 x1 x2 y S1 S2 S' W' :=
  ⟨h.t1.mods s.mods h.a13.symm, h.t2.mods s.mods h.a23.symm, t, h.a12, (s.apart h.a13.symm h.t1.lo).symm, (s.apart h.a23.symm h.t2.lo).symm, h.b1, h.b2, s.ab h.b3 h.bel.size, s.below h.bel h.b3 h.bel.size⟩
end

/-- In a round: the call's own block, too. -/
structure Tq (w : World) (g1 g2 g3 q : Nat) (K p x : Int) (x1 x2 x3 : Rows) (S1 S2 S3 : Nat → Prop) (W : World) : Prop where
  tri : Tri w g1 g2 g3 x1 x2 x3 S1 S2 S3 W
  cl : W.heap[q]? = some (.cells #[.int .i64 K, .int .u32 p, .int .u32 x] 32 (0, 0))
  n1 : ¬ S1 q
  n2 : ¬ S2 q
  n3 : ¬ S3 q
theorem Step.out {S S' : Nat → Prop} {W W' : World} {q : Nat} (s : Step S S' W W') (hq : q < W.heap.size) (n : ¬ S q) : ¬ S' q := fun e => by
  rcases s.grow q e with e | e
  · exact n e
  · omega
section
variable {w W W' : World} {g1 g2 g3 q : Nat} {K p x : Int} {x1 x2 x3 y : Rows} {S1 S2 S3 S' : Nat → Prop}
theorem Tri.round (h : Tri w g1 g2 g3 x1 x2 x3 S1 S2 S3 W) : Tq w g1 g2 g3 W.heap.size K p x x1 x2 x3 S1 S2 S3 (W.alloc (.cells #[.int .i64 K, .int .u32 p, .int .u32 x] 32)) :=
  ⟨h.below ((Below.refl _ _).alloc (Nat.le_refl _) _), heap_alloc_new _ _, fun e => by have := h.t1.lo _ e; omega, fun e => by have := h.t2.lo _ e; omega, fun e => by have := h.t3.lo _ e; omega⟩
theorem Tq.drew (h : Tq w g1 g2 g3 q K p x x1 x2 x3 S1 S2 S3 W) : Tq w g1 g2 g3 q K p x x1 x2 x3 S1 S2 S3 W.drew :=
  ⟨h.tri.below (Below.refl _ _).drew, h.cl, h.n1, h.n2, h.n3⟩
theorem Tq.one (h : Tq w g1 g2 g3 q K p x x1 x2 x3 S1 S2 S3 W) (t : Tb W' g1 S' y) (s : Step S1 S' W W') : Tq w g1 g2 g3 q K p x y x2 x3 S' S2 S3 W' :=
  ⟨h.tri.one t s, (s.mods.block q (lt_of_heap h.cl) h.n1).trans h.cl, s.out (lt_of_heap h.cl) h.n1, h.n2, h.n3⟩
theorem Tq.two (h : Tq w g1 g2 g3 q K p x x1 x2 x3 S1 S2 S3 W) (t : Tb W' g2 S' y) (s : Step S2 S' W W') : Tq w g1 g2 g3 q K p x x1 y x3 S1 S' S3 W' :=
  ⟨h.tri.two t s, (s.mods.block q (lt_of_heap h.cl) h.n2).trans h.cl, h.n1, s.out (lt_of_heap h.cl) h.n2, h.n3⟩
theorem Tq.three (h : Tq w g1 g2 g3 q K p x x1 x2 x3 S1 S2 S3 W) (t : Tb W' g3 S' y) (s : Step S3 S' W W') : Tq w g1 g2 g3 q K p x x1 x2 y S1 S2 S' W' :=
  ⟨h.tri.three t s, (s.mods.block q (lt_of_heap h.cl) h.n3).trans h.cl, h.n1, h.n2, s.out (lt_of_heap h.cl) h.n3⟩
end

set_option maxHeartbeats 4000000 in
set_option maxRecDepth 100000 in
theorem apart_short (A A2 : Option Addr) (n c n2 c2 : Nat) (w : World) (hs : Src3 w A n) (hs2 : Src3 w A2 n2) (hn : n ≤ 60) (hn2 : n2 ≤ 60) :
    Calls Try.prog 7 #[.slice A n c, .slice A2 n2 c2] w fun e w' => e = .returned (.bool true) ∧ Below w.heap.size w w' := by
  have hn' : ¬ (60 : Int) < (n : Int) := by omega
  have hn2' : ¬ (60 : Int) < (n2 : Int) := by omega
  have HS := Lib.hid hs
  have HS2 := Lib.hid hs2
  clear hs hs2
  go_enter Try.func7, Try.ntmps7
  go_wp2_with fail
  refine (alive _).mono ?_
  rintro e' w1 ⟨rfl, hb1⟩
  go_wp2_with fail
  refine (new_any _).mono ?_
  rintro e' w2 ⟨g1, S1, rfl, _, _, h1, hab1, hb2⟩
  go_wp2_with fail
  refine (new_any _).mono ?_
  rintro e' w3 ⟨g2, S2, rfl, _, _, h2, hab2, hb3⟩
  go_wp2_with fail
  refine (new_any _).mono ?_
  rintro e' w4 ⟨g3, S3, rfl, _, _, h3, hab3, hb4⟩
  have HL : Hid (Tri w g1 g2 g3 [] [] [] S1 S2 S3 w4) := by
    have b2 := bel_trans hb1 hb2 hb1.size
    have b3 := bel_trans b2 hb3 b2.size
    have b4 := bel_trans b3 hb4 b3.size
    exact ⟨(h1.below hb3).below hb4, h2.below hb4, h3, Apart.of h1.lo hab2, Apart.of (h1.below hb3).lo hab3, Apart.of h2.lo hab3, fun k hk => Nat.le_trans hb1.size (hab1 k hk), fun k hk => Nat.le_trans b2.size (hab2 k hk), fun k hk => Nat.le_trans b3.size (hab3 k hk), b4⟩
  clear hb1 h1 hab1 hb2 h2 hab2 hb3 h3 hab3 hb4
  go_wp2
  go_loopw [31] (fun i wr => ∃ k : Nat, k ≤ n ∧ i = .int .i64 k ∧ ∃ xs x3 S1 S2 S3, Tri w g1 g2 g3 xs xs x3 S1 S2 S3 wr) (fun i _ => n - (intOf i).toNat)
  case atStart => exact ⟨0, Nat.zero_le _, rfl, _, _, _, _, _, HL.out⟩
  case round =>
    clear HL
    obtain ⟨k, hk, rfl, xs, x3, S1, S2, S3, hL⟩ := hrel
    have HL := Lib.hid hL
    clear hL
    by_cases hlt : k < n
    · obtain ⟨ad, b, o, s, K, p, x, rfl, ha, _, h0, h1, h2, hp, hx⟩ := HS.out.at_ HL.out.bel hlt
      have HP := Lib.hid hp
      have HX := Lib.hid hx
      have HQ0 : Hid (Tq w g1 g2 g3 wr.heap.size K p x xs xs x3 S1 S2 S3 (wr.alloc (.cells #[.int .i64 K, .int .u32 p, .int .u32 x] 32))) := HL.out.round
      clear hp hx HL
      go_wp2_with fail
      refine (put_any g1 S1 xs p x _ HQ0.out.tri.t1 HP.out HX.out).mono ?_
      rintro e' v1 ⟨rfl, S1', h3, s3⟩
      have HQ1 := Lib.hid (HQ0.out.one h3 s3)
      obtain ⟨hk1, hp1, hx1⟩ := call_cells HQ1.out.cl
      have hq1 := lt_of_heap HQ1.out.cl
      clear h3 s3 HQ0 ha h0 h1 h2
      by_cases hlt2 : k < n2
      · obtain ⟨ad2, b2, o2, s2, K2, p2, x2, rfl, ha2, _, h0, h1, h2, hp2, hx2⟩ := HS2.out.at_ HQ1.out.tri.bel hlt2
        have HP2 := Lib.hid hp2
        have HX2 := Lib.hid hx2
        clear hp2 hx2
        go_wp2_with fail
        go_still_tail 11, (by kernel_rfl)
        change wpList _ _ _ _ _ v1.drew
        have HQd := Lib.hid HQ1.out.drew
        generalize v1.drew = v2 at HQd ⊢
        clear h0 h1 h2 hk1 hp1 hx1 HQ1 hq1
        go_wp2_with fail
        refine (put_any g3 S3 x3 p2 x2 _ HQd.out.tri.t3 HP2.out HX2.out).mono ?_
        rintro e' v3 ⟨rfl, S3', h3, s3⟩
        have HQ2 := Lib.hid (HQd.out.three h3 s3)
        obtain ⟨_, hp2, hx2⟩ := call_cells HQ2.out.cl
        have hq2 := lt_of_heap HQ2.out.cl
        clear h3 s3 HQd
        go_wp2_with fail
        refine (drop_any g3 S3' _ p _ HQ2.out.tri.t3).mono ?_
        rintro e' v3b ⟨rfl, S3b, h3, s3⟩
        have HQ3 := Lib.hid (HQ2.out.three h3 s3)
        obtain ⟨hk3, hp3, hx3⟩ := call_cells HQ3.out.cl
        clear h3 s3 HQ2 hp2 hx2 hq2
        have hq := lt_of_heap HQ3.out.cl
        go_wp2_with fail
        refine (put_any g2 S2 xs p x _ HQ3.out.tri.t2 HP.out HX.out).mono ?_
        rintro e' v4 ⟨rfl, S2', h3, s3⟩
        have HQ4 := Lib.hid (HQ3.out.two h3 s3)
        obtain ⟨hk4, hp4, hx4⟩ := call_cells HQ4.out.cl
        have hq4 := lt_of_heap HQ4.out.cl
        clear h3 s3 HQ3
        by_cases hK : K = 2
        · subst hK
          go_wp2_with fail
          refine (drop_any g1 S1' _ p _ HQ4.out.tri.t1).mono ?_
          rintro e' v5 ⟨rfl, S1'', h3, s3⟩
          have HQ5 := Lib.hid (HQ4.out.one h3 s3)
          obtain ⟨_, hp5, _⟩ := call_cells HQ5.out.cl
          clear h3 s3 HQ4
          go_wp2_with fail
          refine (clear_any g3 _ _ _ HQ5.out.tri.t3).mono ?_
          rintro e' v6 ⟨rfl, S3'', h3, s3⟩
          have HQ6 := Lib.hid (HQ5.out.three h3 s3)
          obtain ⟨_, hp6, _⟩ := call_cells HQ6.out.cl
          clear h3 s3 HQ5
          go_wp2_with fail
          refine (drop_any g2 S2' _ p _ HQ6.out.tri.t2).mono ?_
          rintro e' v7 ⟨rfl, S2'', h3, s3⟩
          have HQ7 := Lib.hid (HQ6.out.two h3 s3)
          clear h3 s3 HQ6
          go_wp2
          go_roundw
          case rel => exact ⟨k + 1, by omega, by go_num, _, _, _, _, _, HQ7.out.tri⟩
          case measure => simp [intOf]; omega
        · have hKb : (K == 2) = false := by simpa using hK
          go_wp2
          go_roundw
          case rel => exact ⟨k + 1, by omega, by go_num, _, _, _, _, _, HQ4.out.tri⟩
          case measure => simp [intOf]; omega
      · have hq := lt_of_heap HQ1.out.cl
        go_wp2_with fail
        refine (put_any g2 S2 xs p x _ HQ1.out.tri.t2 HP.out HX.out).mono ?_
        rintro e' v4 ⟨rfl, S2', h3, s3⟩
        have HQ4 := Lib.hid (HQ1.out.two h3 s3)
        obtain ⟨hk4, hp4, hx4⟩ := call_cells HQ4.out.cl
        have hq4 := lt_of_heap HQ4.out.cl
        clear h3 s3 HQ1
        by_cases hK : K = 2
        · subst hK
          go_wp2_with fail
          refine (drop_any g1 S1' _ p _ HQ4.out.tri.t1).mono ?_
          rintro e' v5 ⟨rfl, S1'', h3, s3⟩
          have HQ5 := Lib.hid (HQ4.out.one h3 s3)
          obtain ⟨_, hp5, _⟩ := call_cells HQ5.out.cl
          clear h3 s3 HQ4
          go_wp2_with fail
          refine (clear_any g3 _ _ _ HQ5.out.tri.t3).mono ?_
          rintro e' v6 ⟨rfl, S3'', h3, s3⟩
          have HQ6 := Lib.hid (HQ5.out.three h3 s3)
          obtain ⟨_, hp6, _⟩ := call_cells HQ6.out.cl
          clear h3 s3 HQ5
          go_wp2_with fail
          refine (drop_any g2 S2' _ p _ HQ6.out.tri.t2).mono ?_
          rintro e' v7 ⟨rfl, S2'', h3, s3⟩
          have HQ7 := Lib.hid (HQ6.out.two h3 s3)
          clear h3 s3 HQ6
          go_wp2
          go_roundw
          case rel => exact ⟨k + 1, by omega, by go_num, _, _, _, _, _, HQ7.out.tri⟩
          case measure => simp [intOf]; omega
        · have hKb : (K == 2) = false := by simpa using hK
          go_wp2
          go_roundw
          case rel => exact ⟨k + 1, by omega, by go_num, _, _, _, _, _, HQ4.out.tri⟩
          case measure => simp [intOf]; omega
    · obtain ⟨m, hm⟩ : ∃ m, xs.length = m := ⟨_, rfl⟩
      have HM := Lib.hid hm
      have hm8 : m ≤ 8 := by rw [← hm]; exact HL.out.t1.fit.2.1
      clear hm
      go_wp2_with fail
      refine (pages_any g1 S1 xs m _ HL.out.t1 HM.out).mono ?_
      rintro e' w7 ⟨b7, cap7, rfl, hb7, hr7, hbe7⟩
      have HT := Lib.hid (HL.out.below hbe7)
      have HR7 := Lib.hid hr7
      clear hr7 hbe7 HL
      obtain ⟨A7, c7, hsh, HC, _, _⟩ := HR7.out.open_
      injection hsh with e1 e2 e3
      subst e1 e3
      rw [pages_length, HM.out] at HC
      clear e2
      go_wp2
      go_loopw [85] (fun i wr => ∃ k : Nat, k ≤ m ∧ i = .int .i64 k ∧ Below w7.heap.size w7 wr) (fun i _ => m - (intOf i).toNat)
      case atStart => exact ⟨0, Nat.zero_le _, rfl, Below.refl _ _⟩
      case round =>
        obtain ⟨k3, hk3, rfl, hb⟩ := hrel
        have HB := Lib.hid hb
        clear hb
        by_cases hlt3 : k3 < m
        · obtain ⟨r, hr, hrl, hq⟩ := HC.out k3 hlt3
          injection hr with hr
          injection hr with hr
          subst hr
          have hq' := (HB.out.cell (p := ⟨b7, k3, none⟩) hrl).trans hq
          have HT8 := Lib.hid (HT.out.below HB.out)
          have hin : pos xs ((pages xs).getD k3 0) < xs.length := hav_mem.2 (by
            rw [List.getD, List.getElem?_eq_getElem (by rw [pages_length, HM.out]; exact hlt3)]
            exact List.getElem_mem _)
          have HG1 : Hid (hav xs ((pages xs).getD k3 0) = true) := decide_eq_true hin
          clear hin hq
          generalize (pages xs).getD k3 0 = q at hq' HG1
          obtain ⟨y, hy⟩ : ∃ y, ent xs q = y := ⟨_, rfl⟩
          have HY := Lib.hid hy
          clear hy
          go_wp2_with fail
          refine (get_as g1 S1 xs q y true _ HT8.out.t1 HY.out HG1.out).mono ?_
          rintro e' w8 ⟨rfl, hb8⟩
          have HT9 := Lib.hid (HT8.out.below hb8)
          have HB9 := Lib.hid (bel_trans HB.out hb8 HB.out.size)
          clear hb8 HT8
          go_wp2_with fail
          refine (get_as g2 S2 xs q y true _ HT9.out.t2 HY.out HG1.out).mono ?_
          rintro e' w9 ⟨rfl, hb9⟩
          have HB10 := Lib.hid (bel_trans HB9.out hb9 HB9.out.size)
          clear hb9 HT9
          go_wp2
          go_roundw
          case rel => exact ⟨k3 + 1, by omega, by go_num, HB10.out⟩
          case measure => simp [intOf]; omega
        · have HK := Lib.hid (HT.out.below HB.out)
          go_wp2_with fail
          refine (pages_any g1 S1 xs m _ HK.out.t1 HM.out).mono ?_
          rintro e' v1 ⟨b1, cap1, rfl, hb1, hr1, hbe1⟩
          have HK1 := Lib.hid (HK.out.below hbe1)
          have HR1 := Lib.hid hr1
          clear hr1 hbe1
          go_wp2_with fail
          refine (pages_any g2 S2 xs m _ HK1.out.t2 HM.out).mono ?_
          rintro e' v2 ⟨b2, cap2, rfl, hb2, hr2, hbe2⟩
          have HK2 := Lib.hid (HK1.out.below hbe2)
          have HR2 := Lib.hid hr2
          have HR1' := Lib.hid (own_below HR1.out hbe2)
          clear hr2 hbe2
          go_wp2_with fail
          refine (same_yes _ _ m _ _ (pages xs) _ (by rw [pages_length, HM.out]) HR1'.out HR2.out).mono ?_
          rintro e' v3 ⟨rfl, hb3⟩
          have HB3 := Lib.hid (HK2.out.below hb3).bel
          clear hb3
          go_wp2
          go_ret
          exact ⟨rfl, HB3.out⟩

theorem apart_walk (A : Option Addr) (n c : Nat) (A2 : Option Addr) (n2 c2 : Nat) (w : World) (h : Src3 w A n) (h2 : Src3 w A2 n2) :
    Calls Try.prog 7 #[.slice A n c, .slice A2 n2 c2] w fun e w' => e = .returned (.bool true) ∧ Below w.heap.size w w' := by
  by_cases hn : 60 < n ∨ 60 < n2
  · exact apart_long A A2 n c n2 c2 w hn
  · exact apart_short A A2 n c n2 c2 w h h2 (by omega) (by omega)

end Go.Proofs.Ytcbplnodooaeiaa.Cs
