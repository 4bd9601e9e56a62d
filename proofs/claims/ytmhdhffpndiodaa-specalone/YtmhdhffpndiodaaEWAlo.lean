/- The walk of SpecAlone. -/
import Derived.Test.YtmhdhffpndiodaaEWIdx
import Derived.Deep.LoopGhost
namespace Go.Proofs.Ytmhdhffpndiodaa.Cs
open Go.RowKit
set_option linter.unusedVariables false

theorem Bk.notBl {W : World} {g : Nat} {cs : List Value} {v : Value} {ys : List Int} (h : Bk W g 28 cs) (r : R8 W v ys) : ¬ Bl v g := by
  intro hb
  obtain ⟨_, h2 | ⟨q, cap, cur, rfl, _, hq, _⟩⟩ := r
  · rw [h2.1] at hb; simp [Bl, Value.ownBlock] at hb
  · have e : q = g := by simpa [Bl, Value.ownBlock] using hb
    subst e
    have := h.symm.trans hq
    injection this with this
    injection this with _ ht
    exact absurd ht (by decide)

theorem L2.put3 {w W : World} {p : Nat} {a z : Int} {g h q : Nat} {s t : Sp} (l : L2 w p a z g s h t W) {b0 b1 b2 b3 b4 : Value} (hb : Bk W q 28 [b0, b1, b2, b3, b4]) (hq : h < q) {k r i x n : Value} :
    L2 w p a z g s h t (((((W.setCell ⟨q, 0, none⟩ k).setCell ⟨q, 1, none⟩ r).setCell ⟨q, 2, none⟩ i).setCell ⟨q, 3, none⟩ x).setCell ⟨q, 4, none⟩ n) ∧
      Bk (((((W.setCell ⟨q, 0, none⟩ k).setCell ⟨q, 1, none⟩ r).setCell ⟨q, 2, none⟩ i).setCell ⟨q, 3, none⟩ x).setCell ⟨q, 4, none⟩ n) q 28 [k, r, i, x, n] := by
  have h1 := l.lt
  have h2 := l.one.lt
  have h3 := l.one.le
  exact ⟨⟨⟨((((l.one.opr.far (by omega) 0 _).far (by omega) 1 _).far (by omega) 2 _).far (by omega) 3 _).far (by omega) 4 _, ((((l.one.var.far (by omega) 0 _).far (by omega) 1 _).far (by omega) 2 _).far (by omega) 3 _).far (by omega) 4 _, by
    iterate 5 refine Below.setCell ?_ (by simp; omega) _
    exact l.one.bel, h3, h2⟩, ((((l.var.far (by omega) 0 _).far (by omega) 1 _).far (by omega) 2 _).far (by omega) 3 _).far (by omega) 4 _, h1⟩, ((((hb.set 0 _).set 1 _).set 2 _).set 3 _).set 4 _⟩

set_option maxHeartbeats 800000 in
theorem alone_skip (A B : Option Addr) (n c n2 c2 : Nat) (a z : Int) (w : World) (h : 256 < n ∨ (n ≤ 256 ∧ 256 < n2)) :
    Calls Try.prog 5 #[.slice A n c, opv a z, .slice B n2 c2] w fun e w' => e = .returned (.bool true) ∧ Below w.heap.size w w' := by
  rcases h with h | ⟨h, h2⟩
  · have h' : (256 : Int) < (n : Int) := by omega
    clear h
    go_enter Try.func5, Try.ntmps5
    go_wp2_with fail
    refine (alive _).mono ?_
    rintro e w1 ⟨rfl, hb1⟩
    have HB := Lib.hid (bel2 (a := w) (al1 _ _) hb1)
    clear hb1
    go_wp2
    go_ret
    exact ⟨rfl, HB.out⟩
  · have h' : ¬ (256 : Int) < (n : Int) := by omega
    have h2' : (256 : Int) < (n2 : Int) := by omega
    clear h h2
    go_enter Try.func5, Try.ntmps5
    go_wp2_with fail
    refine (alive _).mono ?_
    rintro e w1 ⟨rfl, hb1⟩
    have HB := Lib.hid (bel2 (a := w) (al1 _ _) hb1)
    clear hb1
    go_wp2
    go_ret
    exact ⟨rfl, HB.out⟩

set_option maxHeartbeats 800000 in
theorem alone_err (A B : Option Addr) (n c n2 c2 : Nat) (ys : List Int) (a z : Int) (w : World) (hy : By w A n c ys) (ha : 0 ≤ a ∧ a < 256) (hn : n ≤ 256) (hn2 : n2 ≤ 256) (hd : (dec ys a z).2 ≠ 0) :
    Calls Try.prog 5 #[.slice A n c, opv a z, .slice B n2 c2] w fun e w' => e = .returned (.bool true) ∧ Below w.heap.size w w' := by
  have h' : ¬ (256 : Int) < (n : Int) := by omega
  have h2' : ¬ (256 : Int) < (n2 : Int) := by omega
  have K1 : Hid (∀ W, Below w.heap.size w W → Calls Try.prog 9 #[.slice A n c, opv a z] W fun e w' => e = .returned (.tuple #[(dec ys a z).1.val, .int .i64 (dec ys a z).2]) ∧ Below W.heap.size W w') :=
    Lib.hid fun W hW => decode_any A n c ys a z W (hy.below hW (Nat.le_refl _)) (by omega) ha
  generalize dec ys a z = d at *
  obtain ⟨⟨d1, d2, d3, d4, d5⟩, d6⟩ := d
  have g6 : (d6 != 0) = true := by simpa using hd
  have HO := Lib.hid (Bk.new w 24 [.int .u8 a, .int .i64 z])
  clear hy ha hd
  go_enter Try.func5, Try.ntmps5
  go_wp2_with fail
  refine (alive _).mono ?_
  rintro e w1 ⟨rfl, hb1⟩
  have hO := HO.out.below hb1 (Nat.le_refl _)
  have o0 := hO.cell 0 _ rfl
  have o1 := hO.cell 1 _ rfl
  have HB := Lib.hid (bel2 (a := w) (al1 _ _) hb1)
  clear hO hb1
  go_wp2_with fail
  refine (K1.out _ HB.out).mono ?_
  rintro e w2 ⟨rfl, hb2⟩
  have HB2 := Lib.hid (bel2 HB.out hb2)
  clear hb2 o0 o1
  go_wp2
  go_ret
  exact ⟨rfl, bel2 HB2.out (al1 _ _)⟩

set_option maxRecDepth 100000 in
set_option maxHeartbeats 6400000 in
theorem alone_in (A B : Option Addr) (n c n2 c2 m : Nat) (ys os : List Int) (a z d1 d2 d3 d4 : Int) (w : World) (hy : By w A n c ys) (ho : By w B n2 c2 os) (ha : 0 ≤ a ∧ a < 256) (hn : n ≤ 256) (hn2 : n2 ≤ 256)
    (hd : dec ys a z = (⟨d1, d2, d3, d4, m⟩, 0)) (hm1 : 1 ≤ m) (hmn : m ≤ n) (hm6 : m ≤ 6) (hdt : dec (ys.take m) a z = (⟨d1, d2, d3, d4, m⟩, 0)) (hds : ∀ j, j < m → dec (ys.take j) a z = (zs, 3)) :
    Calls Try.prog 5 #[.slice A n c, opv a z, .slice B n2 c2] w fun e w' => e = .returned (.bool true) ∧ Below w.heap.size w w' := by
  have h' : ¬ (256 : Int) < (n : Int) := by omega
  have h2' : ¬ (256 : Int) < (n2 : Int) := by omega
  obtain ⟨ad, rfl⟩ := hy.some_ (by omega)
  have K1 : Hid (∀ W, Below w.heap.size w W → Calls Try.prog 9 #[.slice (some ad) n c, opv a z] W fun e w' => e = .returned (.tuple #[(Sp.mk d1 d2 d3 d4 m).val, .int .i64 0]) ∧ Below W.heap.size W w') :=
    Lib.hid fun W hW => by
      have := decode_any (some ad) n c ys a z W (hy.below hW (Nat.le_refl _)) (by omega) ha
      rw [hd] at this
      exact this
  have hda := dec_app (ys := os) hdt
  have K2 : Hid (∀ W A' n' c', By W A' n' c' (ys.take m ++ os) → Calls Try.prog 9 #[.slice A' n' c', opv a z] W fun e w' => e = .returned (.tuple #[(Sp.mk d1 d2 d3 d4 m).val, .int .i64 0]) ∧ Below W.heap.size W w') :=
    Lib.hid fun W A' n' c' h => by
      have hl := h.len
      rw [List.length_append, List.length_take, hy.len, ho.len] at hl
      have := decode_any A' n' c' _ a z W h (by omega) ha
      rw [hda] at this
      exact this
  have K3 : Hid (∀ W k, k < m → Below w.heap.size w W → Calls Try.prog 9 #[.slice (some ad) k c, opv a z] W fun e w' => e = .returned (.tuple #[zs.val, .int .i64 3]) ∧ Below W.heap.size W w') :=
    Lib.hid fun W k hk hW => by
      have := decode_any (some ad) k c (ys.take k) a z W ((hy.below hW (Nat.le_refl _)).take (by omega)) (by omega) ha
      rw [hds k hk] at this
      exact this
  have HYW : Hid (∀ W, Below w.heap.size w W → By W (some ad) m c (ys.take m)) := Lib.hid fun W hW => (hy.below hW (Nat.le_refl _)).take hmn
  have HOW : Hid (∀ W, Below w.heap.size w W → By W B n2 c2 os) := Lib.hid fun W hW => ho.below hW (Nat.le_refl _)
  have HBy : Hid (Byt (ys.take m ++ os)) := Lib.hid ((hy.byt.take m).app ho.byt)
  have hpl : (ys.take m).length = m := by rw [List.length_take, hy.len]; omega
  have hk1 : ([] : List Int).length + m = m := by simp
  have hk2 : (ys.take m).length + n2 = m + n2 := by rw [hpl]
  have hkk : (ys.take m ++ os).length = m + n2 := by rw [List.length_append, hpl, ho.len]
  have hle1 : m ≤ 1000000000 := by omega
  have hle2 : m + n2 ≤ 1000000000 := by omega
  have hRhi := run_hi ad n c m (by have := hy.cap; omega)
  have HRk : Hid (∀ k, k < m → ∀ W, _) := Lib.hid fun k (hk : k < m) W => run_hi ad n c k (by have := hy.cap; omega) W
  generalize ys.take m = ps at *
  have Hpl := Lib.hid hpl
  have HK1 := Lib.hid hk1
  have HK2 := Lib.hid hk2
  have HKK := Lib.hid hkk
  have b1 : ¬ (m : Int) < 1 := by omega
  have b2 : ¬ (n : Int) < (m : Int) := by omega
  have b3 : ¬ 6 < (m : Int) := by omega
  have b4 : decide (n < m) = false := by simp; omega
  have HO := Lib.hid (Bk.new w 24 [.int .u8 a, .int .i64 z])
  clear hy ho ha hd hdt hds hda hpl hk2 hkk hk1
  go_enter Try.func5, Try.ntmps5
  go_wp2_with fail
  refine (alive _).mono ?_
  rintro e w1 ⟨rfl, hb1⟩
  have hO := HO.out.below hb1 (Nat.le_refl _)
  have o0 := hO.cell 0 _ rfl
  have o1 := hO.cell 1 _ rfl
  have HO1 := Lib.hid hO
  have HB := Lib.hid (bel2 (a := w) (al1 _ _) hb1)
  clear hO hb1
  go_wp2_with fail
  refine (K1.out _ HB.out).mono ?_
  rintro e w2 ⟨rfl, hb2⟩
  have HL := Lib.hid (L1.new (HO1.out.below hb2 (Nat.le_refl _)) (bel2 HB.out hb2) (Nat.le_refl _) d1 d2 d3 d4 m)
  clear o0 o1 hb2 HO1 HB HO
  go_upto_region 10 with fail
  generalize w2.alloc (.cells #[.int .i64 d1, .int .i64 d2, .int .i64 d3, .int .u32 d4, .int .i64 m] 28) = V at *
  generalize w2.heap.size = g at *
  go_cut [9, 10] from 47 to 59 (Id2 w a z ⟨d1, d2, d3, d4, m⟩ ⟨d1, d2, d3, d4, m⟩ 0 g)
  case first =>
    have HYV : Hid (∀ W, Below V.heap.size V W → By W (some ad) m c ps) := Lib.hid fun W hW => HYW.out W (bel2 HL.out.bel hW)
    have HOV : Hid (∀ W, Below V.heap.size V W → By W B n2 c2 os) := Lib.hid fun W hW => HOW.out W (bel2 HL.out.bel hW)
    have o0 : V.cell? ⟨w.heap.size, 0, none⟩ = some (.int .u8 a) := HL.out.o0
    have o0d : V.drew.cell? ⟨w.heap.size, 0, none⟩ = some (.int .u8 a) := o0
    have o1 : V.cell? ⟨w.heap.size, 1, none⟩ = some (.int .i64 z) := HL.out.o1
    have o1d : V.drew.cell? ⟨w.heap.size, 1, none⟩ = some (.int .i64 z) := o1
    have o4 : V.cell? ⟨g, 4, none⟩ = some (.int .i64 m) := HL.out.v4
    have o4d : V.drew.cell? ⟨g, 4, none⟩ = some (.int .i64 m) := o4
    have hgl := HL.out.glt
    have hlt := HL.out.lt
    have HM1 : Hid (∀ W, Below (V.alloc (.cells #[] 5)).heap.size (V.alloc (.cells #[] 5)) W → Mk V.heap.size V (.slice (some ⟨V.heap.size, 0, none⟩) 0 0) [] W) := Lib.hid fun W hW => (Mk.lit V (Below.refl _ _) (Nat.le_refl _) [] (n := 0) rfl (by decide)).below hW
    have HM2 : Hid (∀ W, Below ((V.alloc (.cells #[.int .i64 0, .int .i64 0, .int .i64 0, .int .u32 0, .int .i64 0] 28)).alloc (.cells #[] 5)).heap.size ((V.alloc (.cells #[.int .i64 0, .int .i64 0, .int .i64 0, .int .u32 0, .int .i64 0] 28)).alloc (.cells #[] 5)) W → Mk V.heap.size V (.slice (some ⟨V.heap.size + 1, 0, none⟩) 0 0) [] W) := Lib.hid fun W hW => by
      have := (Mk.lit (W := V.alloc (.cells #[.int .i64 0, .int .i64 0, .int .i64 0, .int .u32 0, .int .i64 0] 28)) V (al1 _ _) (by simp) [] (n := 0) rfl (by decide)).below hW
      simpa using this
    have HVa : Hid (Bk ((V.alloc (.cells #[.int .i64 0, .int .i64 0, .int .i64 0, .int .u32 0, .int .i64 0] 28)).alloc (.cells #[] 5)).drew V.heap.size 28 [.int .i64 0, .int .i64 0, .int .i64 0, .int .u32 0, .int .i64 0]) := (Bk.new V _ [.int .i64 0, .int .i64 0, .int .i64 0, .int .u32 0, .int .i64 0]).below (Below.drew (al1 _ _)) (Nat.le_refl _)
    have HVb : Hid (Bk ((V.alloc (.cells #[] 5)).alloc (.cells #[.int .i64 0, .int .i64 0, .int .i64 0, .int .u32 0, .int .i64 0] 28)).drew (V.heap.size + 1) 28 [.int .i64 0, .int .i64 0, .int .i64 0, .int .u32 0, .int .i64 0]) := Lib.hid (by
      have := Bk.new (V.alloc (.cells #[] 5)) 28 [.int .i64 0, .int .i64 0, .int .i64 0, .int .u32 0, .int .i64 0]
      simp at this
      exact this)
    have hla : g < V.heap.size := hgl
    have hlb : g < V.heap.size + 1 := by omega
    have hnea : (⟨w.heap.size, 0, none⟩ : Addr).block ≠ V.heap.size ∧ (⟨w.heap.size, 1, none⟩ : Addr).block ≠ V.heap.size ∧ (⟨g, 4, none⟩ : Addr).block ≠ V.heap.size := by simp; omega
    have hneb : (⟨w.heap.size, 0, none⟩ : Addr).block ≠ V.heap.size + 1 ∧ (⟨w.heap.size, 1, none⟩ : Addr).block ≠ V.heap.size + 1 ∧ (⟨g, 4, none⟩ : Addr).block ≠ V.heap.size + 1 := by simp; omega
    have hna : ¬ Bl (.slice (some ⟨V.heap.size + 1, 0, none⟩) 0 0) V.heap.size := by simp [Bl, Value.ownBlock]
    have hnb : ¬ Bl (.slice (some ⟨V.heap.size, 0, none⟩) 0 0) (V.heap.size + 1) := by simp [Bl, Value.ownBlock]
    go_region_held3 (fun w' => w'.cell? ⟨w.heap.size, 0, none⟩ = some (.int .u8 a) ∧ w'.cell? ⟨w.heap.size, 1, none⟩ = some (.int .i64 z) ∧ w'.cell? ⟨g, 4, none⟩ = some (.int .i64 m))
      (first | (with_reducible exact ⟨z0, z1, z4⟩) | (with_reducible exact ⟨o0d, o1d, o4d⟩) | (with_reducible exact ⟨o0, o1, o4⟩) | (with_reducible exact ⟨far5 hne.1 z0, far5 hne.2.1 z1, far5 hne.2.2 z4⟩) | go_keep)
      (first
        | ((first
            | (refine step_app8 rfl (.tmp 48) (.tmp 52) rfl rfl V.heap.size V (.slice (some ⟨V.heap.size, 0, none⟩) 0 0) [] ps (some ad) m c m HK1.out ?_ ?_ ?_ ?_ hle1 ?_
               · simp [Act.eval]; done
               · simp [Act.eval]; done
               · refine HM1.out _ ?_; go_grown
               · refine HYV.out _ ?_; go_grown)
            | (refine step_app8 rfl (.tmp 48) (.tmp 52) rfl rfl V.heap.size V (.slice (some ⟨V.heap.size + 1, 0, none⟩) 0 0) [] ps (some ad) m c m HK1.out ?_ ?_ ?_ ?_ hle1 ?_
               · simp [Act.eval]; done
               · simp [Act.eval]; done
               · refine HM2.out _ ?_; go_grown
               · refine HYV.out _ ?_; go_grown))
           intro A3 c3 w3 hM3 hb3 hm3
           have hL3 := HL.out.below hM3.bel
           have z0 : w3.cell? ⟨w.heap.size, 0, none⟩ = some (.int .u8 a) := hL3.o0; have z1 : w3.cell? ⟨w.heap.size, 1, none⟩ = some (.int .i64 z) := hL3.o1; have z4 : w3.cell? ⟨g, 4, none⟩ = some (.int .i64 m) := hL3.v4
           have HM3 : Hid (∀ W, Below w3.heap.size w3 W → Mk V.heap.size V (.slice A3 m c3) ps W) := Lib.hid fun W hW => hM3.below hW
           have hR3 := hM3.row
           have hl3 := hL3.glt
           have hbV3 := hM3.bel
           have HVc : Hid (Bk (w3.alloc (.cells #[.int .i64 0, .int .i64 0, .int .i64 0, .int .u32 0, .int .i64 0] 28)) w3.heap.size 28 [.int .i64 0, .int .i64 0, .int .i64 0, .int .u32 0, .int .i64 0]) := Bk.new w3 _ [.int .i64 0, .int .i64 0, .int .i64 0, .int .u32 0, .int .i64 0]
           have HRc : Hid (R8 (w3.alloc (.cells #[.int .i64 0, .int .i64 0, .int .i64 0, .int .u32 0, .int .i64 0] 28)) (.slice A3 m c3) ps) := (hM3.below (al1 _ _)).row
           have hnec : (⟨w.heap.size, 0, none⟩ : Addr).block ≠ w3.heap.size ∧ (⟨w.heap.size, 1, none⟩ : Addr).block ≠ w3.heap.size ∧ (⟨g, 4, none⟩ : Addr).block ≠ w3.heap.size := by simp; omega
           (first
            | (have hv3 : Bk w3 V.heap.size 28 [.int .i64 0, .int .i64 0, .int .i64 0, .int .u32 0, .int .i64 0] := (by with_reducible exact Bk.mods HVa.out hm3 hna); have hlv := hla; have hne := hnea)
            | (have hv3 : Bk w3 (V.heap.size + 1) 28 [.int .i64 0, .int .i64 0, .int .i64 0, .int .u32 0, .int .i64 0] := (by with_reducible exact Bk.mods HVb.out hm3 hnb); have hlv := hlb; have hne := hneb)
            | skip)
           have HL3 := Lib.hid hL3
           have HBV3 := Lib.hid hbV3
           (first | (have HR3 := Lib.hid hR3; have HNB := Lib.hid (Bk.notBl hv3 hR3)) | have HR3 := Lib.hid hR3)
           clear hM3 hL3 hm3 hb3 hR3 hbV3)
        | ((refine step_app8 rfl (.tmp 53) (.tmp 54) rfl rfl V.heap.size V (.slice A3 m c3) ps os B n2 c2 (m + n2) HK2.out ?_ ?_ ?_ ?_ hle2 ?_
            · simp [Act.eval]; done
            · simp [Act.eval]; done
            · refine HM3.out _ ?_; go_grown
            · refine HOV.out _ (bel2 HBV3.out ?_); go_grown)
           intro A4 c4 w4 hM4 hb4 hm4
           have hL4 := HL.out.below hM4.bel
           have z0 : w4.cell? ⟨w.heap.size, 0, none⟩ = some (.int .u8 a) := hL4.o0; have z1 : w4.cell? ⟨w.heap.size, 1, none⟩ = some (.int .i64 z) := hL4.o1; have z4 : w4.cell? ⟨g, 4, none⟩ = some (.int .i64 m) := hL4.v4
           have HB4 : Hid (∀ W, Below w4.heap.size w4 W → By W A4 (m + n2) c4 (ps ++ os)) := Lib.hid fun W hW => (hM4.below hW).by HKK.out HBy.out
           have hl4 := hL4.glt
           have HVd : Hid (Bk (w4.alloc (.cells #[.int .i64 0, .int .i64 0, .int .i64 0, .int .u32 0, .int .i64 0] 28)) w4.heap.size 28 [.int .i64 0, .int .i64 0, .int .i64 0, .int .u32 0, .int .i64 0]) := Bk.new w4 _ [.int .i64 0, .int .i64 0, .int .i64 0, .int .u32 0, .int .i64 0]
           have hned : (⟨w.heap.size, 0, none⟩ : Addr).block ≠ w4.heap.size ∧ (⟨w.heap.size, 1, none⟩ : Addr).block ≠ w4.heap.size ∧ (⟨g, 4, none⟩ : Addr).block ≠ w4.heap.size := by simp; omega
           (first
            | (have hv4 := (by with_reducible exact Bk.mods hv3 hm4 HNB.out))
            | (have hv4 : Bk w4 w3.heap.size 28 [.int .i64 0, .int .i64 0, .int .i64 0, .int .u32 0, .int .i64 0] := (by with_reducible exact Bk.mods HVc.out hm4 (Bk.notBl HVc.out HRc.out)); have hlv := hl3; have hne := hnec)
            | skip)
           have HL4 := Lib.hid hL4
           clear hM4 hL4 hm4 hb4)
        | (go_at_call 9
           refine (K2.out _ _ _ _ (HB4.out _ (by go_grown))).mono ?_
           rintro e w5 ⟨rfl, hb5⟩
           have hL5 := HL4.out.below (bel2 (by go_grown) hb5)
           have z0 : w5.cell? ⟨w.heap.size, 0, none⟩ = some (.int .u8 a) := hL5.o0; have z1 : w5.cell? ⟨w.heap.size, 1, none⟩ = some (.int .i64 z) := hL5.o1; have z4 : w5.cell? ⟨g, 4, none⟩ = some (.int .i64 m) := hL5.v4
           (first
            | (have hv5 := (by with_reducible exact Bk.below hv4 hb5 (Nat.le_refl _)))
            | (have hv5 : Bk w5 w4.heap.size 28 [.int .i64 0, .int .i64 0, .int .i64 0, .int .u32 0, .int .i64 0] := (by with_reducible exact Bk.below HVd.out hb5 (Nat.le_refl _)); have hlv := hl4; have hne := hned)
            | skip)
           (first
            | (have v0 := hv5.cell 0 _ rfl; have v1 := hv5.cell 1 _ rfl; have v2 := hv5.cell 2 _ rfl; have v3 := hv5.cell 3 _ rfl; have v4 := hv5.cell 4 _ rfl; have vf := hv5.free; have hvl := hv5.lt)
            | skip)))
    all_goals go_wp2_with fail
    all_goals go_meet
    all_goals first
      | exact ⟨_, rfl, rfl, L2.put hL5 hv5 hlv _ _ _ _ _⟩
      | exact ⟨_, rfl, rfl, L2.new hL5 _ _ _ _ _⟩
  case rest =>
    obtain ⟨h, rfl, rfl, hL⟩ := hcut
    have v0 := hL.one.v0
    have v1 := hL.one.v1
    have v2 := hL.one.v2
    have v3 := hL.one.v3
    have v4 := hL.one.v4
    have t0 := hL.t0
    have t1 := hL.t1
    have t2 := hL.t2
    have t3 := hL.t3
    have t4 := hL.t4
    have HL2 := Lib.hid hL
    clear hL HL K1 K2 HYW HOW HBy HK1 HK2 HKK Hpl
    go_wp2
    clear v0 v1 v2 v3 v4 t0 t1 t2 t3 t4
    go_loopg [11] m (fun gg i W => ∃ k : Nat, k ≤ m ∧ gg = m - k ∧ i = .int .i64 k ∧ L2 w w.heap.size a z g ⟨d1, d2, d3, d4, m⟩ h ⟨d1, d2, d3, d4, m⟩ W)
    case atStart => exact ⟨0, Nat.zero_le _, rfl, rfl, HL2.out⟩
    case round =>
      clear HL2
      obtain ⟨k, hk, hgk, rfl, hL⟩ := hrel
      have HGK := Lib.hid hgk
      have v4 : wr.cell? ⟨g, 4, none⟩ = some (.int .i64 m) := hL.one.v4
      have HL := Lib.hid hL
      clear hL hgk
      by_cases hlt : k < m
      · have hRk := HRk.out k hlt
        have K3k : Hid (∀ W, Below w.heap.size w W → Calls Try.prog 9 #[.slice (some ad) k c, opv a z] W fun e w' => e = .returned (.tuple #[zs.val, .int .i64 3]) ∧ Below W.heap.size W w') := Lib.hid fun W hW => K3.out W k hlt hW
        go_upto_region 16 with fail
        go_cut [12, 13] from 67 to 87 (fun s e W => ∃ q, s = .pointer (some ⟨q, 0, none⟩) ∧ e = .int .i64 3 ∧ L2 w w.heap.size a z g ⟨d1, d2, d3, d4, m⟩ h ⟨d1, d2, d3, d4, m⟩ W ∧ Bk W q 28 zs.cells)
        case first =>
          have o0 : wr.cell? ⟨w.heap.size, 0, none⟩ = some (.int .u8 a) := HL.out.one.o0
          have o1 : wr.cell? ⟨w.heap.size, 1, none⟩ = some (.int .i64 z) := HL.out.one.o1
          have o0d : wr.drew.cell? ⟨w.heap.size, 0, none⟩ = some (.int .u8 a) := o0
          have o1d : wr.drew.cell? ⟨w.heap.size, 1, none⟩ = some (.int .i64 z) := o1
          have hgl := HL.out.tlt
          have hgh := HL.out.lt
          have hpg := HL.out.one.lt
          have HV : Hid (Bk (wr.alloc (.cells #[.int .i64 0, .int .i64 0, .int .i64 0, .int .u32 0, .int .i64 0] 28)).drew wr.heap.size 28 [.int .i64 0, .int .i64 0, .int .i64 0, .int .u32 0, .int .i64 0]) := Bk.new wr _ [.int .i64 0, .int .i64 0, .int .i64 0, .int .u32 0, .int .i64 0]
          have hn0 : (⟨w.heap.size, 0, none⟩ : Addr).block ≠ wr.heap.size := by simp; omega
          have hn1 : (⟨w.heap.size, 1, none⟩ : Addr).block ≠ wr.heap.size := by simp; omega
          go_region_held3 (fun w' => w'.cell? ⟨w.heap.size, 0, none⟩ = some (.int .u8 a) ∧ w'.cell? ⟨w.heap.size, 1, none⟩ = some (.int .i64 z))
            (first | (with_reducible exact ⟨z0, z1⟩) | (with_reducible exact ⟨far5 hn0 z0, far5 hn1 z1⟩) | (with_reducible exact ⟨o0d, o1d⟩) | (with_reducible exact ⟨o0, o1⟩) | go_keep)
            ((go_at_call 9
              refine (K3k.out _ (bel2 HL.out.one.bel (by go_grown))).mono ?_
              rintro e w3 ⟨rfl, hb3⟩
              have hL3 := HL.out.below (bel2 (by go_grown) hb3)
              have z0 : w3.cell? ⟨w.heap.size, 0, none⟩ = some (.int .u8 a) := hL3.one.o0
              have z1 : w3.cell? ⟨w.heap.size, 1, none⟩ = some (.int .i64 z) := hL3.one.o1
              (first
                | (have hv3 : Bk w3 wr.heap.size 28 [.int .i64 0, .int .i64 0, .int .i64 0, .int .u32 0, .int .i64 0] := (by with_reducible exact Bk.below HV.out hb3 (Nat.le_refl _)); have v0 := hv3.cell 0 _ rfl; have v1 := hv3.cell 1 _ rfl; have v2 := hv3.cell 2 _ rfl; have v3 := hv3.cell 3 _ rfl; have v4 := hv3.cell 4 _ rfl; have vf := hv3.free; have hvl := hv3.lt)
                | skip)))
          all_goals go_wp2_with fail
          all_goals go_meet
          all_goals first
            | exact ⟨_, rfl, rfl, (L2.put3 hL3 hv3 hgl).1, (L2.put3 hL3 hv3 hgl).2⟩
            | exact ⟨_, rfl, rfl, hL3.below (al1 _ _), Bk.new w3 _ zs.cells⟩
        case rest =>
          obtain ⟨q, rfl, rfl, hL4, hq⟩ := hcut
          have q0 : wc.cell? ⟨q, 0, none⟩ = some (.int .i64 0) := hq.cell 0 _ rfl
          have q1 : wc.cell? ⟨q, 1, none⟩ = some (.int .i64 0) := hq.cell 1 _ rfl
          have q2 : wc.cell? ⟨q, 2, none⟩ = some (.int .i64 0) := hq.cell 2 _ rfl
          have q3 : wc.cell? ⟨q, 3, none⟩ = some (.int .u32 0) := hq.cell 3 _ rfl
          have q4 : wc.cell? ⟨q, 4, none⟩ = some (.int .i64 0) := hq.cell 4 _ rfl
          have HL4 := Lib.hid hL4
          clear hL4 hq HL v4
          go_wp2
          go_roundg (m - (k + 1))
          case measure => have := HGK.out; omega
          case rel => exact ⟨k + 1, by omega, rfl, by go_num, HL4.out⟩
      · obtain rfl : k = m := by omega
        have HB := Lib.hid HL.out.one.bel
        go_wp2
        go_ret
        exact ⟨rfl, HB.out⟩

theorem alone_walk (A : Option Addr) (n c : Nat) (o : Oa) (B : Option Addr) (n2 c2 : Nat) (w : World) (h : ∃ ys, By w A n c ys) (ho : o.Ok) (h2 : ∃ ys, By w B n2 c2 ys) :
    Calls Try.prog 5 #[.slice A n c, .agg #[.int .u8 o.a, .int .i64 o.z], .slice B n2 c2] w fun e w' => e = .returned (.bool true) ∧ Below w.heap.size w w' := by
  obtain ⟨ys, hy⟩ := h
  obtain ⟨os, hos⟩ := h2
  have ha : 0 ≤ o.a ∧ o.a < 256 := ⟨ho.a0, ho.a1⟩
  by_cases hn : 256 < n
  · exact alone_skip A B n c n2 c2 _ _ w (.inl hn)
  · by_cases hn2 : 256 < n2
    · exact alone_skip A B n c n2 c2 _ _ w (.inr ⟨by omega, hn2⟩)
    · by_cases hd : (dec ys o.a o.z).2 = 0
      · obtain ⟨s, hs⟩ : ∃ s, dec ys o.a o.z = (s, 0) := ⟨(dec ys o.a o.z).1, Prod.ext rfl hd⟩
        obtain ⟨m, e1, e2, e3, e4, e5, e6⟩ := dec_take hs
        obtain ⟨d1, d2, d3, d4, d5⟩ := s
        simp only at e1
        subst e1
        rw [hy.len] at e3
        exact alone_in A B n c n2 c2 m ys os o.a o.z d1 d2 d3 d4 w hy hos ha (by omega) (by omega) hs e2 e3 e4 e5 e6
      · exact alone_err A B n c n2 c2 ys _ _ w hy ha (by omega) (by omega) hd

end Go.Proofs.Ytmhdhffpndiodaa.Cs
