/- The walk of SpecIndexed. -/
import Derived.Test.YtmhdhffpndiodaaELaw
namespace Go.Proofs.Ytmhdhffpndiodaa.Cs
open Go.RowKit
set_option linter.unusedVariables false

theorem dec_ix {y a z x : Int} {u : List Int} (hg : gd a z = true) (h98 : a ≠ 98) (hx0 : 0 ≤ x) (hx : x ≤ 14) : dec ((64 + x) :: y :: u) a z = fin y u a z x 2 := by
  have e : (64 + x) % 16 = x := by omega
  have := dec_1 (u := u) (y := y) (x := 64 + x) hg h98 (by omega) (by omega)
  rw [e] at this
  exact this

set_option maxHeartbeats 800000 in
theorem indexed_skip (A : Option Addr) (n c : Nat) (a z x : Int) (w : World) (h : 256 < n ∨ (n ≤ 256 ∧ n = 0) ∨ (n ≤ 256 ∧ 0 < n ∧ x < 0) ∨ (n ≤ 256 ∧ 0 < n ∧ 0 ≤ x ∧ 14 < x) ∨ (n ≤ 256 ∧ 0 < n ∧ 0 ≤ x ∧ x ≤ 14 ∧ a = 98)) :
    Calls Try.prog 6 #[.slice A n c, opv a z, .int .i64 x] w fun e w' => e = .returned (.bool true) ∧ Below w.heap.size w w' := by
  have HO := Lib.hid (Bk.new w 24 [.int .u8 a, .int .i64 z])
  rcases h with h | ⟨h, rfl⟩ | ⟨h, h0, hx⟩ | ⟨h, h0, hx, hx2⟩ | ⟨h, h0, hx, hx2, rfl⟩
  · have h' : (256 : Int) < (n : Int) := by omega
    clear h
    go_enter Try.func6, Try.ntmps6
    go_wp2_with fail
    refine (alive _).mono ?_
    rintro e w1 ⟨rfl, hb1⟩
    have HB := Lib.hid (bel2 (a := w) (al1 _ _) hb1)
    clear hb1
    go_wp2
    go_ret
    exact ⟨rfl, HB.out⟩
  · clear h
    go_enter Try.func6, Try.ntmps6
    go_wp2_with fail
    refine (alive _).mono ?_
    rintro e w1 ⟨rfl, hb1⟩
    have HB := Lib.hid (bel2 (a := w) (al1 _ _) hb1)
    clear hb1
    go_wp2
    go_ret
    exact ⟨rfl, HB.out⟩
  · have h' : ¬ (256 : Int) < (n : Int) := by omega
    have hl0 : ((n : Int) == 0) = false := by have : (n : Int) ≠ 0 := by omega
                                              simpa using this
    clear h h0
    go_enter Try.func6, Try.ntmps6
    go_wp2_with fail
    refine (alive _).mono ?_
    rintro e w1 ⟨rfl, hb1⟩
    have HB := Lib.hid (bel2 (a := w) (al1 _ _) hb1)
    clear hb1
    go_wp2
    go_ret
    exact ⟨rfl, HB.out⟩
  · have h' : ¬ (256 : Int) < (n : Int) := by omega
    have hl0 : ((n : Int) == 0) = false := by have : (n : Int) ≠ 0 := by omega
                                              simpa using this
    have hx' : ¬ x < 0 := by omega
    clear h h0
    go_enter Try.func6, Try.ntmps6
    go_wp2_with fail
    refine (alive _).mono ?_
    rintro e w1 ⟨rfl, hb1⟩
    have HB := Lib.hid (bel2 (a := w) (al1 _ _) hb1)
    clear hb1
    go_wp2
    go_ret
    exact ⟨rfl, HB.out⟩
  · have h' : ¬ (256 : Int) < (n : Int) := by omega
    have hl0 : ((n : Int) == 0) = false := by have : (n : Int) ≠ 0 := by omega
                                              simpa using this
    have hx' : ¬ x < 0 := by omega
    have hx2' : ¬ 14 < x := by omega
    clear h h0
    go_enter Try.func6, Try.ntmps6
    go_wp2_with fail
    refine (alive _).mono ?_
    rintro e w1 ⟨rfl, hb1⟩
    have o0 := (HO.out.below hb1 (Nat.le_refl _)).cell 0 _ rfl
    have HB := Lib.hid (bel2 (a := w) (al1 _ _) hb1)
    clear hb1
    go_wp2
    go_ret
    exact ⟨rfl, HB.out⟩

theorem dec_2 {l : List Int} {a z : Int} (hg : gd a z = true) (h98 : a ≠ 98) : ((dec l a z).2 = 0 ∧ 0 ≤ (dec l a z).1.n ∧ (dec l a z).1.n ≤ 6) ∨ ((dec l a z).2 = 3 ∧ (dec l a z).1 = zs) := by
  have hz := gd_sz hg
  match l with
  | [] => rw [dec_nil hg h98]; right; exact ⟨rfl, rfl⟩
  | x :: t =>
    by_cases hx : x / 16 = 4
    · by_cases h15 : x % 16 = 15
      · rw [dec_15 hg h98 hx h15]; left; simp [bd]
      · match t with
        | [] => rw [dec_short hg h98 hx h15]; right; exact ⟨rfl, rfl⟩
        | y :: u =>
          rw [dec_1 hg h98 hx h15]
          have := fin_2 (x := y) (a := a) (i := x % 16) (c := 2) (u := u) hz
          simpa using this
    · rw [dec_0 hg h98 hx]
      have := fin_2 (x := x) (a := a) (i := -1) (c := 1) (u := t) hz
      rcases this with ⟨h1, h2, h3⟩ | h
      · left
        exact ⟨by simpa using h1, by simpa using h2, by have : (fin x t a z (-1) 1).1.n ≤ 5 := by simpa using h3
                                                        omega⟩
      · right; simpa using h
/-- how an index ahead turns the answer -/
def Turned (y x : Int) (s : Sp) (e : Int) (t : Sp) (f : Int) : Prop :=
  (e = 1 ∧ f = 1) ∨ ((e = 0 ∨ e = 3) ∧ (y / 16 ≤ 5 ∨ (¬ y / 16 ≤ 5 ∧ y = 143)) ∧ t = bd 2 ∧ f = 0) ∨ (6 ≤ y / 16 ∧ y ≠ 143 ∧ e = 3 ∧ f = 3) ∨
    (6 ≤ y / 16 ∧ y ≠ 143 ∧ e = 0 ∧ f = 0 ∧ ((s.k = 14 ∧ t.k = 14) ∨ (s.k ≠ 14 ∧ t = ⟨s.k, s.r, x, s.x, s.n + 1⟩ ∧ 0 ≤ s.n ∧ s.n ≤ 6)))
theorem turned {y a z x : Int} {u : List Int} (hb : 0 ≤ y ∧ y < 256) (h98 : a ≠ 98) (hx0 : 0 ≤ x) (hx : x ≤ 14) :
    Turned y x (dec (y :: u) a z).1 (dec (y :: u) a z).2 (dec ((64 + x) :: y :: u) a z).1 (dec ((64 + x) :: y :: u) a z).2 := by
  by_cases hg : gd a z = true
  · have h2 := dec_2 (l := y :: u) hg h98
    rw [dec_ix hg h98 hx0 hx]
    by_cases hy : y / 16 ≤ 5 ∨ (y / 16 = 8 ∧ y % 16 = 15)
    · rw [fin_no hy hx0]
      refine .inr (.inl ⟨?_, by omega, rfl, rfl⟩)
      rcases h2 with h | h
      · exact .inl h.1
      · exact .inr h.1
    · have hy6 : 6 ≤ y / 16 := by omega
      have hy143 : y ≠ 143 := by omega
      rw [fin_ix hy6 (fun h => hy (.inr h))]
      rw [dec_0 hg h98 (by omega)] at h2 ⊢
      generalize fin y u a z (-1) 1 = d at *
      obtain ⟨s, e⟩ := d
      simp only at h2 ⊢
      rcases h2 with ⟨rfl, n0, n1⟩ | ⟨rfl, rfl⟩
      · refine .inr (.inr (.inr ⟨hy6, hy143, rfl, by simp, ?_⟩))
        by_cases hk : s.k = 14
        · left; simp [hk]
        · right; simp [hk]; exact ⟨n0, n1⟩
      · exact .inr (.inr (.inl ⟨hy6, hy143, rfl, by simp⟩))
  · have hg : gd a z = false := by simpa using hg
    rw [dec_arg hg, dec_arg hg]
    exact .inl ⟨rfl, rfl⟩

theorem L2.step {w W : World} {p : Nat} {a z : Int} {g h : Nat} {s t : Sp} (l : L2 w p a z g s h t W) (i n : Int) :
    L2 w p a z g ⟨s.k, s.r, i, s.x, n⟩ h t ((W.setCell ⟨g, 2, none⟩ (.int .i64 i)).setCell ⟨g, 4, none⟩ (.int .i64 n)) := by
  have h1 := l.lt
  have h2 := l.one.lt
  have h3 := l.one.le
  exact ⟨⟨(l.one.opr.far (by omega) 2 _).far (by omega) 4 _, (l.one.var.set 2 _).set 4 _, Below.setCell (Below.setCell l.one.bel (by simp; omega) _) (by simp; omega) _, h3, h2⟩, (l.var.far (by omega) 2 _).far (by omega) 4 _, h1⟩

/-- what behind the region stands -/
def Id2 (w : World) (a z : Int) (s t : Sp) (f : Int) (g : Nat) (v e : Value) (W : World) : Prop := ∃ h, v = .pointer (some ⟨h, 0, none⟩) ∧ e = .int .i64 f ∧ L2 w w.heap.size a z g s h t W

set_option maxRecDepth 100000 in
set_option maxHeartbeats 3200000 in
theorem indexed_in (A : Option Addr) (n c : Nat) (y : Int) (u : List Int) (a z x : Int) (w : World) (hy : By w A n c (y :: u)) (ha : 0 ≤ a ∧ a < 256) (hn : n ≤ 256) (hx0 : 0 ≤ x) (hx : x ≤ 14) (h98 : a ≠ 98) :
    Calls Try.prog 6 #[.slice A n c, opv a z, .int .i64 x] w fun e w' => e = .returned (.bool true) ∧ Below w.heap.size w w' := by
  have hl : (0 : Int) < (n : Int) := by have := hy.len; simp at this; omega
  have hl0 : ((n : Int) == 0) = false := by have : (n : Int) ≠ 0 := by omega
                                            simpa using this
  have hn' : ¬ (256 : Int) < (n : Int) := by omega
  have hx1 : ¬ x < 0 := by omega
  have hx2 : ¬ 14 < x := by omega
  have g98 : (a == 98) = false := by simpa using h98
  have K1 : Hid (∀ W, Below w.heap.size w W → Calls Try.prog 9 #[.slice A n c, opv a z] W fun e w' => e = .returned (.tuple #[(dec (y :: u) a z).1.val, .int .i64 (dec (y :: u) a z).2]) ∧ Below W.heap.size W w') :=
    Lib.hid fun W hW => decode_any A n c (y :: u) a z W (hy.below hW (Nat.le_refl _)) (by omega) ha
  have K2 : Hid (∀ W A' n' c', By W A' n' c' ((64 + x) :: y :: u) → Calls Try.prog 9 #[.slice A' n' c', opv a z] W fun e w' => e = .returned (.tuple #[(dec ((64 + x) :: y :: u) a z).1.val, .int .i64 (dec ((64 + x) :: y :: u) a z).2]) ∧ Below W.heap.size W w') :=
    Lib.hid fun W A' n' c' h => decode_any A' n' c' _ a z W h (by have h1 := h.len; have h2 := hy.len; simp at h1 h2; omega) ha
  have HYW : Hid (∀ W, Below w.heap.size w W → By W A n c (y :: u)) := Lib.hid fun W hW => hy.below hW (Nat.le_refl _)
  have hq0 : 0 ≤ 64 + x := by omega
  have hq1 : 64 + x < 256 := by omega
  have hw1 : IntKind.i64.wrap (64 + x) = 64 + x := IntWalk.i64_in _ (by omega)
  have hw2 : IntKind.u8.wrap (64 + x) = 64 + x := by rw [IntKind.wrap_u8]; omega
  have hBt : Byt ((64 + x) :: y :: u) := Byt.cons ⟨hq0, hq1⟩ hy.byt
  have HBt := Lib.hid hBt
  have hlen := hy.len
  have HLn := Lib.hid hlen
  have HT := Lib.hid (turned (u := u) (z := z) hy.byt.hd h98 hx0 hx)
  obtain ⟨ad, rfl, had, HX⟩ := hy.c0
  obtain ⟨y0, y1⟩ := hy.byt.hd
  generalize dec (y :: u) a z = d at *
  generalize dec ((64 + x) :: y :: u) a z = d' at *
  obtain ⟨⟨d1, d2, d3, d4, d5⟩, d6⟩ := d
  obtain ⟨⟨f1, f2, f3, f4, f5⟩, f6⟩ := d'
  have hle : 1 + n ≤ 1000000000 := by omega
  have HO := Lib.hid (Bk.new w 24 [.int .u8 a, .int .i64 z])
  clear hy ha h98 hBt hlen
  go_enter Try.func6, Try.ntmps6
  go_wp2_with fail
  refine (alive _).mono ?_
  rintro e w1 ⟨rfl, hb1⟩
  have hO := HO.out.below hb1 (Nat.le_refl _)
  have o0 := hO.cell 0 _ rfl
  have o1 := hO.cell 1 _ rfl
  have HO1 := Lib.hid hO
  have HB := Lib.hid (bel2 (a := w) (al1 _ _) hb1)
  clear hO hb1
  go_wp2_with fail
  refine (K1.out _ HB.out).mono ?_
  rintro e w2 ⟨rfl, hb2⟩
  have HL := Lib.hid (L1.new (HO1.out.below hb2 (Nat.le_refl _)) (bel2 HB.out hb2) (Nat.le_refl _) d1 d2 d3 d4 d5)
  clear o0 o1 hb2 HO1 HB HO
  go_upto_region 6 with fail
  generalize w2.alloc (.cells #[.int .i64 d1, .int .i64 d2, .int .i64 d3, .int .u32 d4, .int .i64 d5] 28) = V at *
  generalize w2.heap.size = g at *
  go_cut [9, 10] from 40 to 50 (Id2 w a z ⟨d1, d2, d3, d4, d5⟩ ⟨f1, f2, f3, f4, f5⟩ f6 g)
  case first =>
    have o0 := HL.out.o0
    have o1 := HL.out.o1
    have o0d : V.drew.cell? ⟨w.heap.size, 0, none⟩ = some (.int .u8 a) := o0
    have o1d : V.drew.cell? ⟨w.heap.size, 1, none⟩ = some (.int .i64 z) := o1
    have hgl := HL.out.glt
    have hlt := HL.out.lt
    have HYV : Hid (∀ W, Below V.heap.size V W → By W (some ad) n c (y :: u)) := Lib.hid fun W hW => HYW.out W (bel2 HL.out.bel hW)
    have HM1 : Hid (∀ W, Below (V.alloc (.cells #[.int .u8 (64 + x)] 5)).heap.size (V.alloc (.cells #[.int .u8 (64 + x)] 5)) W → Mk V.heap.size V (.slice (some ⟨V.heap.size, 0, none⟩) 1 1) [64 + x] W) := Lib.hid fun W hW => (Mk.lit V (Below.refl _ _) (Nat.le_refl _) [64 + x] (n := 1) rfl (by decide)).below hW
    have HM2 : Hid (∀ W, Below ((V.alloc (.cells #[.int .i64 0, .int .i64 0, .int .i64 0, .int .u32 0, .int .i64 0] 28)).alloc (.cells #[.int .u8 (64 + x)] 5)).heap.size ((V.alloc (.cells #[.int .i64 0, .int .i64 0, .int .i64 0, .int .u32 0, .int .i64 0] 28)).alloc (.cells #[.int .u8 (64 + x)] 5)) W → Mk V.heap.size V (.slice (some ⟨V.heap.size + 1, 0, none⟩) 1 1) [64 + x] W) := Lib.hid fun W hW => by
      have := (Mk.lit (W := V.alloc (.cells #[.int .i64 0, .int .i64 0, .int .i64 0, .int .u32 0, .int .i64 0] 28)) V (al1 _ _) (by simp) [64 + x] (n := 1) rfl (by decide)).below hW
      simpa using this
    have HVa : Hid (Bk ((V.alloc (.cells #[.int .i64 0, .int .i64 0, .int .i64 0, .int .u32 0, .int .i64 0] 28)).alloc (.cells #[.int .u8 (64 + x)] 5)).drew V.heap.size 28 [.int .i64 0, .int .i64 0, .int .i64 0, .int .u32 0, .int .i64 0]) := (Bk.new V _ [.int .i64 0, .int .i64 0, .int .i64 0, .int .u32 0, .int .i64 0]).below (Below.drew (al1 _ _)) (Nat.le_refl _)
    have HVb : Hid (Bk ((V.alloc (.cells #[.int .u8 (64 + x)] 5)).alloc (.cells #[.int .i64 0, .int .i64 0, .int .i64 0, .int .u32 0, .int .i64 0] 28)).drew (V.heap.size + 1) 28 [.int .i64 0, .int .i64 0, .int .i64 0, .int .u32 0, .int .i64 0]) := Lib.hid (by
      have := Bk.new (V.alloc (.cells #[.int .u8 (64 + x)] 5)) 28 [.int .i64 0, .int .i64 0, .int .i64 0, .int .u32 0, .int .i64 0]
      simp at this
      exact this)
    have hla : g < V.heap.size := hgl
    have hlb : g < V.heap.size + 1 := by omega
    have hnea : (⟨w.heap.size, 0, none⟩ : Addr).block ≠ V.heap.size ∧ (⟨w.heap.size, 1, none⟩ : Addr).block ≠ V.heap.size := by simp; omega
    have hneb : (⟨w.heap.size, 0, none⟩ : Addr).block ≠ V.heap.size + 1 ∧ (⟨w.heap.size, 1, none⟩ : Addr).block ≠ V.heap.size + 1 := by simp; omega
    have hna : ¬ Bl (.slice (some ⟨V.heap.size + 1, 0, none⟩) 1 1) V.heap.size := by simp [Bl, Value.ownBlock]
    have hnb : ¬ Bl (.slice (some ⟨V.heap.size, 0, none⟩) 1 1) (V.heap.size + 1) := by simp [Bl, Value.ownBlock]
    go_region_held3 (fun w' => w'.cell? ⟨w.heap.size, 0, none⟩ = some (.int .u8 a) ∧ w'.cell? ⟨w.heap.size, 1, none⟩ = some (.int .i64 z))
      (first | (with_reducible exact ⟨z0, z1⟩) | (with_reducible exact ⟨o0d, o1d⟩) | (with_reducible exact ⟨o0, o1⟩) | (with_reducible exact ⟨far5 hne.1 z0, far5 hne.2 z1⟩) | go_keep)
      (first
        | ((first
            | (refine step_app8 rfl (.tmp 44) (.tmp 45) rfl rfl V.heap.size V (.slice (some ⟨V.heap.size, 0, none⟩) 1 1) [64 + x] (y :: u) (some ad) n c (1 + n) rfl ?_ ?_ ?_ ?_ hle ?_
               · simp [Act.eval]; done
               · simp [Act.eval]; done
               · refine HM1.out _ ?_; go_grown
               · refine HYV.out _ ?_; go_grown)
            | (refine step_app8 rfl (.tmp 44) (.tmp 45) rfl rfl V.heap.size V (.slice (some ⟨V.heap.size + 1, 0, none⟩) 1 1) [64 + x] (y :: u) (some ad) n c (1 + n) rfl ?_ ?_ ?_ ?_ hle ?_
               · simp [Act.eval]; done
               · simp [Act.eval]; done
               · refine HM2.out _ ?_; go_grown
               · refine HYV.out _ ?_; go_grown))
           intro A2 c2 w3 hM2 hb2 hm2
           have hL2 := HL.out.below hM2.bel
           have z0 := hL2.o0
           have z1 := hL2.o1
           have HB2 : Hid (∀ W, Below w3.heap.size w3 W → By W A2 (1 + n) c2 ((64 + x) :: y :: u)) := Lib.hid fun W hW => (hM2.below hW).by (by have := HLn.out; simp at this; simp; omega) HBt.out
           have hl2 := hL2.glt
           have HVc : Hid (Bk (w3.alloc (.cells #[.int .i64 0, .int .i64 0, .int .i64 0, .int .u32 0, .int .i64 0] 28)) w3.heap.size 28 [.int .i64 0, .int .i64 0, .int .i64 0, .int .u32 0, .int .i64 0]) := Bk.new w3 _ [.int .i64 0, .int .i64 0, .int .i64 0, .int .u32 0, .int .i64 0]
           have hnec : (⟨w.heap.size, 0, none⟩ : Addr).block ≠ w3.heap.size ∧ (⟨w.heap.size, 1, none⟩ : Addr).block ≠ w3.heap.size := by simp; omega
           have HL2 := Lib.hid hL2
           (first
            | (have hv2 : Bk w3 V.heap.size 28 [.int .i64 0, .int .i64 0, .int .i64 0, .int .u32 0, .int .i64 0] := (by with_reducible exact Bk.mods HVa.out hm2 hna); have hlv := hla; have hne := hnea)
            | (have hv2 : Bk w3 (V.heap.size + 1) 28 [.int .i64 0, .int .i64 0, .int .i64 0, .int .u32 0, .int .i64 0] := (by with_reducible exact Bk.mods HVb.out hm2 hnb); have hlv := hlb; have hne := hneb)
            | skip)
           clear hM2 hL2 hm2 hb2)
        | (go_at_call 9
           refine (K2.out _ _ _ _ (HB2.out _ (by go_grown))).mono ?_
           rintro e w4 ⟨rfl, hb4⟩
           have hL4 := HL2.out.below (bel2 (by go_grown) hb4)
           have z0 := hL4.o0
           have z1 := hL4.o1
           (first
            | (have hv3 := by with_reducible exact Bk.below hv2 hb4 (Nat.le_refl _))
            | (have hv3 : Bk w4 w3.heap.size 28 [.int .i64 0, .int .i64 0, .int .i64 0, .int .u32 0, .int .i64 0] := (by with_reducible exact Bk.below HVc.out hb4 (Nat.le_refl _)); have hlv := hl2; have hne := hnec)
            | skip)
           (first
            | (have v0 := hv3.cell 0 _ rfl; have v1 := hv3.cell 1 _ rfl; have v2 := hv3.cell 2 _ rfl; have v3 := hv3.cell 3 _ rfl; have v4 := hv3.cell 4 _ rfl; have vf := hv3.free; have hvl := hv3.lt)
            | skip)))
    all_goals go_wp2_with fail
    all_goals go_meet
    all_goals first
      | exact ⟨_, rfl, rfl, L2.put hL4 hv3 hlv _ _ _ _ _⟩
      | exact ⟨_, rfl, rfl, L2.new hL4 _ _ _ _ _⟩
  case rest =>
    obtain ⟨h, rfl, rfl, hL⟩ := hcut
    have hcx := HX.out _ hL.one.bel
    have v0 := hL.one.v0
    have v1 := hL.one.v1
    have v2 := hL.one.v2
    have v3 := hL.one.v3
    have v4 := hL.one.v4
    have vf := hL.one.vf
    have t0 := hL.t0
    have t1 := hL.t1
    have t2 := hL.t2
    have t3 := hL.t3
    have t4 := hL.t4
    have hgl := hL.one.glt
    have hgh := hL.lt
    have hhl := hL.tlt
    have hpg := hL.one.lt
    have HF := Lib.hid hL.one.bel
    simp only at v0 v1 v2 v3 v4 t0 t1 t2 t3 t4
    have HL2 := Lib.hid hL
    clear hL HL K1 K2 HYW HBt HLn hw1 hw2 hq0 hq1
    rcases HT.out with ⟨h1, h2⟩ | ⟨h1, h2, h3, h4⟩ | ⟨h1, h2, h3, h4⟩ | ⟨h1, h2, h3, h4, h5⟩
    · subst h1 h2
      clear HT
      go_wp2
      go_ret
      exact ⟨rfl, HF.out⟩
    · subst h4
      obtain ⟨rfl, rfl, rfl, rfl, rfl⟩ : f1 = 14 ∧ f2 = 0 ∧ f3 = -1 ∧ f4 = 0 ∧ f5 = 2 := by simpa [bd] using h3
      clear HT h3
      rcases h1 with rfl | rfl
      all_goals
        rcases h2 with h5 | ⟨h5, rfl⟩
        · go_wp2
          go_ret
          exact ⟨rfl, HF.out⟩
        · go_wp2
          go_ret
          exact ⟨rfl, HF.out⟩
    · subst h3 h4
      have h5 : ¬ y / 16 ≤ 5 := by omega
      have g143 : (y == 143) = false := by simpa using h2
      clear HT h1 h2
      go_wp2
      go_ret
      exact ⟨rfl, HF.out⟩
    · subst h3 h4
      have h6 : ¬ y / 16 ≤ 5 := by omega
      have g143 : (y == 143) = false := by simpa using h2
      clear HT h1 h2
      rcases h5 with ⟨h7, h8⟩ | ⟨h7, h8, h9, h10⟩
      · subst h7 h8
        go_wp2
        go_ret
        exact ⟨rfl, HF.out⟩
      · have g14 : (d1 == 14) = false := by simpa using h7
        obtain ⟨rfl, rfl, rfl, rfl, h11⟩ : f1 = d1 ∧ f2 = d2 ∧ f3 = x ∧ f4 = d4 ∧ f5 = d5 + 1 := by simpa using h8
        have h12 : d5 + 1 = f5 := h11.symm
        have b50 : 0 ≤ f5 := by rw [h11]; exact Int.add_nonneg h9 (by decide)
        have b51 : f5 ≤ 7 := by rw [h11]; exact Int.add_le_add_right h10 1
        clear h7 h8 h11
        go_upto_region 15 with fail
        have hL2 := HL2.out.step f3 f5
        generalize (wc.setCell ⟨g, 2, none⟩ (.int .i64 f3)).setCell ⟨g, 4, none⟩ (.int .i64 f5) = W2 at *
        clear v0 v1 v2 v3 v4 vf t0 t1 t2 t3 t4 hgl hhl hcx
        have v0 := hL2.one.v0
        have v1 := hL2.one.v1
        have v2 := hL2.one.v2
        have v3 := hL2.one.v3
        have v4 := hL2.one.v4
        have t0 := hL2.t0
        have t1 := hL2.t1
        have t2 := hL2.t2
        have t3 := hL2.t3
        have t4 := hL2.t4
        have HF2 := Lib.hid hL2.one.bel
        clear hL2 HL2 HF h12
        go_wp2
        go_ret
        exact ⟨rfl, HF2.out⟩

theorem indexed_walk (A : Option Addr) (n c : Nat) (o : Oa) (x : Int) (w : World) (h : ∃ ys, By w A n c ys) (ho : o.Ok) (hx : (Lit.int .i64 x).wf = true) :
    Calls Try.prog 6 #[.slice A n c, .agg #[.int .u8 o.a, .int .i64 o.z], .int .i64 x] w fun e w' => e = .returned (.bool true) ∧ Below w.heap.size w w' := by
  obtain ⟨ys, hy⟩ := h
  by_cases hn : 256 < n
  · exact indexed_skip A n c _ _ x w (.inl hn)
  · by_cases h0 : n = 0
    · exact indexed_skip A n c _ _ x w (.inr (.inl ⟨by omega, h0⟩))
    · by_cases h1 : x < 0
      · exact indexed_skip A n c _ _ x w (.inr (.inr (.inl ⟨by omega, by omega, h1⟩)))
      · by_cases h2 : 14 < x
        · exact indexed_skip A n c _ _ x w (.inr (.inr (.inr (.inl ⟨by omega, by omega, by omega, h2⟩))))
        · by_cases h3 : o.a = 98
          · exact indexed_skip A n c _ _ x w (.inr (.inr (.inr (.inr ⟨by omega, by omega, by omega, by omega, h3⟩))))
          · match ys, hy with
            | [], hy => have := hy.len; simp at this; omega
            | y :: u, hy => exact indexed_in A n c y u _ _ x w hy ⟨ho.a0, ho.a1⟩ (by omega) (by omega) (by omega) h3

end Go.Proofs.Ytmhdhffpndiodaa.Cs
