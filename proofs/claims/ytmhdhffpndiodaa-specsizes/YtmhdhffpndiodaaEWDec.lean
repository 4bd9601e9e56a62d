/- The walks of SpecDecodes and SpecSizes. -/
import Derived.Test.YtmhdhffpndiodaaEBoth
namespace Go.Proofs.Ytmhdhffpndiodaa.Cs
open Go.RowKit
set_option linter.unusedVariables false

/-- An operand that came in. -/
structure Oa where
  a : Int
  z : Int
structure Oa.Ok (o : Oa) : Prop where
  a0 : 0 ≤ o.a
  a1 : o.a < 256
  z0 : -9223372036854775808 ≤ o.z
  z1 : o.z < 9223372036854775808

set_option maxHeartbeats 800000 in
theorem decodes_long (A : Option Addr) (n c : Nat) (a z : Int) (w : World) (hn : 256 < n) :
    Calls Try.prog 3 #[.slice A n c, opv a z] w fun e w' => e = .returned (.bool true) ∧ Below w.heap.size w w' := by
  have hn' : (256 : Int) < (n : Int) := by omega
  go_enter Try.func3, Try.ntmps3
  go_wp2_with fail
  refine (alive _).mono ?_
  rintro e w1 ⟨rfl, hb1⟩
  have hb := bel2 (a := w) (by go_grown) hb1
  go_wp2
  go_ret
  exact ⟨rfl, hb⟩

set_option maxHeartbeats 1600000 in
theorem decodes_in (A : Option Addr) (n c : Nat) (ys : List Int) (a z : Int) (w : World) (hy : By w A n c ys) (ha : 0 ≤ a ∧ a < 256) (hn : n ≤ 256) :
    Calls Try.prog 3 #[.slice A n c, opv a z] w fun e w' => e = .returned (.bool true) ∧ Below w.heap.size w w' := by
  have hn' : ¬ (256 : Int) < (n : Int) := by omega
  have KD : Hid (∀ W, Below w.heap.size w W → Calls Try.prog 9 #[.slice A n c, opv a z] W fun e w' => e = .returned (.tuple #[(dec ys a z).1.val, .int .i64 (dec ys a z).2]) ∧ Below W.heap.size W w') :=
    Lib.hid fun W hW => decode_any A n c ys a z W (hy.below hW (Nat.le_refl _)) (by omega) ha
  have KR : Hid (∀ W, Below w.heap.size w W → Calls Try.prog 10 #[.slice A n c, opv a z] W fun e w' => e = .returned (.tuple #[(dec ys a z).1.val, .int .i64 (dec ys a z).2]) ∧ Below W.heap.size W w') :=
    Lib.hid fun W hW => rdecode_any A n c ys a z W (hy.below hW (Nat.le_refl _)) (by omega) ha
  generalize dec ys a z = d at *
  obtain ⟨⟨d1, d2, d3, d4, d5⟩, d6⟩ := d
  clear hy ha
  go_enter Try.func3, Try.ntmps3
  go_wp2_with fail
  refine (alive _).mono ?_
  rintro e w1 ⟨rfl, hb1⟩
  have hO := (Bk.new w 24 [.int .u8 a, .int .i64 z]).below hb1 (Nat.le_refl _)
  have o0 := hO.cell 0 _ rfl
  have o1 := hO.cell 1 _ rfl
  have HO := Lib.hid hO
  have HB := Lib.hid (bel2 (a := w) (by go_grown) hb1)
  clear hO hb1
  go_wp2_with fail
  refine (KD.out _ HB.out).mono ?_
  rintro e w2 ⟨rfl, hb2⟩
  clear o0 o1
  have hO := HO.out.below hb2 (Nat.le_refl _)
  have o0 := hO.cell 0 _ rfl
  have o1 := hO.cell 1 _ rfl
  have hlt := hO.lt
  have HO2 := Lib.hid hO
  have HB2 := Lib.hid (bel2 HB.out hb2)
  have HS := Lib.hid (Bk.new w2 28 [.int .i64 d1, .int .i64 d2, .int .i64 d3, .int .u32 d4, .int .i64 d5])
  clear hO hb2
  go_wp2_with fail
  refine (KR.out _ (bel2 HB2.out (by go_grown))).mono ?_
  rintro e w3 ⟨rfl, hb3⟩
  have hS := HS.out.below hb3 (Nat.le_refl _)
  have s0 := hS.cell 0 _ rfl
  have s1 := hS.cell 1 _ rfl
  have s2 := hS.cell 2 _ rfl
  have s3 := hS.cell 3 _ rfl
  have s4 := hS.cell 4 _ rfl
  have hlt3 := hS.lt
  have HB3 := Lib.hid (bel2 (bel2 HB2.out (by go_grown)) hb3)
  clear hS hb3
  go_wp2
  go_ret
  exact ⟨rfl, bel2 HB3.out (by go_grown)⟩

theorem decodes_walk (A : Option Addr) (n c : Nat) (o : Oa) (w : World) (h : ∃ ys, By w A n c ys) (ho : o.Ok) :
    Calls Try.prog 3 #[.slice A n c, .agg #[.int .u8 o.a, .int .i64 o.z]] w fun e w' => e = .returned (.bool true) ∧ Below w.heap.size w w' := by
  obtain ⟨ys, hy⟩ := h
  by_cases hn : 256 < n
  · exact decodes_long A n c _ _ w hn
  · exact decodes_in A n c ys _ _ w hy ⟨ho.a0, ho.a1⟩ (by omega)

end Go.Proofs.Ytmhdhffpndiodaa.Cs
