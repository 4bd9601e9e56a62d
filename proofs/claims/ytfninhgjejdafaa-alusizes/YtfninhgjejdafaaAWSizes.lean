/- The walk of AluSizes. -/
import Derived.Test.YtfninhgjejdafaaADo
namespace Go.Proofs.Ytfninhgjejdafaa.Cs
open Go.RowKit

theorem rput_as (o x s y : Int) (hs : Sz s) (ho : U o) (hx : U x) (hy : o - o % W s + x % W s = y) (w : World) :
    Calls Try.prog 18 #[.int .u32 o, .int .u32 x, .int .i64 s] w fun e w' => e = .returned (.int .u32 y) ∧ w = w' := hy ▸ rput_any o x s hs ho hx w
theorem put_U {o x s : Int} (hs : Sz s) (ho : U o) : U (o - o % W s + x % W s) := by
  unfold U at *
  rcases W_cases hs with h | h | h <;> rw [h] <;> omega
theorem put_rest {o x s : Int} (hs : Sz s) : (o - o % W s + x % W s) % W s = x % W s := by
  rcases W_cases hs with h | h | h <;> rw [h] <;> omega

theorem an_four {op a b : Int} {c : Bool} {s : Int} (hs : Sz s) (h : lgc op = true) : (an op a b c 4).x % W s = (an op a b c s).x := by
  rw [an_lg h, an_lg h]
  show lg op a b % W 4 % W s = lg op a b % W s
  rw [W4, mod_mod hs]

set_option maxHeartbeats 1000000 in
theorem asizes_yes (op a b s o : Int) (c : Bool) (hs : Sz s) (ha : U a) (hb : U b) (ho : U o) (w : World) :
    Calls Try.prog 5 #[.int .i64 op, .int .u32 a, .int .u32 b, .bool c, .int .i64 s, .int .u32 o] w fun e w' => e = .returned (.bool true) ∧ Below w.heap.size w w' := by
  have h4 : Sz 4 := .inr (.inr rfl)
  have hn : U (bits .xor .u32 4294967295 o) := xor_U ⟨by omega, by omega⟩ ho
  have k1 := do_any op a b s c hs ha hb
  have k3 := do_any op a b 4 c h4 ha hb
  have kL := logic_any op
  have hF := an_four (a := a) (b := b) (c := c) hs (op := op)
  have hU4 : U (an op a b c 4).x := an_U h4
  obtain ⟨p, hp⟩ : ∃ p, o - o % W s + a % W s = p := ⟨_, rfl⟩
  obtain ⟨q, hq⟩ : ∃ q, bits .xor .u32 4294967295 o - bits .xor .u32 4294967295 o % W s + b % W s = q := ⟨_, rfl⟩
  have hpU : U p := hp ▸ put_U hs ho
  have hqU : U q := hq ▸ put_U hs hn
  have hpr : p % W s = a % W s := hp ▸ put_rest hs
  have hqr : q % W s = b % W s := hq ▸ put_rest hs
  have k2 := do_as op p q s c (an op a b c s) hs hpU hqU (an_congr c hs hpU hqU ha hb hpr hqr)
  have kp := rput_as o a s p hs ho ha hp
  have kq := rput_as (bits .xor .u32 4294967295 o) b s q hs hn hb hq
  have kr := rest_any (an op a b c 4).x s hs hU4
  have hA := (an_U (op := op) (a := a) (b := b) (c := c) hs)
  generalize an op a b c s = A at *
  generalize an op a b c 4 = B at *
  generalize lgc op = l at *
  obtain ⟨x, n, z, v, cc, ok⟩ := A
  obtain ⟨x', n', z', v', cc', ok'⟩ := B
  unfold An.val at *
  have K1 := Lib.hid k1
  have K2 := Lib.hid k2
  have K3 := Lib.hid k3
  have KL := Lib.hid kL
  have KP := Lib.hid kp
  have KQ := Lib.hid kq
  have KR := Lib.hid kr
  have HF := Lib.hid hF
  have hA1 : 0 ≤ x := hA.1
  have hA2 : x < 4294967296 := hA.2
  clear k1 k2 k3 kL kp kq kr hp hq hpr hqr hF hU4 hpU hqU hn hA
  cases l
  · go_enter Try.func5, Try.ntmps5
    go_wp2_with fail
    refine (alive8 _).mono ?_
    rintro e w1 ⟨rfl, hb1⟩
    go_wp2_with (first | (go_at_call 10; refine (size_any _ hs _).mono ?_; rintro e w' ⟨rfl, rfl⟩) | fail)
    refine (K1.out _).mono ?_
    rintro e w2 ⟨rfl, hb2⟩
    go_wp2_with fail
    refine (KP.out _).mono ?_
    rintro e w' ⟨rfl, rfl⟩
    go_wp2_with fail
    refine (KQ.out _).mono ?_
    rintro e w' ⟨rfl, rfl⟩
    go_wp2_with fail
    refine (K2.out _).mono ?_
    rintro e w3 ⟨rfl, hb3⟩
    have c2 := fun o => hb3.cell (p := ⟨w2.heap.size, o, none⟩) (by simp)
    have z3 : w2.heap.size < w3.heap.size := by have := hb3.size; simp at this; omega
    go_wp2_with fail
    refine (K3.out _).mono ?_
    rintro e w4 ⟨rfl, hb4⟩
    go_wp2_with (first | (go_at_call 13; refine (KL.out _).mono ?_; rintro e w' ⟨rfl, rfl⟩))
    go_ret
    have hx := below3 (below3 (below2 hb1 hb2) hb3) hb4
    exact ⟨rfl, hx.alloc hx.size _⟩
  · go_enter Try.func5, Try.ntmps5
    go_wp2_with fail
    refine (alive8 _).mono ?_
    rintro e w1 ⟨rfl, hb1⟩
    go_wp2_with (first | (go_at_call 10; refine (size_any _ hs _).mono ?_; rintro e w' ⟨rfl, rfl⟩) | fail)
    refine (K1.out _).mono ?_
    rintro e w2 ⟨rfl, hb2⟩
    go_wp2_with fail
    refine (KP.out _).mono ?_
    rintro e w' ⟨rfl, rfl⟩
    go_wp2_with fail
    refine (KQ.out _).mono ?_
    rintro e w' ⟨rfl, rfl⟩
    go_wp2_with fail
    refine (K2.out _).mono ?_
    rintro e w3 ⟨rfl, hb3⟩
    have c2 := fun o => hb3.cell (p := ⟨w2.heap.size, o, none⟩) (by simp)
    have z3 : w2.heap.size < w3.heap.size := by have := hb3.size; simp at this; omega
    go_wp2_with fail
    refine (K3.out _).mono ?_
    rintro e w4 ⟨rfl, hb4⟩
    go_wp2_with (first | (go_at_call 13; refine (KL.out _).mono ?_; rintro e w' ⟨rfl, rfl⟩) | (go_at_call 19; refine (KR.out _).mono ?_; rintro e w' ⟨rfl, rfl⟩))
    go_ret
    have hx := below3 (below3 (below2 hb1 hb2) hb3) hb4
    exact ⟨ret_bool (by rw [HF.out trivial]; simp), hx.alloc hx.size _⟩

set_option maxHeartbeats 400000 in
theorem asizes_not (op a b s o : Int) (c : Bool) (hs : ¬ Sz s) (w : World) :
    Calls Try.prog 5 #[.int .i64 op, .int .u32 a, .int .u32 b, .bool c, .int .i64 s, .int .u32 o] w fun e w' => e = .returned (.bool true) ∧ Below w.heap.size w w' := by
  go_enter Try.func5, Try.ntmps5
  go_wp2_with fail
  refine (alive8 _).mono ?_
  rintro e w1 ⟨rfl, hb1⟩
  go_wp2_with (first | (go_at_call 10; refine (size_not _ hs _).mono ?_; rintro e w' ⟨rfl, rfl⟩) | fail)
  go_ret
  exact ⟨rfl, hb1⟩

theorem asizes_walk (op a b : Int) (c : Bool) (s o : Int) (_ : (Lit.int .i64 op).wf = true) (ha : (Lit.int .u32 a).wf = true) (hb : (Lit.int .u32 b).wf = true) (_ : (Lit.int .i64 s).wf = true) (ho : (Lit.int .u32 o).wf = true) (w : World) :
    Calls Try.prog 5 #[.int .i64 op, .int .u32 a, .int .u32 b, .bool c, .int .i64 s, .int .u32 o] w fun e w' => e = .returned (.bool true) ∧ Below w.heap.size w w' := by
  by_cases hs : Sz s
  · exact asizes_yes op a b s o c hs (U_of ha) (U_of hb) (U_of ho) w
  · exact asizes_not op a b s o c hs w
end Go.Proofs.Ytfninhgjejdafaa.Cs
