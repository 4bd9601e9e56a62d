/- What each law of registers asks first; one File of the call's own. -/
import Derived.Test.YtgljkadelkglbaaHFile4
import Derived.Test.YtgljkadelkglbaaHFile5
import Derived.Test.YtgljkadelkglbaaHFile6
namespace Go.Proofs.Ytgljkadelkglbaa.Cs
open Go.RowKit Ps Tl

/-- a File that the call made -/
structure Hd (w W : World) (g : Nat) (e : Re) (ss : List Int) (n : Int) : Prop where
  fi : Fi W g e ss n
  bel : Below w.heap.size w W
  le : w.heap.size ≤ g
section
variable {w W W' : World} {g : Nat} {e e' : Re} {ss ss' : List Int} {n n' : Int}
theorem Hd.step (h : Hd w W g e ss n) (f : Fi W' g e' ss' n') (m : Mods (One g) W W') : Hd w W' g e' ss' n' :=
  ⟨f, Mods.below h.bel m (fun _ hk => hk ▸ h.le) h.bel.size, h.le⟩
theorem Hd.below (h : Hd w W g e ss n) (b : Below W.heap.size W W') : Hd w W' g e ss n := ⟨h.fi.below b, below2 h.bel b, h.le⟩
theorem Hd.new {W0 : World} (hb : Below w.heap.size w W0) (f : Fi W W0.heap.size e ss n) (b : Below W0.heap.size W0 W) : Hd w W W0.heap.size e ss n :=
  ⟨f, below2 hb b, hb.size⟩
end

theorem get_as (w : World) (g : Nat) (e : Re) (ss : List Int) (n : Int) (h : Fi w g e ss n) (k : Nat) (hk : k < 16) (y : Int) (hy : e.r.getD k 0 = y) :
    Calls Try.prog 25 #[.pointer (some ⟨g, 0, none⟩), .int .i64 k] w fun r w' => r = .returned (.int .u32 y) ∧ w = w' := hy ▸ get_in w g e ss n h k hk
theorem get_3 (w : World) (g : Nat) (e : Re) (ss : List Int) (n : Int) (h : Fi w g e ss n) (y : Int) (hy : e.r.getD 3 0 = y) :
    Calls Try.prog 25 #[.pointer (some ⟨g, 0, none⟩), .int .i64 3] w fun r w' => r = .returned (.int .u32 y) ∧ w = w' := get_as w g e ss n h 3 (by omega) y hy
theorem set_3 (w : World) (g : Nat) (e : Re) (ss : List Int) (n : Int) (h : Fi w g e ss n) :
    Calls Try.prog 10 #[.pointer (some ⟨g, 0, none⟩), .int .i64 3, .int .u32 9, .int .i64 4] w fun r w' =>
      r = .returned (.int .i64 0) ∧ Fi w' g (e.reg 3 (pu (e.r.getD 3 0) 9 4)) ss n ∧ Mods (One g) w w' := set_in w g e ss n h 3 (by omega) 9 ⟨by omega, by omega⟩ 4 (.inr (.inr rfl))
theorem step_3 (w : World) (g : Nat) (e : Re) (ss : List Int) (n : Int) (h : Fi w g e ss n) (d : Int) (hd : U d) (h0 : 0 ≤ n) (h1 : n < 1000000) :
    Calls Try.prog 12 #[.pointer (some ⟨g, 0, none⟩), .int .i64 3, .int .u32 d] w fun r w' =>
      r = .returned (.int .i64 0) ∧ Fi w' g (e.reg 3 (ad (e.r.getD 3 0) d)) (ss.set 3 (ad (ss.getD 3 0) d)) (n + 1) ∧ Mods (One g) w w' := step_in w g e ss n h 3 (by omega) d hd h0 h1

set_option maxHeartbeats 1000000 in
theorem alive_any (w : World) :
    Calls Try.prog 8 #[] w fun r w' => r = .returned (.bool true) ∧ Below w.heap.size w w' := by
  go_enter Try.func8, Try.ntmps8
  go_wp2_with fail
  refine (new_any _).mono ?_
  rintro _ w1 ⟨rfl, f1, b1⟩
  have H1 := Lib.hid (Hd.new (Below.refl _ _) f1 b1)
  clear f1 b1
  generalize hg : w.heap.size = g at *
  go_wp2_with fail
  refine (set_3 _ g _ _ _ H1.out.fi).mono ?_
  rintro _ w2 ⟨rfl, f2, m2⟩
  have H2 := Lib.hid (H1.out.step f2 m2)
  clear f2 m2 H1
  go_wp2_with fail
  refine (step_3 _ g _ _ _ H2.out.fi 4 ⟨by omega, by omega⟩ (by omega) (by omega)).mono ?_
  rintro _ w3 ⟨rfl, f3, m3⟩
  have H3 := Lib.hid (H2.out.step f3 m3)
  clear f3 m3 H2
  go_wp2_with fail
  refine (get_3 _ g _ _ _ H3.out.fi 13 (by decide)).mono ?_
  rintro _ w' ⟨rfl, rfl⟩
  go_wp2_with fail
  refine (undo_any _ g _ _ _ H3.out.fi).mono ?_
  rintro _ w4 ⟨rfl, f4, m4⟩
  have H4 := Lib.hid (H3.out.step f4 m4)
  clear f4 m4 H3
  go_wp2_with fail
  refine (get_3 _ g _ _ _ H4.out.fi 9 (by decide)).mono ?_
  rintro _ w' ⟨rfl, rfl⟩
  go_wp2_with fail
  refine (steps_any _ g _ _ _ H4.out.fi).mono ?_
  rintro _ w' ⟨rfl, rfl⟩
  go_wp2
  go_ret
  exact ⟨rfl, hg ▸ H4.out.bel⟩
end Go.Proofs.Ytgljkadelkglbaa.Cs
