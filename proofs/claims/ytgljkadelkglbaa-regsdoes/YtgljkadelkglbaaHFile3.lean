/- Contracts of package regs: Step and Set where they take nothing, Set, Undo, Put. -/
import Derived.Test.YtgljkadelkglbaaHFile2
import Derived.Deep.RegionWith
namespace Go.Proofs.Ytgljkadelkglbaa.Cs
open Go.RowKit Ps Tl

set_option maxHeartbeats 400000 in
theorem step_out (w : World) (g : Nat) (k : Int) (hk : k < 0 ∨ 15 < k) (d : Int) :
    Calls Try.prog 12 #[.pointer (some ⟨g, 0, none⟩), .int .i64 k, .int .u32 d] w fun r w' => r = .returned (.int .i64 1) ∧ w = w' := by
  have HK := Lib.hid hk
  clear hk
  go_enter Try.func12, Try.ntmps12
  go_wp2_with (go_at_call 30; refine (isreg_out k HK.out _).mono ?_; rintro _ w' ⟨rfl, rfl⟩)
  go_ret
  exact ⟨rfl, rfl⟩
set_option maxHeartbeats 400000 in
theorem step_nil (w : World) (k d : Int) :
    Calls Try.prog 12 #[.pointer none, .int .i64 k, .int .u32 d] w fun r w' => r = .returned (.int .i64 2) ∧ w = w' := by
  go_enter Try.func12, Try.ntmps12
  go_wp2
  go_ret
  exact ⟨rfl, rfl⟩

/-- a number with its lowest bytes those of another one -/
def pu (o x s : Int) : Int := o - o % Bt.W s + x % Bt.W s
theorem pu_U (o x s : Int) (hs : Bt.Sz s) (ho : U o) : U (pu o x s) := by
  obtain ⟨h0, h1⟩ := ho
  rcases hs with rfl | rfl | rfl <;> simp only [pu, Bt.W1, Bt.W2, Bt.W4] <;> exact ⟨by omega, by omega⟩
set_option maxHeartbeats 400000 in
theorem mask_not (s : Int) (hs : ¬ Bt.Sz s) (w : World) :
    Calls Try.prog 31 #[.int .i64 s] w fun e w' => e = .returned (.int .u32 0) ∧ w = w' := by
  have h1 : (s == 1) = false := by simp; intro h; exact hs (.inl h)
  have h2 : (s == 2) = false := by simp; intro h; exact hs (.inr (.inl h))
  have h4 : (s == 4) = false := by simp; intro h; exact hs (.inr (.inr h))
  clear hs
  go_enter Try.func31, Try.ntmps31
  go_wp2
  go_ret
  exact ⟨rfl, rfl⟩
theorem mask_pos (s : Int) (hs : Bt.Sz s) : (Bt.W s - 1 == 0) = false := by
  rcases hs with rfl | rfl | rfl <;> rfl
theorem sz_or (s : Int) : Bt.Sz s ∨ ¬ Bt.Sz s := Classical.em _

set_option maxHeartbeats 1000000 in
theorem set_in (w : World) (g : Nat) (e : Re) (ss : List Int) (n : Int) (h : Fi w g e ss n) (k : Nat) (hk : k < 16) (x : Int) (hx : U x) (s : Int) (hs : Bt.Sz s) :
    Calls Try.prog 10 #[.pointer (some ⟨g, 0, none⟩), .int .i64 k, .int .u32 x, .int .i64 s] w fun r w' =>
      r = .returned (.int .i64 0) ∧ Fi w' g (e.reg k (pu (e.r.getD k 0) x s)) ss n ∧ Mods (One g) w w' := by
  have c := h.c_r hk
  have f := h.free k
  have hk' : (k : Int) < 16 := by omega
  have HC := Lib.hid (Bt.put_any (e.r.getD k 0) x s hs (h.ok.num k) hx)
  have HP := Lib.hid (show pu (e.r.getD k 0) x s = e.r.getD k 0 - e.r.getD k 0 % Bt.W s + x % Bt.W s from rfl)
  rw [← HP.out] at HC
  have HF := Lib.hid (h.drew.set_r hk (pu_U (e.r.getD k 0) x s hs (h.ok.num k)))
  have HM := Lib.hid ((Mods.refl (One g) w).drew.set (p := ⟨g, k, none⟩) (.int .u32 (pu (e.r.getD k 0) x s)) (.inl rfl))
  have HK := Lib.hid (Bt.mask_any s hs)
  have hm := mask_pos s hs
  generalize pu (e.r.getD k 0) x s = y' at *
  generalize e.r.getD k 0 = y at *
  generalize Bt.W s - 1 = m at *
  clear h hx hs HP
  go_enter Try.func10, Try.ntmps10
  go_wp2_with (first | (go_at_call 30; refine (isreg_in k hk _).mono ?_; rintro _ w' ⟨rfl, rfl⟩) | (go_at_call 31; refine (HK.out _).mono ?_; rintro _ w' ⟨rfl, rfl⟩))
  go_region_with (go_at_call 32; refine (HC.out _).mono ?_; rintro _ w' ⟨rfl, rfl⟩)
  all_goals
    go_wp2
    go_ret
    exact ⟨rfl, HF.out, HM.out⟩
set_option maxHeartbeats 400000 in
theorem set_out (w : World) (g : Nat) (k : Int) (hk : k < 0 ∨ 15 < k) (x s : Int) :
    Calls Try.prog 10 #[.pointer (some ⟨g, 0, none⟩), .int .i64 k, .int .u32 x, .int .i64 s] w fun r w' => r = .returned (.int .i64 1) ∧ w = w' := by
  have HK := Lib.hid hk
  clear hk
  go_enter Try.func10, Try.ntmps10
  go_wp2_with (go_at_call 30; refine (isreg_out k HK.out _).mono ?_; rintro _ w' ⟨rfl, rfl⟩)
  go_ret
  exact ⟨rfl, rfl⟩
set_option maxHeartbeats 400000 in
theorem set_not (w : World) (g : Nat) (k : Nat) (hk : k < 16) (x s : Int) (hs : ¬ Bt.Sz s) :
    Calls Try.prog 10 #[.pointer (some ⟨g, 0, none⟩), .int .i64 k, .int .u32 x, .int .i64 s] w fun r w' => r = .returned (.int .i64 1) ∧ w = w' := by
  have HS := Lib.hid (mask_not s hs)
  clear hs
  go_enter Try.func10, Try.ntmps10
  go_wp2_with (first | (go_at_call 30; refine (isreg_in k hk _).mono ?_; rintro _ w' ⟨rfl, rfl⟩) | (go_at_call 31; refine (HS.out _).mono ?_; rintro _ w' ⟨rfl, rfl⟩))
  go_ret
  exact ⟨rfl, rfl⟩
set_option maxHeartbeats 400000 in
theorem set_nil (w : World) (k x s : Int) :
    Calls Try.prog 10 #[.pointer none, .int .i64 k, .int .u32 x, .int .i64 s] w fun r w' => r = .returned (.int .i64 2) ∧ w = w' := by
  go_enter Try.func10, Try.ntmps10
  go_wp2
  go_ret
  exact ⟨rfl, rfl⟩
end Go.Proofs.Ytgljkadelkglbaa.Cs
