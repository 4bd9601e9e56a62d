/- Contracts of the document's File: user, Set, Step, Forget. -/
import Derived.Test.YtgljkadelkglbaaHRMem
namespace Go.Proofs.Ytgljkadelkglbaa.Cs
open Go.RowKit Ps Tl

theorem fld3 (b3 b2 b1 b0 : Value) (p s u b27 r : Value) : ∀ w, (Instr.field 67 (.agg #[b3, b2, b1, b0, p, s, u, b27, r]) 3).run Try.prog w = .ok u w := fun _ => by kernel_rfl

set_option maxHeartbeats 1000000 in
theorem ruser_any (w : World) (m : Nat) (S : Nat → Prop) (e : Re) (ps : Ps') (h : Rf w m S e ps) :
    Calls Try.prog 37 #[.pointer (some ⟨m, 0, none⟩)] w fun r w' => r = .returned (.bool (bi e.p 24)) ∧ Below w.heap.size w w' := by
  have c := h.c_p
  have C := Lib.hid (of_any e.p h.ok.p)
  generalize e.p = x at *
  generalize ip x = p at *
  generalize rk x 32 = r at *
  generalize bi x 24 = u at *
  generalize bi x 22 = s at *
  generalize bi x 0 = b0 at *
  generalize bi x 1 = b1 at *
  generalize bi x 2 = b2 at *
  generalize bi x 3 = b3 at *
  generalize bi x 27 = b27 at *
  have i3 := fld3 (.bool b3) (.bool b2) (.bool b1) (.bool b0) (.int .i64 p) (.bool s) (.bool u) (.bool b27) (.bool r)
  clear h
  go_enter Try.func37, Try.ntmps37
  go_wp2_with fail
  refine (C.out _).mono ?_
  rintro _ w1 ⟨rfl, hb1⟩
  go_wp2
  go_ret
  exact ⟨rfl, hb1⟩

set_option maxHeartbeats 1000000 in
theorem rset_in (w : World) (m : Nat) (S : Nat → Prop) (e : Re) (ps : Ps') (h : Rf w m S e ps) (k : Nat) (hk : k < 16) (x : Int) (hx : U x) (s : Int) (hs : Bt.Sz s) :
    Calls Try.prog 11 #[.pointer (some ⟨m, 0, none⟩), .int .i64 k, .int .u32 x, .int .i64 s] w fun r w' =>
      r = .returned (.int .i64 0) ∧ Rf w' m S (e.reg k (pu (e.r.getD k 0) x s)) ps ∧ Step S S w w' := by
  have c := h.c_r hk
  have f := h.free k
  have hk' : (k : Int) < 16 := by omega
  have hk0 : ¬ (k : Int) < 0 := by omega
  have hk1 : ¬ (15 : Int) < (k : Int) := by omega
  have HC := Lib.hid (Bt.rput_any (e.r.getD k 0) x s hs (h.ok.num k) hx)
  have HP := Lib.hid (show pu (e.r.getD k 0) x s = e.r.getD k 0 - e.r.getD k 0 % Bt.W s + x % Bt.W s from rfl)
  rw [← HP.out] at HC
  have HF := Lib.hid (h.set_r hk (pu_U (e.r.getD k 0) x s hs (h.ok.num k))).drew
  have HM := Lib.hid (step_drew (h.step_set k (.int .u32 (pu (e.r.getD k 0) x s))))
  have HK := Lib.hid (Bt.size_any s hs)
  generalize pu (e.r.getD k 0) x s = y' at *
  generalize e.r.getD k 0 = y at *
  clear h hx hs HP
  go_enter Try.func11, Try.ntmps11
  go_wp2_with (go_at_call 33; refine (HK.out _).mono ?_; rintro _ w' ⟨rfl, rfl⟩)
  go_region_with (go_at_call 34; refine (HC.out _).mono ?_; rintro _ w' ⟨rfl, rfl⟩)
  all_goals
    go_wp2
    go_ret
    exact ⟨rfl, HF.out, HM.out⟩
set_option maxHeartbeats 400000 in
theorem rset_out (w : World) (m : Nat) (k : Int) (hk : k < 0 ∨ 15 < k) (x s : Int) :
    Calls Try.prog 11 #[.pointer (some ⟨m, 0, none⟩), .int .i64 k, .int .u32 x, .int .i64 s] w fun r w' => r = .returned (.int .i64 1) ∧ w = w' := by
  by_cases h0 : k < 0
  · clear hk
    go_enter Try.func11, Try.ntmps11
    go_wp2
    go_ret
    exact ⟨rfl, rfl⟩
  · have h1 : 15 < k := by omega
    clear hk
    go_enter Try.func11, Try.ntmps11
    go_wp2
    go_ret
    exact ⟨rfl, rfl⟩
set_option maxHeartbeats 400000 in
theorem rset_not (w : World) (m : Nat) (k : Nat) (hk : k < 16) (x s : Int) (hs : ¬ Bt.Sz s) :
    Calls Try.prog 11 #[.pointer (some ⟨m, 0, none⟩), .int .i64 k, .int .u32 x, .int .i64 s] w fun r w' => r = .returned (.int .i64 1) ∧ w = w' := by
  have HS := Lib.hid (Bt.size_not s hs)
  have hk0 : ¬ (k : Int) < 0 := by omega
  have hk1 : ¬ (15 : Int) < (k : Int) := by omega
  clear hs
  go_enter Try.func11, Try.ntmps11
  go_wp2_with (go_at_call 33; refine (HS.out _).mono ?_; rintro _ w' ⟨rfl, rfl⟩)
  go_ret
  exact ⟨rfl, rfl⟩
set_option maxHeartbeats 400000 in
theorem rstep_out (w : World) (m : Nat) (k : Int) (hk : k < 0 ∨ 15 < k) (d : Int) :
    Calls Try.prog 13 #[.pointer (some ⟨m, 0, none⟩), .int .i64 k, .int .u32 d] w fun r w' => r = .returned (.int .i64 1) ∧ w = w' := by
  by_cases h0 : k < 0
  · clear hk
    go_enter Try.func13, Try.ntmps13
    go_wp2
    go_ret
    exact ⟨rfl, rfl⟩
  · have h1 : 15 < k := by omega
    clear hk
    go_enter Try.func13, Try.ntmps13
    go_wp2
    go_ret
    exact ⟨rfl, rfl⟩

theorem rnil (w : World) (t k : Nat) : w.ownsRow 0 t k (.slice none 0 0) 0 [] := ⟨by simp, .inl ⟨rfl, rfl⟩⟩
set_option maxHeartbeats 400000 in
theorem rforget_any (w : World) (m : Nat) (S : Nat → Prop) (e : Re) (ps : Ps') (h : Rf w m S e ps) :
    Calls Try.prog 17 #[.pointer (some ⟨m, 0, none⟩)] w fun r w' => r = .returned (.tuple #[]) ∧ Rf w' m (One m) e [] ∧ Step S (One m) w w' := by
  obtain ⟨A, c, B, d, c26, c27, _, _, hb, _, _, _, hS⟩ := h.open_
  have f := h.free
  have HB := Lib.hid hb
  have HS := Lib.hid h.in_
  have HO := Lib.hid h.ok
  clear h hb hS
  go_enter Try.func17, Try.ntmps17
  go_wp2
  go_end0
  have hS : ∀ k, One m k ↔ (k = m ∨ Bl (.slice none 0 0) k ∨ Bl (.slice none 0 0) k) := fun k => ⟨fun h => .inl h, fun h => by
    rcases h with h | h | h
    · exact h
    · cases h
    · cases h⟩
  refine ⟨rfl, ⟨⟨.slice none 0 0, .slice none 0 0, ?_, rnil _ _ _, rnil _ _ _, fun _ h => (by cases h), fun h => (by cases h), fun h => (by cases h), hS⟩, HO.out, fun _ h => (by cases h)⟩, ?_, ?_⟩
  · have k1 := (HB.out.set (19 + 7) (.slice none 0 0)).set (19 + 8) (.slice none 0 0)
    rw [Re.set_t HO.out, Re.set_t HO.out] at k1
    exact k1
  · exact ((Mods.refl _ _).set _ (.inl HS.out)).set _ (.inl HS.out)
  · intro k hk
    exact .inl (hk ▸ HS.out)
end Go.Proofs.Ytgljkadelkglbaa.Cs
