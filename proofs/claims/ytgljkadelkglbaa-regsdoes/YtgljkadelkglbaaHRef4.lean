/- Contracts of the document's File: Put, Stack, SetStack, Load. -/
import Derived.Test.YtgljkadelkglbaaHRef1
namespace Go.Proofs.Ytgljkadelkglbaa.Cs
open Go.RowKit Ps Tl

/-- who runs, of a number -/
theorem of_user (x : Int) (hx : U x) (b : Bool) (hb : bi x 24 = b) (w : World) :
    Calls Try.prog 38 #[.int .u32 x] w fun r w' => (∃ b3 b2 b1 b0 p s b27 q, r = .returned (.agg #[.bool b3, .bool b2, .bool b1, .bool b0, .int .i64 p, .bool s, .bool b, .bool b27, .bool q])) ∧ Below w.heap.size w w' :=
  (of_any x hx w).mono fun _ _ h => ⟨⟨_, _, _, _, _, _, _, _, hb ▸ h.1⟩, h.2⟩
theorem ruser_as (w : World) (m : Nat) (S : Nat → Prop) (e : Re) (ps : Ps') (h : Rf w m S e ps) (b : Bool) (hb : bi e.p 24 = b) :
    Calls Try.prog 37 #[.pointer (some ⟨m, 0, none⟩)] w fun r w' => r = .returned (.bool b) ∧ Below w.heap.size w w' := hb ▸ ruser_any w m S e ps h

set_option maxRecDepth 100000 in
set_option maxHeartbeats 2000000 in
theorem rput_uu (w : World) (m : Nat) (S : Nat → Prop) (e : Re) (ps : Ps') (h : Rf w m S e ps) (x : Int) (hx : U x) (h1 : bi e.p 24 = true) (h2 : bi x 24 = true) :
    Calls Try.prog 19 #[.pointer (some ⟨m, 0, none⟩), .int .u32 x] w fun r w' => r = .returned (.tuple #[]) ∧ Rf w' m S (pt e x) ps ∧ Step S S w w' := by
  have HX := Lib.hid hx
  have HI := Lib.hid h.in_
  have C1 := Lib.hid (ruser_as w m S e ps h true h1)
  have C2 := Lib.hid (of_user x hx true h2)
  have HP := Lib.hid (show pt e x = ⟨e.r, x, e.k, e.u⟩ by unfold pt; rw [h1, h2]; rfl)
  have HF := Lib.hid h
  clear h hx h1 h2
  go_enter Try.func19, Try.ntmps19
  go_wp2_with fail
  refine C1.out.mono ?_
  rintro _ w1 ⟨rfl, b1⟩
  go_wp2_with fail
  refine (C2.out _).mono ?_
  rintro _ w2 ⟨⟨b3, b2', b1', b0, p, s, b27, q, rfl⟩, b2⟩
  have HF2 := Lib.hid (HF.out.below (below2 b1 b2))
  have HM2 := Lib.hid (Step.of_below (S := S) (below2 b1 b2))
  clear b1 b2 HF C1 C2
  have i3 := fld3 (.bool b3) (.bool b2') (.bool b1') (.bool b0) (.int .i64 p) (.bool s) (.bool true) (.bool b27) (.bool q)
  have cp := HF2.out.c_p
  have fp := HF2.out.free 16
  go_wp2_with fail
  first | go_end0 | (refine bodyPost_ret (results_none rfl _ _ _) rfl ?_)
  exact ⟨rfl, by rw [HP.out]; exact HF2.out.set_p HX.out, step_set HM2.out (.inl HI.out) _ _⟩

set_option maxRecDepth 100000 in
set_option maxHeartbeats 2000000 in
theorem rput_kk (w : World) (m : Nat) (S : Nat → Prop) (e : Re) (ps : Ps') (h : Rf w m S e ps) (x : Int) (hx : U x) (h1 : bi e.p 24 = false) (h2 : bi x 24 = false) :
    Calls Try.prog 19 #[.pointer (some ⟨m, 0, none⟩), .int .u32 x] w fun r w' => r = .returned (.tuple #[]) ∧ Rf w' m S (pt e x) ps ∧ Step S S w w' := by
  have HX := Lib.hid hx
  have HI := Lib.hid h.in_
  have C1 := Lib.hid (ruser_as w m S e ps h false h1)
  have C2 := Lib.hid (of_user x hx false h2)
  have HP := Lib.hid (show pt e x = ⟨e.r, x, e.k, e.u⟩ by unfold pt; rw [h1, h2]; rfl)
  have HF := Lib.hid h
  clear h hx h1 h2
  go_enter Try.func19, Try.ntmps19
  go_wp2_with fail
  refine C1.out.mono ?_
  rintro _ w1 ⟨rfl, b1⟩
  go_wp2_with fail
  refine (C2.out _).mono ?_
  rintro _ w2 ⟨⟨b3, b2', b1', b0, p, s, b27, q, rfl⟩, b2⟩
  have HF2 := Lib.hid (HF.out.below (below2 b1 b2))
  have HM2 := Lib.hid (Step.of_below (S := S) (below2 b1 b2))
  clear b1 b2 HF C1 C2
  have i3 := fld3 (.bool b3) (.bool b2') (.bool b1') (.bool b0) (.int .i64 p) (.bool s) (.bool false) (.bool b27) (.bool q)
  have cp := HF2.out.c_p
  have fp := HF2.out.free 16
  go_wp2_with fail
  first | go_end0 | (refine bodyPost_ret (results_none rfl _ _ _) rfl ?_)
  exact ⟨rfl, by rw [HP.out]; exact HF2.out.set_p HX.out, step_set HM2.out (.inl HI.out) _ _⟩

set_option maxRecDepth 100000 in
set_option maxHeartbeats 2000000 in
theorem rput_down (w : World) (m : Nat) (S : Nat → Prop) (e : Re) (ps : Ps') (h : Rf w m S e ps) (x : Int) (hx : U x) (h1 : bi e.p 24 = true) (h2 : bi x 24 = false) :
    Calls Try.prog 19 #[.pointer (some ⟨m, 0, none⟩), .int .u32 x] w fun r w' => r = .returned (.tuple #[]) ∧ Rf w' m S (pt e x) ps ∧ Step S S w w' := by
  have HX := Lib.hid hx
  have HI := Lib.hid h.in_
  have C1 := Lib.hid (ruser_as w m S e ps h true h1)
  have C2 := Lib.hid (of_user x hx false h2)
  have HP := Lib.hid (show pt e x = ⟨e.r.set 14 e.k, x, e.k, e.r.getD 14 0⟩ by unfold pt; rw [h1, h2]; rfl)
  have HF := Lib.hid h
  clear h hx h1 h2
  go_enter Try.func19, Try.ntmps19
  go_wp2_with fail
  refine C1.out.mono ?_
  rintro _ w1 ⟨rfl, b1⟩
  go_wp2_with fail
  refine (C2.out _).mono ?_
  rintro _ w2 ⟨⟨b3, b2', b1', b0, p, s, b27, q, rfl⟩, b2⟩
  have HF2 := Lib.hid (HF.out.below (below2 b1 b2))
  have HM2 := Lib.hid (Step.of_below (S := S) (below2 b1 b2))
  clear b1 b2 HF C1 C2
  have i3 := fld3 (.bool b3) (.bool b2') (.bool b1') (.bool b0) (.int .i64 p) (.bool s) (.bool false) (.bool b27) (.bool q)
  have ca := HF2.out.c_u
  have c14 := HF2.out.c_r (i := 14) (by omega)
  have fa := HF2.out.free 18
  obtain ⟨y, hy⟩ : ∃ y, e.r.getD 14 0 = y := ⟨_, rfl⟩
  have HY : Hid (U y) := hy ▸ HF2.out.ok.num 14
  rw [hy] at c14 HP
  go_upto_region 4 with fail
  have HF3 := Lib.hid (HF2.out.set_u HY.out)
  have HM3 := Lib.hid (step_set HM2.out (.inl HI.out) 18 (.int .u32 y))
  clear ca c14 fa HF2 HM2 hy
  generalize w2.setCell ⟨m, 18, none⟩ (.int .u32 y) = w3 at *
  have cb := HF3.out.c_k
  have HK := Lib.hid HF3.out.ok.k
  dsimp only at cb HK
  go_still_tail 10, (by kernel_rfl)
  change wpList _ _ _ _ _ w3.drew
  have HF4 := Lib.hid HF3.out.drew
  have HM4 := Lib.hid (step_drew HM3.out)
  have c14 := HF4.out.c_r (i := 14) (by omega)
  have f14 := HF4.out.free 14
  clear cb HF3 HM3
  generalize w3.drew = w4 at *
  go_upto_region 8 with fail
  have HF5 := Lib.hid (HF4.out.set_r (i := 14) (by omega) HK.out)
  have HM5 := Lib.hid (step_set HM4.out (.inl HI.out) 14 (.int .u32 e.k))
  clear c14 f14 HF4 HM4
  generalize w4.setCell ⟨m, 14, none⟩ (.int .u32 e.k) = w5 at *
  have cp := HF5.out.c_p
  have fp := HF5.out.free 16
  go_wp2_with fail
  first | go_end0 | (refine bodyPost_ret (results_none rfl _ _ _) rfl ?_)
  exact ⟨rfl, by rw [HP.out]; exact HF5.out.set_p HX.out, step_set HM5.out (.inl HI.out) _ _⟩

set_option maxRecDepth 100000 in
set_option maxHeartbeats 2000000 in
theorem rput_up (w : World) (m : Nat) (S : Nat → Prop) (e : Re) (ps : Ps') (h : Rf w m S e ps) (x : Int) (hx : U x) (h1 : bi e.p 24 = false) (h2 : bi x 24 = true) :
    Calls Try.prog 19 #[.pointer (some ⟨m, 0, none⟩), .int .u32 x] w fun r w' => r = .returned (.tuple #[]) ∧ Rf w' m S (pt e x) ps ∧ Step S S w w' := by
  have HX := Lib.hid hx
  have HI := Lib.hid h.in_
  have C1 := Lib.hid (ruser_as w m S e ps h false h1)
  have C2 := Lib.hid (of_user x hx true h2)
  have HP := Lib.hid (show pt e x = ⟨e.r.set 14 e.u, x, e.r.getD 14 0, e.u⟩ by unfold pt; rw [h1, h2]; rfl)
  have HF := Lib.hid h
  clear h hx h1 h2
  go_enter Try.func19, Try.ntmps19
  go_wp2_with fail
  refine C1.out.mono ?_
  rintro _ w1 ⟨rfl, b1⟩
  go_wp2_with fail
  refine (C2.out _).mono ?_
  rintro _ w2 ⟨⟨b3, b2', b1', b0, p, s, b27, q, rfl⟩, b2⟩
  have HF2 := Lib.hid (HF.out.below (below2 b1 b2))
  have HM2 := Lib.hid (Step.of_below (S := S) (below2 b1 b2))
  clear b1 b2 HF C1 C2
  have i3 := fld3 (.bool b3) (.bool b2') (.bool b1') (.bool b0) (.int .i64 p) (.bool s) (.bool true) (.bool b27) (.bool q)
  have ca := HF2.out.c_k
  have c14 := HF2.out.c_r (i := 14) (by omega)
  have fa := HF2.out.free 17
  obtain ⟨y, hy⟩ : ∃ y, e.r.getD 14 0 = y := ⟨_, rfl⟩
  have HY : Hid (U y) := hy ▸ HF2.out.ok.num 14
  rw [hy] at c14 HP
  go_upto_region 7 with fail
  have HF3 := Lib.hid (HF2.out.set_k HY.out)
  have HM3 := Lib.hid (step_set HM2.out (.inl HI.out) 17 (.int .u32 y))
  clear ca c14 fa HF2 HM2 hy
  generalize w2.setCell ⟨m, 17, none⟩ (.int .u32 y) = w3 at *
  have cb := HF3.out.c_u
  have HK := Lib.hid HF3.out.ok.u
  dsimp only at cb HK
  go_still_tail 10, (by kernel_rfl)
  change wpList _ _ _ _ _ w3.drew
  have HF4 := Lib.hid HF3.out.drew
  have HM4 := Lib.hid (step_drew HM3.out)
  have c14 := HF4.out.c_r (i := 14) (by omega)
  have f14 := HF4.out.free 14
  clear cb HF3 HM3
  generalize w3.drew = w4 at *
  go_upto_region 8 with fail
  have HF5 := Lib.hid (HF4.out.set_r (i := 14) (by omega) HK.out)
  have HM5 := Lib.hid (step_set HM4.out (.inl HI.out) 14 (.int .u32 e.u))
  clear c14 f14 HF4 HM4
  generalize w4.setCell ⟨m, 14, none⟩ (.int .u32 e.u) = w5 at *
  have cp := HF5.out.c_p
  have fp := HF5.out.free 16
  go_wp2_with fail
  first | go_end0 | (refine bodyPost_ret (results_none rfl _ _ _) rfl ?_)
  exact ⟨rfl, by rw [HP.out]; exact HF5.out.set_p HX.out, step_set HM5.out (.inl HI.out) _ _⟩

set_option maxRecDepth 100000 in
set_option maxHeartbeats 2000000 in
theorem rput_any (w : World) (m : Nat) (S : Nat → Prop) (e : Re) (ps : Ps') (h : Rf w m S e ps) (x : Int) (hx : U x) :
    Calls Try.prog 19 #[.pointer (some ⟨m, 0, none⟩), .int .u32 x] w fun r w' => r = .returned (.tuple #[]) ∧ Rf w' m S (pt e x) ps ∧ Step S S w w' := by
  cases h1 : bi e.p 24 <;> cases h2 : bi x 24
  · exact rput_kk w m S e ps h x hx h1 h2
  · exact rput_up w m S e ps h x hx h1 h2
  · exact rput_down w m S e ps h x hx h1 h2
  · exact rput_uu w m S e ps h x hx h1 h2
end Go.Proofs.Ytgljkadelkglbaa.Cs
