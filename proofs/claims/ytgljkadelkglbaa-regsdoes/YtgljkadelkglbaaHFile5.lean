/- Contracts of package regs: Put. -/
import Derived.Test.YtgljkadelkglbaaHFile3
namespace Go.Proofs.Ytgljkadelkglbaa.Cs
open Go.RowKit Ps Tl

/-- another status -/
def pt (e : Re) (x : Int) : Re :=
  if bi e.p 24 = bi x 24 then ⟨e.r, x, e.k, e.u⟩ else if bi e.p 24 then ⟨e.r.set 14 e.k, x, e.k, e.r.getD 14 0⟩ else ⟨e.r.set 14 e.u, x, e.r.getD 14 0, e.u⟩

theorem user_as (x : Int) (b : Bool) (hx : U x) (hb : bi x 24 = b) (w : World) :
    Calls Try.prog 35 #[.int .u32 x] w fun e w' => e = .returned (.bool b) ∧ w = w' := hb ▸ user_any x hx w

theorem beside_t (w : World) (g : Nat) :
    Calls Try.prog 36 #[.pointer (some ⟨g, 0, none⟩), .bool true] w fun r w' => r = .returned (.pointer (some ⟨g, 18, none⟩)) ∧ w = w' := beside_any w g true
theorem beside_f (w : World) (g : Nat) :
    Calls Try.prog 36 #[.pointer (some ⟨g, 0, none⟩), .bool false] w fun r w' => r = .returned (.pointer (some ⟨g, 17, none⟩)) ∧ w = w' := beside_any w g false

set_option maxHeartbeats 1000000 in
theorem put_same (w : World) (g : Nat) (e : Re) (ss : List Int) (n : Int) (h : Fi w g e ss n) (x : Int) (hx : U x) (b : Bool) (h1 : bi e.p 24 = b) (h2 : bi x 24 = b) :
    Calls Try.prog 18 #[.pointer (some ⟨g, 0, none⟩), .int .u32 x] w fun r w' => r = .returned (.tuple #[]) ∧ Fi w' g (pt e x) ss n ∧ Mods (One g) w w' := by
  have c := h.c_p
  have f := h.free 16
  have HP := Lib.hid (show pt e x = ⟨e.r, x, e.k, e.u⟩ by unfold pt; rw [h1, h2, if_pos rfl])
  have HF := Lib.hid (h.set_p hx)
  have C1 := Lib.hid (user_as e.p b h.ok.p h1)
  have C2 := Lib.hid (user_as x b hx h2)
  obtain ⟨p, hp⟩ : ∃ p, e.p = p := ⟨_, rfl⟩
  rw [hp] at c C1
  clear h hx h1 h2 hp
  go_enter Try.func18, Try.ntmps18
  go_wp2_with fail
  refine (C1.out _).mono ?_
  rintro _ w' ⟨rfl, rfl⟩
  go_wp2_with fail
  refine (C2.out _).mono ?_
  rintro _ w' ⟨rfl, rfl⟩
  go_wp2_with fail
  first | go_end0 | (refine bodyPost_ret (results_none rfl _ _ _) rfl ?_)
  exact ⟨rfl, by rw [HP.out]; exact HF.out, (Mods.refl _ _).set _ (.inl rfl)⟩

set_option maxHeartbeats 2000000 in
theorem put_down (w : World) (g : Nat) (e : Re) (ss : List Int) (n : Int) (h : Fi w g e ss n) (x : Int) (hx : U x) (h1 : bi e.p 24 = true) (h2 : bi x 24 = false) :
    Calls Try.prog 18 #[.pointer (some ⟨g, 0, none⟩), .int .u32 x] w fun r w' => r = .returned (.tuple #[]) ∧ Fi w' g (pt e x) ss n ∧ Mods (One g) w w' := by
  have c := h.c_p
  have c14 := h.c_r (i := 14) (by omega)
  have ca := h.c_u
  have fa := h.free 18
  have HP := Lib.hid (show pt e x = ⟨e.r.set 14 e.k, x, e.k, e.r.getD 14 0⟩ by unfold pt; rw [h1, h2]; rfl)
  have HX := Lib.hid hx
  have HF := Lib.hid (h.set_u (h.ok.num 14)).drew
  have HM := Lib.hid ((Mods.refl (One g) w).set (p := ⟨g, 18, none⟩) (.int .u32 (e.r.getD 14 0)) (.inl rfl)).drew
  have HK := Lib.hid h.ok.k
  have C1 := Lib.hid (user_as e.p true h.ok.p h1)
  have C2 := Lib.hid (user_as x false hx h2)
  obtain ⟨p, hp⟩ : ∃ p, e.p = p := ⟨_, rfl⟩
  obtain ⟨y, hy⟩ : ∃ y, e.r.getD 14 0 = y := ⟨_, rfl⟩
  rw [hp] at c C1
  rw [hy] at c14 HP HF HM
  clear h hx h1 h2 hp hy
  go_enter Try.func18, Try.ntmps18
  go_wp2_with fail
  refine (C1.out _).mono ?_
  rintro _ w' ⟨rfl, rfl⟩
  go_wp2_with fail
  refine (C2.out _).mono ?_
  rintro _ w' ⟨rfl, rfl⟩
  go_wp2_with fail
  go_region_with (go_at_call 36; refine (beside_t _ g).mono ?_; rintro _ w' ⟨rfl, rfl⟩)
  all_goals
    clear c14 ca fa c
    go_wp2_with fail
    generalize (w.setCell ⟨g, 18, none⟩ (.int .u32 y)).drew = v at *
    have cb := HF.out.c_k
    have c14 := HF.out.c_r (i := 14) (by omega)
    have f14 := HF.out.free 14
    have HF2 := Lib.hid (HF.out.set_r (i := 14) (by omega) HK.out).drew
    have HM2 := Lib.hid (HM.out.set (p := ⟨g, 14, none⟩) (.int .u32 e.k) (.inl rfl)).drew
    clear HF HM
    go_region_with (go_at_call 36; refine (beside_f _ g).mono ?_; rintro _ w' ⟨rfl, rfl⟩)
    all_goals
      clear cb c14 f14
      go_upto_region 5 with fail
      generalize (v.setCell ⟨g, 14, none⟩ (.int .u32 e.k)).drew = v2 at *
      have cp := HF2.out.c_p
      have fp := HF2.out.free 16
      go_wp2
      first | go_end0 | (refine bodyPost_ret (results_none rfl _ _ _) rfl ?_)
      exact ⟨rfl, by rw [HP.out]; exact HF2.out.set_p HX.out, HM2.out.set _ (.inl rfl)⟩

set_option maxHeartbeats 2000000 in
theorem put_up (w : World) (g : Nat) (e : Re) (ss : List Int) (n : Int) (h : Fi w g e ss n) (x : Int) (hx : U x) (h1 : bi e.p 24 = false) (h2 : bi x 24 = true) :
    Calls Try.prog 18 #[.pointer (some ⟨g, 0, none⟩), .int .u32 x] w fun r w' => r = .returned (.tuple #[]) ∧ Fi w' g (pt e x) ss n ∧ Mods (One g) w w' := by
  have c := h.c_p
  have c14 := h.c_r (i := 14) (by omega)
  have ca := h.c_k
  have fa := h.free 17
  have HP := Lib.hid (show pt e x = ⟨e.r.set 14 e.u, x, e.r.getD 14 0, e.u⟩ by unfold pt; rw [h1, h2]; rfl)
  have HX := Lib.hid hx
  have HF := Lib.hid (h.set_k (h.ok.num 14)).drew
  have HM := Lib.hid ((Mods.refl (One g) w).set (p := ⟨g, 17, none⟩) (.int .u32 (e.r.getD 14 0)) (.inl rfl)).drew
  have HK := Lib.hid h.ok.u
  have C1 := Lib.hid (user_as e.p false h.ok.p h1)
  have C2 := Lib.hid (user_as x true hx h2)
  obtain ⟨p, hp⟩ : ∃ p, e.p = p := ⟨_, rfl⟩
  obtain ⟨y, hy⟩ : ∃ y, e.r.getD 14 0 = y := ⟨_, rfl⟩
  rw [hp] at c C1
  rw [hy] at c14 HP HF HM
  clear h hx h1 h2 hp hy
  go_enter Try.func18, Try.ntmps18
  go_wp2_with fail
  refine (C1.out _).mono ?_
  rintro _ w' ⟨rfl, rfl⟩
  go_wp2_with fail
  refine (C2.out _).mono ?_
  rintro _ w' ⟨rfl, rfl⟩
  go_wp2_with fail
  go_region_with (go_at_call 36; refine (beside_f _ g).mono ?_; rintro _ w' ⟨rfl, rfl⟩)
  all_goals
    clear c14 ca fa c
    go_wp2_with fail
    generalize (w.setCell ⟨g, 17, none⟩ (.int .u32 y)).drew = v at *
    have cb := HF.out.c_u
    have c14 := HF.out.c_r (i := 14) (by omega)
    have f14 := HF.out.free 14
    have HF2 := Lib.hid (HF.out.set_r (i := 14) (by omega) HK.out).drew
    have HM2 := Lib.hid (HM.out.set (p := ⟨g, 14, none⟩) (.int .u32 e.u) (.inl rfl)).drew
    clear HF HM
    go_region_with (go_at_call 36; refine (beside_t _ g).mono ?_; rintro _ w' ⟨rfl, rfl⟩)
    all_goals
      clear cb c14 f14
      go_upto_region 5 with fail
      generalize (v.setCell ⟨g, 14, none⟩ (.int .u32 e.u)).drew = v2 at *
      have cp := HF2.out.c_p
      have fp := HF2.out.free 16
      go_wp2
      first | go_end0 | (refine bodyPost_ret (results_none rfl _ _ _) rfl ?_)
      exact ⟨rfl, by rw [HP.out]; exact HF2.out.set_p HX.out, HM2.out.set _ (.inl rfl)⟩

theorem put_any (w : World) (g : Nat) (e : Re) (ss : List Int) (n : Int) (h : Fi w g e ss n) (x : Int) (hx : U x) :
    Calls Try.prog 18 #[.pointer (some ⟨g, 0, none⟩), .int .u32 x] w fun r w' => r = .returned (.tuple #[]) ∧ Fi w' g (pt e x) ss n ∧ Mods (One g) w w' := by
  cases h1 : bi e.p 24 <;> cases h2 : bi x 24
  · exact put_same w g e ss n h x hx _ h1 h2
  · exact put_up w g e ss n h x hx h1 h2
  · exact put_down w g e ss n h x hx h1 h2
  · exact put_same w g e ss n h x hx _ h1 h2
end Go.Proofs.Ytgljkadelkglbaa.Cs
