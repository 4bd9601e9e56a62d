/- Contracts of the document's File: Undo. -/
import Derived.Test.YtgljkadelkglbaaHRef1
namespace Go.Proofs.Ytgljkadelkglbaa.Cs
open Go.RowKit Ps Tl

/-- what was stepped of a register -/
def sm : Ps' → Nat → Int
  | [], _ => 0
  | (k, d) :: t, j => (if k = j then d else 0) + sm t j
theorem sm_app (ps : Ps') (k : Nat) (d : Int) (j : Nat) : sm (ps ++ [(k, d)]) j = sm ps j + (if k = j then d else 0) := by
  induction ps with
  | nil => simp [sm]
  | cons q t ih =>
    obtain ⟨a, b⟩ := q
    simp only [List.cons_append, sm, ih]
    omega
def qat (ps : Ps') (i : Nat) : Nat × Int := ps.getD i (0, 0)
theorem fs_at (ps : Ps') (i : Nat) (h : i < ps.length) : (fs ps).getD i 0 = ((qat ps i).1 : Int) := by
  simp [fs, qat, List.getD, h]
theorem sn_at (ps : Ps') (i : Nat) (h : i < ps.length) : (sn ps).getD i 0 = (qat ps i).2 := by
  simp [sn, qat, List.getD, h]
theorem qat_mem (ps : Ps') (i : Nat) (h : i < ps.length) : qat ps i ∈ ps := by
  unfold qat
  rw [List.getD, List.getElem?_eq_getElem h]
  exact List.getElem_mem _
theorem drop_at (ps : Ps') (i : Nat) (h : i < ps.length) : ps.drop i = qat ps i :: ps.drop (i + 1) := by
  rw [List.drop_eq_getElem_cons h]
  simp [qat, List.getD, h]

/-- registers with some steps taken back -/
def Ud (rs R : List Int) (ps : Ps') : Prop := R.length = 16 ∧ ∀ j, j < 16 → R.getD j 0 = (rs.getD j 0 - sm ps j) % 4294967296
theorem Ud.start {rs : List Int} (hl : rs.length = 16) (hu : ∀ i, U (rs.getD i 0)) : Ud rs rs [] := ⟨hl, fun j _ => by
  have := hu j
  unfold U at this
  simp only [sm]
  omega⟩
theorem Ud.step {rs R : List Int} {t : Ps'} {a : Nat} {d : Int} (h : Ud rs R t) : Ud rs (R.set a (sb (R.getD a 0) d)) ((a, d) :: t) :=
  ⟨by simp [h.1], fun j hj => by
    rw [getD_set, h.1]
    by_cases haj : a = j
    · subst haj
      rw [if_pos ⟨rfl, hj⟩, h.2 a hj]
      simp only [sm, if_pos]
      unfold sb
      omega
    · rw [if_neg (by simp [haj]), h.2 j hj]
      simp only [sm, if_neg haj]
      congr 1
      omega⟩

set_option maxRecDepth 100000 in
set_option maxHeartbeats 2000000 in
theorem rundo_any (w : World) (m : Nat) (S : Nat → Prop) (e : Re) (ps : Ps') (h : Rf w m S e ps) (hl : ps.length ≤ 1000) :
    Calls Try.prog 15 #[.pointer (some ⟨m, 0, none⟩)] w fun r w' => r = .returned (.tuple #[]) ∧ ∃ R, Ud e.r R ps ∧ Rf w' m (One m) ⟨R, e.p, e.k, e.u⟩ [] ∧ Step S (One m) w w' := by
  have HF := Lib.hid h
  obtain ⟨A, c, B, q, c26, c27, _⟩ := h.open_
  obtain ⟨n, hn⟩ : ∃ n, ps.length = n := ⟨_, rfl⟩
  have HN := Lib.hid hn
  rw [hn] at c26 c27 hl
  clear h hn c27
  go_enter Try.func15, Try.ntmps15
  go_wp2_with fail
  clear c26
  go_loopw [2] (fun i W => ∃ (k : Nat) (R : List Int), k ≤ n ∧ i = .int .i64 ((k : Int) - 1) ∧ Ud e.r R (ps.drop k) ∧ Rf W m S ⟨R, e.p, e.k, e.u⟩ ps ∧ Step S S w W) (fun i _ => (intOf i + 1).toNat)
  case atStart => exact ⟨n, e.r, Nat.le_refl _, rfl, by rw [← HN.out, List.drop_length]; exact Ud.start HF.out.ok.len HF.out.ok.num, HF.out, step_refl _ _⟩
  case round =>
    obtain ⟨k, R, hk, rfl, hu, hF, hM⟩ := hrel
    have HU := Lib.hid hu
    have HF1 := Lib.hid hF
    have HM1 := Lib.hid hM
    have HI := Lib.hid hF.in_
    clear hu hF hM HF
    by_cases h0 : 0 < k
    · obtain ⟨j, rfl⟩ : ∃ j, k = j + 1 := ⟨k - 1, by omega⟩
      have e1 : ((j + 1 : Nat) : Int) - 1 = j := by omega
      rw [e1]
      clear e1
      obtain ⟨A, c, B, q, c26, c27, hi, hv, _⟩ := HF1.out.open_
      rw [HN.out] at c26 c27
      have hj : j < ps.length := by rw [HN.out]; omega
      obtain ⟨ra, hra⟩ : ∃ r, A = some ⟨r, 0, none⟩ := by
        rcases own_shape hi with ⟨e, h⟩ | ⟨r, cap, e, _⟩
        · rw [fs_length, HN.out] at h; omega
        · injection e with e1 _ _; exact ⟨r, e1⟩
      obtain ⟨rb, hrb⟩ : ∃ r, B = some ⟨r, 0, none⟩ := by
        rcases own_shape hv with ⟨e, h⟩ | ⟨r, cap, e, _⟩
        · rw [sn_length, HN.out] at h; omega
        · injection e with e1 _ _; exact ⟨r, e1⟩
      subst hra hrb
      have ca : wr.cell? ⟨ra, j, none⟩ = some (.int .i64 ((qat ps j).1 : Int)) := by
        rcases own_shape hi with ⟨e, h⟩ | ⟨r, cap, e, _, _, _, hc, _⟩
        · cases e
        · injection e with e1 _ _
          injection e1 with e1
          injection e1 with e1
          subst e1
          exact hc j _ (by rw [ci_get _ _ (by rw [fs_length]; exact hj), fs_at _ _ hj])
      have cb : wr.cell? ⟨rb, j, none⟩ = some (.int .u32 (qat ps j).2) := by
        rcases own_shape hv with ⟨e, h⟩ | ⟨r, cap, e, _, _, _, hc, _⟩
        · cases e
        · injection e with e1 _ _
          injection e1 with e1
          injection e1 with e1
          subst e1
          exact hc j _ (by rw [c1_get _ _ (by rw [sn_length]; exact hj), sn_at _ _ hj])
      obtain ⟨ha, hd⟩ := HF1.out.st _ (qat_mem ps j hj)
      have HQ : Hid (ps.drop j = qat ps j :: ps.drop (j + 1)) := drop_at ps j hj
      generalize qat ps j = qq at *
      obtain ⟨a, d⟩ := qq
      dsimp only at ca cb ha hd
      have ha' : (a : Int) < 16 := by omega
      have cr := HF1.out.c_r ha
      obtain ⟨y0, y1⟩ := HF1.out.ok.num a
      dsimp only at cr y0 y1
      obtain ⟨d0, d1⟩ := hd
      have HA := Lib.hid (show sb (R.getD a 0) d = (R.getD a 0 - d) % 4294967296 from rfl)
      have HV := Lib.hid (HU.out.step (a := a) (d := d))
      have HX := Lib.hid (sb_U (R.getD a 0) d)
      have HE : Hid (∀ y, (Re.mk R e.p e.k e.u).reg a y = ⟨R.set a y, e.p, e.k, e.u⟩) := fun _ => rfl
      have HK := Lib.hid ha
      generalize R.getD a 0 = y at *
      clear hi hv hj ha
      have hjn : (j : Int) < (n : Int) := by omega
      go_wp2_with fail
      go_still_tail 33, (by kernel_rfl)
      change wpList _ _ _ _ _ wr.drew
      have HF2 := Lib.hid HF1.out.drew
      have HM2 := Lib.hid (step_drew HM1.out)
      have cr' : wr.drew.cell? ⟨m, a, none⟩ = some (.int .u32 y) := cr
      clear HF1 HM1 cr ca cb c26 c27
      have f := HF2.out.free a
      generalize wr.drew = v at *
      go_wp2
      rw [show (y - d) % 4294967296 = sb y d from HA.out.symm]
      go_roundw
      case rel => exact ⟨j, R.set a (sb y d), by omega, by go_num, by rw [HQ.out]; exact HV.out, by rw [← HE.out]; exact HF2.out.set_r HK.out HX.out, step_set HM2.out (.inl HI.out) _ _⟩
      case measure => simp [intOf]
    · obtain rfl : k = 0 := by omega
      go_wp2_with fail
      refine (rforget_any _ m S _ ps HF1.out).mono ?_
      rintro _ w2 ⟨rfl, h2, s2⟩
      go_wp2_with fail
      first | go_end0 | (refine bodyPost_ret (results_none rfl _ _ _) rfl ?_)
      exact ⟨rfl, R, HU.out, h2, HM1.out.trans s2⟩
end Go.Proofs.Ytgljkadelkglbaa.Cs
