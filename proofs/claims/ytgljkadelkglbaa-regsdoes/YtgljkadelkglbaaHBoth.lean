/- Program and document side by side: one call done by both. -/
import Derived.Test.YtgljkadelkglbaaHSame
import Derived.Test.YtgljkadelkglbaaHCls
namespace Go.Proofs.Ytgljkadelkglbaa.Cs
open Go.RowKit Ps Tl

/-- Block g is a File with these steps. -/
def Pf (w : World) (g : Nat) (e : Re) (ps : Ps') : Prop := ∃ ss, Fi w g e ss ps.length ∧ ∀ j, j < 16 → ss.getD j 0 = sm ps j % 4294967296
theorem Pf.fi {w : World} {g : Nat} {e : Re} {ps : Ps'} (h : Pf w g e ps) : ∃ ss, Fi w g e ss ps.length := by obtain ⟨ss, h, _⟩ := h; exact ⟨ss, h⟩
theorem Pf.ok {w : World} {g : Nat} {e : Re} {ps : Ps'} (h : Pf w g e ps) : e.Ok := by obtain ⟨ss, h, _⟩ := h; exact h.ok
theorem Pf.lt {w : World} {g : Nat} {e : Re} {ps : Ps'} (h : Pf w g e ps) : g < w.heap.size := by obtain ⟨ss, h, _⟩ := h; exact h.bk.lt
theorem Pf.mods {w w' : World} {g : Nat} {e : Re} {ps : Ps'} {S : Nat → Prop} (h : Pf w g e ps) (m : Mods S w w') (hs : ¬ S g) : Pf w' g e ps := by obtain ⟨ss, h, k⟩ := h; exact ⟨ss, h.mods m hs, k⟩
theorem Pf.below {w w' : World} {g : Nat} {e : Re} {ps : Ps'} (h : Pf w g e ps) (m : Below w.heap.size w w') : Pf w' g e ps := by obtain ⟨ss, h, k⟩ := h; exact ⟨ss, h.below m, k⟩
theorem Pf.none {w : World} {g : Nat} {e : Re} (h : Fi w g e zs 0) : Pf w g e [] := ⟨zs, h, fun j _ => by rw [zs_get]; rfl⟩

/-- a call of the program's File, and of the document's -/
def Dp (f : Nat) (rest : List Value) (g : Nat) (e e' : Re) (ps ps' : Ps') (v : Value) : Prop :=
  ∀ w, Pf w g e ps → Calls Try.prog f (Value.pointer (some ⟨g, 0, none⟩) :: rest).toArray w fun r w' => r = .returned v ∧ Pf w' g e' ps' ∧ Mods (One g) w w'
def Dr (f : Nat) (rest : List Value) (m : Nat) (e e' : Re) (ps ps' : Ps') (v : Value) : Prop :=
  ∀ w S, Rf w m S e ps → Calls Try.prog f (Value.pointer (some ⟨m, 0, none⟩) :: rest).toArray w fun r w' => r = .returned v ∧ ∃ S', Rf w' m S' e' ps' ∧ Step S S' w w'

theorem set_both (e : Re) (N X Z : Int) (hX : U X) : ∃ (e' : Re) (v : Int), ∀ (g m : Nat) (ps : Ps'), Dp 10 [.int .i64 N, .int .u32 X, .int .i64 Z] g e e' ps ps (.int .i64 v) ∧ Dr 11 [.int .i64 N, .int .u32 X, .int .i64 Z] m e e' ps ps (.int .i64 v) := by
  by_cases hn : N < 0 ∨ 15 < N
  · exact ⟨e, 1, fun g m ps => ⟨fun w h => (set_out w g N hn X Z).mono fun _ _ k => ⟨k.1, k.2 ▸ h, k.2 ▸ Mods.refl _ _⟩, fun w S h => (rset_out w m N hn X Z).mono fun _ _ k => ⟨k.1, S, k.2 ▸ h, k.2 ▸ step_refl _ _⟩⟩⟩
  · obtain ⟨j, rfl⟩ := Int.eq_ofNat_of_zero_le (show 0 ≤ N by omega)
    have hj : j < 16 := by omega
    rcases sz_or Z with hz | hz
    · refine ⟨_, 0, fun g m ps => ⟨fun w h => ?_, fun w S h => (rset_in w m S e ps h j hj X hX Z hz).mono fun _ _ k => ⟨k.1, S, k.2.1, k.2.2⟩⟩⟩
      obtain ⟨ss, h, hr⟩ := h
      exact (set_in w g e ss _ h j hj X hX Z hz).mono fun _ _ k => ⟨k.1, ⟨ss, k.2.1, hr⟩, k.2.2⟩
    · exact ⟨e, 1, fun g m ps => ⟨fun w h => (set_not w g j hj X Z hz).mono fun _ _ k => ⟨k.1, k.2 ▸ h, k.2 ▸ Mods.refl _ _⟩, fun w S h => (rset_not w m j hj X Z hz).mono fun _ _ k => ⟨k.1, S, k.2 ▸ h, k.2 ▸ step_refl _ _⟩⟩⟩

theorem step_both (e : Re) (ps : Ps') (hl : ps.length ≤ 80) (N X : Int) (hX : U X) : ∃ (e' : Re) (ps' : Ps') (v : Int), ps'.length ≤ ps.length + 1 ∧ ∀ (g m : Nat), Dp 12 [.int .i64 N, .int .u32 X] g e e' ps ps' (.int .i64 v) ∧ Dr 13 [.int .i64 N, .int .u32 X] m e e' ps ps' (.int .i64 v) := by
  by_cases hn : N < 0 ∨ 15 < N
  · exact ⟨e, ps, 1, Nat.le_succ _, fun g m => ⟨fun w h => (step_out w g N hn X).mono fun _ _ k => ⟨k.1, k.2 ▸ h, k.2 ▸ Mods.refl _ _⟩, fun w S h => (rstep_out w m N hn X).mono fun _ _ k => ⟨k.1, S, k.2 ▸ h, k.2 ▸ step_refl _ _⟩⟩⟩
  · obtain ⟨j, rfl⟩ := Int.eq_ofNat_of_zero_le (show 0 ≤ N by omega)
    have hj : j < 16 := by omega
    refine ⟨e.reg j (ad (e.r.getD j 0) X), ps ++ [(j, X)], 0, by simp, fun g m => ⟨fun w h => ?_, fun w S h => (rstep_in w m S e ps h j hj X hX (by omega)).mono fun _ _ k => ⟨k.1, k.2⟩⟩⟩
    obtain ⟨ss, h, hr⟩ := h
    refine (step_in w g e ss _ h j hj X hX (by omega) (by omega)).mono fun _ w' k => ⟨k.1, ⟨ss.set j (ad (ss.getD j 0) X), ?_, fun i hi => ?_⟩, k.2.2⟩
    · have := k.2.1
      rw [List.length_append]
      exact this
    · rw [getD_set, h.sl, sm_app]
      by_cases hij : j = i
      · subst hij
        rw [if_pos ⟨rfl, hi⟩, if_pos rfl]
        unfold ad
        rw [hr j hi]
        omega
      · rw [if_neg (by simp [hij]), if_neg hij, hr i hi, Int.add_zero]

/-- registers with all steps taken back -/
def ub (rs : List Int) (ps : Ps') : List Int := (List.range 16).map fun j => (rs.getD j 0 - sm ps j) % 4294967296
theorem ub_of {rs R : List Int} {ps : Ps'} (hl : R.length = 16) (h : ∀ j, j < 16 → R.getD j 0 = (rs.getD j 0 - sm ps j) % 4294967296) : R = ub rs ps := by
  refine list_same (by simp [ub, hl]) (fun j => ?_)
  by_cases hj : j < 16
  · rw [h j hj]; simp [ub, List.getD, hj]
  · have h2 : (ub rs ps).length ≤ j := by simp [ub]; omega
    simp only [List.getD, List.getElem?_eq_none (show R.length ≤ j by omega), List.getElem?_eq_none h2]
theorem undo_both (e : Re) (ps : Ps') (hl : ps.length ≤ 80) : ∀ (g m : Nat), Dp 14 [] g e ⟨ub e.r ps, e.p, e.k, e.u⟩ ps [] (.tuple #[]) ∧ Dr 15 [] m e ⟨ub e.r ps, e.p, e.k, e.u⟩ ps [] (.tuple #[]) := by
  refine fun g m => ⟨fun w h => ?_, fun w S h => (rundo_any w m S e ps h (by omega)).mono fun _ _ k => ⟨k.1, ?_⟩⟩
  · obtain ⟨ss, h, hr⟩ := h
    refine (undo_any w g e ss _ h).mono fun _ w' k => ⟨k.1, ?_, k.2.2⟩
    rw [← ub_of (R := ud e.r ss 16) (by rw [ud_length, h.ok.len]) (fun j hj => by rw [ud_at _ _ _ _ (by rw [h.ok.len]; exact hj), if_pos hj, hr j hj]; unfold sb; omega)]
    exact Pf.none k.2.1
  · obtain ⟨_, R, hu, h2, s2⟩ := k
    rw [← ub_of hu.1 hu.2]
    exact ⟨_, h2, s2⟩
theorem forget_both (e : Re) (ps : Ps') : ∀ (g m : Nat), Dp 16 [] g e e ps [] (.tuple #[]) ∧ Dr 17 [] m e e ps [] (.tuple #[]) := by
  refine fun g m => ⟨fun w h => ?_, fun w S h => (rforget_any w m S e ps h).mono fun _ _ k => ⟨k.1, _, k.2⟩⟩
  obtain ⟨ss, h, _⟩ := h
  exact (forget_any w g e ss _ h).mono fun _ w' k => ⟨k.1, Pf.none k.2.1, k.2.2⟩
theorem put_both (e : Re) (ps : Ps') (X : Int) (hX : U X) : ∀ (g m : Nat), Dp 18 [.int .u32 X] g e (pt e X) ps ps (.tuple #[]) ∧ Dr 19 [.int .u32 X] m e (pt e X) ps ps (.tuple #[]) := by
  refine fun g m => ⟨fun w h => ?_, fun w S h => (rput_any w m S e ps h X hX).mono fun _ _ k => ⟨k.1, _, k.2⟩⟩
  obtain ⟨ss, h, hr⟩ := h
  exact (put_any w g e ss _ h X hX).mono fun _ w' k => ⟨k.1, ⟨ss, k.2.1, hr⟩, k.2.2⟩
theorem setstack_both (e : Re) (ps : Ps') (V : Bool) (X : Int) (hX : U X) : ∀ (g m : Nat), Dp 20 [.bool V, .int .u32 X] g e (e.to (pe e.p V) X) ps ps (.tuple #[]) ∧ Dr 21 [.bool V, .int .u32 X] m e (e.to (pe e.p V) X) ps ps (.tuple #[]) := by
  refine fun g m => ⟨fun w h => ?_, fun w S h => (rsetstack_any w m S e ps h V X hX).mono fun _ _ k => ⟨k.1, _, k.2⟩⟩
  obtain ⟨ss, h, hr⟩ := h
  exact (setstack_any w g e ss _ h V X hX).mono fun _ w' k => ⟨k.1, ⟨ss, k.2.1, hr⟩, k.2.2⟩
theorem load_both (e : Re) (ps : Ps') (s : Re) (x : Xs) (hs : s.Ok) : ∀ (g m : Nat), Dp 22 [sv s x] g e s ps [] (.tuple #[]) ∧ Dr 23 [sv s x] m e s ps [] (.tuple #[]) := by
  refine fun g m => ⟨fun w h => ?_, fun w S h => (rload_any w m S e s x ps h hs).mono fun _ _ k => ⟨k.1, _, k.2⟩⟩
  obtain ⟨ss, h, hr⟩ := h
  exact (load_any w g e s x ss _ h hs).mono fun _ w' k => ⟨k.1, Pf.none k.2.1, k.2.2⟩

/-- both, and the state that came in -/
structure Lq (w W : World) (b g m : Nat) (S : Nat → Prop) (s : Re) (x : Xs) (e : Re) (ps : Ps') : Prop where
  pf : Pf W g e ps
  rf : Rf W m S e ps
  ng : ¬ S g
  ab : Ab w.heap.size S
  ge : w.heap.size ≤ g
  bel : Below w.heap.size w W
  st : Sb W b s x
  bg : b ≠ g
  nb : ¬ S b
section
variable {w W W1 W2 : World} {b g m : Nat} {S S' : Nat → Prop} {s e e' : Re} {x : Xs} {ps ps' : Ps'}
theorem Lq.below (h : Lq w W b g m S s x e ps) (k : Below W.heap.size W W1) : Lq w W1 b g m S s x e ps :=
  ⟨h.pf.below k, h.rf.below k, h.ng, h.ab, h.ge, below2 h.bel k, h.st.below k, h.bg, h.nb⟩
theorem Lq.rf1 (h : Lq w W b g m S s x e ps) (m1 : Mods (One g) W W1) : Rf W1 m S e ps := h.rf.mods m1 (fun k hk hs => h.ng ((show k = g from hk) ▸ hs))
theorem Lq.both (h : Lq w W b g m S s x e ps) (p1 : Pf W1 g e' ps') (m1 : Mods (One g) W W1) (r2 : Rf W2 m S' e' ps') (s2 : Step S S' W1 W2) : Lq w W2 b g m S' s x e' ps' := by
  have b1 : Below w.heap.size w W1 := Mods.below h.bel m1 (fun k hk => (show k = g from hk) ▸ h.ge) h.bel.size
  refine ⟨p1.mods s2.mods h.ng, r2, fun hg => ?_, s2.ab h.ab b1.size, h.ge, s2.below b1 h.ab b1.size, (h.st.mods m1 h.bg).mods s2.mods h.nb, h.bg, fun hb => ?_⟩
  · rcases s2.grow g hg with k | k
    · exact h.ng k
    · have := p1.lt; omega
  · rcases s2.grow b hb with k | k
    · exact h.nb k
    · have := (h.st.mods m1 h.bg).lt; omega
/-- another block of the call's own, through both -/
theorem bk_both {t ty : Nat} {l : List Value} (hb : Bk W t ty l) (tg : t ≠ g) (ts : ¬ S t) (m1 : Mods (One g) W W1) (s2 : Step S S' W1 W2) : Bk W2 t ty l :=
  (hb.mods m1 tg).mods s2.mods ts
end
end Go.Proofs.Ytgljkadelkglbaa.Cs
