/- A call on both, whatever it is. -/
import Derived.Test.YtfpdemlcmfaieaaDDo1
import Derived.Test.YtfpdemlcmfaieaaDDo2
import Derived.Test.YtfpdemlcmfaieaaDDo4
namespace Go.Proofs.Ytfpdemlcmfaieaa.Cs
open Go.RowKit

/-- Accesses answer the same, here and there. -/
def Ag (s s2 : St) (pl : Bool) : Prop := s2.t = s.t ∧ s2.xs = s.xs ∧ ∀ u wr va n, U va → (walk s.t s.xs u wr true s.rows [] va n).1 = (walk s.t s.xs u wr (true && !pl) s2.rows [] va n).1
theorem ag_one {t : Tabs} {xs : List Int} {rows rows2 : Rows} {k1 k2 u : Bool} {va : Int} (h : (walk t xs u false k1 rows [] va 1).1 = (walk t xs u false k2 rows2 [] va 1).1) : plE t xs rows2 va 1 u false = plE t xs rows va 1 u false := by
  cases h1 : plE t xs rows va 1 u false with
  | ok p =>
    rw [walk_one_ok h1] at h
    cases h2 : plE t xs rows2 va 1 u false with
    | ok q =>
      rw [walk_one_ok h2] at h
      injection h with h
      injection h with h _
      injection h with _ h _
      rw [h]
    | bad k i => rw [walk_one_bad h2] at h; cases h
  | bad k i =>
    rw [walk_one_bad h1] at h
    cases h2 : plE t xs rows2 va 1 u false with
    | ok q => rw [walk_one_ok h2] at h; cases h
    | bad k' i' =>
      rw [walk_one_bad h2] at h
      injection h with e1 _ e3
      rw [e1, e3]
/-- A call that is let be done. -/
structure Cok (w : World) (Q : Nat → Prop) (c : Cal) (ys : List Int) : Prop where
  va : U c.va
  x : U c.x
  t : c.t.Ok
  n : c.n ≤ 1024
  m : c.m ≤ 1024
  len : ys.length = c.m
  sl : Sl w Q c.A c.c ys

theorem does_any (d : Ids) (S T : Nat → Prop) (s s2 : St) (pl : Bool) (c : Cal) (ys : List Int) (w : World) (b : Bw w d S T S T s s2 pl w) (hc : Cok w (Ux d S T) c ys) (ha : Ag s s2 pl) :
    Calls Try.prog 18 #[(Value.pointer (some ⟨d.rg, 0, none⟩)), (Value.pointer (some ⟨d.g, 0, none⟩)), (Value.pointer (some ⟨d.h, 0, none⟩)), .agg (#[Value.int .i64 (Cal.K c), Value.int .u32 (Cal.va c), Value.int .u32 (Cal.x c), Value.int .i64 (Cal.n c), Value.bool (Cal.u c), Value.bool (Cal.wr c), Value.slice (Cal.A c) (Cal.m c) (Cal.c c), Value.int .u32 (Cal.t c).pb, Value.int .u32 (Cal.t c).pn, Value.int .u32 (Cal.t c).sb, Value.int .u32 (Cal.t c).sn, Value.int .u32 (Cal.t c).me])] w fun e w' => e = .returned (.bool true) ∧ ∃ S' T', Bw w d S T S' T' (nx true s c ys) (nx (true && !pl) s2 c ys) pl w' := by
  obtain ⟨t, xs, rows⟩ := s
  obtain ⟨t2, xs2, rows2⟩ := s2
  obtain ⟨h1, h2, h3⟩ := ha
  simp only at h1 h2 h3
  replace h1 := h1.symm
  replace h2 := h2.symm
  subst h1 h2
  obtain ⟨K, va, x, n, u, wr, A, m, cc, tc⟩ := c
  obtain ⟨hva, hx, ht, hn, hm, hlen, hsl⟩ := hc
  simp only at hva hx ht hn hm hlen hsl
  have split : ∀ u wr n, ∃ a r1 r2, walk t xs u wr true rows [] va n = (a, r1) ∧ walk t xs u wr (true && !pl) rows2 [] va n = (a, r2) := fun u wr n =>
    ⟨(walk t xs u wr true rows [] va n).1, (walk t xs u wr true rows [] va n).2, (walk t xs u wr (true && !pl) rows2 [] va n).2, rfl, Prod.ext (h3 u wr va n hva).symm rfl⟩
  by_cases k0 : K = 0
  · subst k0
    obtain ⟨a, r1, r2, e1, e2⟩ := split u false (max 0 (min n 4)).toNat
    have := does_0 d S T t xs rows rows2 pl va x n u wr A m cc tc w b hva a r1 r2 _ e1 e2 (by omega)
    simp only [nx, if_true, e1, e2]
    exact this
  by_cases k1 : K = 1
  · subst k1
    obtain ⟨a, r1, r2, e1, e2⟩ := split u true (max 0 (min n 4)).toNat
    have := does_1 d S T t xs rows rows2 pl va x n u wr A m cc tc w b hva a r1 r2 _ e1 e2 (by omega) hx
    simp only [nx, if_true, if_neg (by decide : ¬ (1 : Int) = 0), e1, e2]
    exact this
  by_cases k2 : K = 2
  · subst k2
    obtain ⟨a, r1, r2, e1, e2⟩ := split u false n.toNat
    have := does_2 d S T t xs rows rows2 pl va x n u wr A m cc tc w b hva a r1 r2 e1 e2 hn
    simp only [nx, if_true, if_neg (by decide : ¬ (2 : Int) = 0), if_neg (by decide : ¬ (2 : Int) = 1), e1, e2]
    exact this
  by_cases k3 : K = 3
  · subst k3
    obtain ⟨a, r1, r2, e1, e2⟩ := split u true m
    have := does_3 d S T t xs rows rows2 pl va x n u wr A m cc tc w b hva a r1 r2 e1 e2 ys hlen hm hsl
    simp only [nx, if_true, if_neg (by decide : ¬ (3 : Int) = 0), if_neg (by decide : ¬ (3 : Int) = 1), if_neg (by decide : ¬ (3 : Int) = 2), e1, e2]
    exact this
  by_cases k4 : K = 4
  · subst k4
    obtain ⟨a, r1, r2, e1, e2⟩ := split u wr n.toNat
    have := does_4 d S T t xs rows rows2 pl va x n u wr A m cc tc w b hva a r1 r2 e1 e2 hn
    simp only [nx, if_true, if_neg (by decide : ¬ (4 : Int) = 0), if_neg (by decide : ¬ (4 : Int) = 1), if_neg (by decide : ¬ (4 : Int) = 2), if_neg (by decide : ¬ (4 : Int) = 3), e1, e2]
    exact this
  have nxe : ∀ kp s, nx kp s ⟨K, va, x, n, u, wr, A, m, cc, tc⟩ ys = if K = 5 then s else if K = 6 then ⟨tc, s.xs, []⟩ else if K = 7 then ⟨s.t, s.xs, []⟩ else if K = 8 then ⟨s.t, s.xs, Tl.dropR s.rows (va / 512)⟩ else if K = 9 then ⟨s.t, if va + 4 ≤ s.xs.length then splice s.xs va.toNat (Rm.low x 4) else s.xs, s.rows⟩ else s := fun kp s => by
    unfold nx; simp only [if_neg k0, if_neg k1, if_neg k2, if_neg k3, if_neg k4]
  rw [nxe, nxe]
  by_cases k5 : K = 5
  · subst k5
    rw [if_pos rfl, if_pos rfl]
    have hp := ag_one (h3 u false va 1 hva)
    cases hq : plE t xs rows va 1 u false with
    | ok p => exact does_5a d S T t xs rows rows2 pl va x n u wr A m cc tc w b hva p hq (hp.trans hq)
    | bad k i => exact does_5b d S T t xs rows rows2 pl va x n u wr A m cc tc w b hva k i hq (hp.trans hq)
  by_cases k6 : K = 6
  · subst k6
    simp only [if_neg k5, if_true]
    exact does_6 d S T t xs rows rows2 pl va x n u wr A m cc tc w b hva ht
  by_cases k7 : K = 7
  · subst k7
    simp only [if_neg k5, if_neg k6, if_true]
    exact does_7 d S T t xs rows rows2 pl va x n u wr A m cc tc w b hva
  by_cases k8 : K = 8
  · subst k8
    simp only [if_neg k5, if_neg k6, if_neg k7, if_true]
    exact does_8 d S T t xs rows rows2 pl va x n u wr A m cc tc w b hva
  by_cases k9 : K = 9
  · subst k9
    simp only [if_neg k5, if_neg k6, if_neg k7, if_neg k8, if_true]
    by_cases hf : va + 4 ≤ (xs.length : Int)
    · simp only [if_pos hf]
      exact does_9a d S T t xs rows rows2 pl va x n u wr A m cc tc w b hva hx hf
    · simp only [if_neg hf]
      exact does_9b d S T t xs rows rows2 pl va x n u wr A m cc tc w b hva hx hf
  simp only [if_neg k5, if_neg k6, if_neg k7, if_neg k8, if_neg k9]
  exact does_other d S T t xs rows rows2 pl K va x n u wr A m cc tc w b hva (by omega)

end Go.Proofs.Ytfpdemlcmfaieaa.Cs
