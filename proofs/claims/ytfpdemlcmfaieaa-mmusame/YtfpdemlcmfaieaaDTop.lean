/- What a law holds of both: how it is made. -/
import Derived.Test.YtfpdemlcmfaieaaDDo5
import Derived.Test.YtfpdemlcmfaieaaDGreat
namespace Go.Proofs.Ytfpdemlcmfaieaa.Cs
open Go.RowKit

set_option maxHeartbeats 400000 in
theorem rmnew_any (rh : Nat) (w : World) :
    Calls Try.prog 16 #[(Value.pointer (some ⟨rh, 0, none⟩))] w fun e w' => ∃ h th T, e = .returned (Value.pointer (some ⟨h, 0, none⟩)) ∧ w.heap.size ≤ h ∧ Rx w' h rh th T noTabs false [] ∧ Tl.Ab w.heap.size T ∧ Below w.heap.size w w' := by
  go_enter Try.func16, Try.ntmps16
  go_wp2
  go_ret
  have hb : ((w.alloc (.cells #[.slice none 0 0, .slice none 0 0] 62)).alloc (.cells #[(Value.pointer (some ⟨rh, 0, none⟩)), (Value.pointer (some ⟨w.heap.size, 0, none⟩)), .int .u32 0, .int .u32 0, .int .u32 0, .int .u32 0, .int .u32 0, .bool false] 43)).heap[w.heap.size]? = some (.cells #[.slice none 0 0, .slice none 0 0] 62 (0, 0)) := by
    rw [Below.heap_alloc _ _ _ (by simp)]
    exact heap_alloc_new _ _
  refine ⟨w.heap.size + 1, w.heap.size, fun k => k = w.heap.size, rfl, by omega, ⟨by simpa [noTabs] using heap_alloc_new (w.alloc (.cells #[.slice none 0 0, .slice none 0 0] 62)) _, ⟨⟨_, _, hb, Tl.R1.nil _, Tl.R1.nil _, fun k h => by simp [Tl.Bl, Value.ownBlock] at h, fun k => by simp [Tl.Bl, Value.ownBlock]⟩⟩, Tl.Fit.nil, noTabs_ok⟩, fun k h => by omega, by go_grown⟩

/-- The memories of both. -/
structure Pr (w : World) (rg r rh hr : Nat) (xs ys : List Int) (W : World) : Prop where
  mem : Rm.Mem W rg r xs
  rb : Rb W rh hr ys
  rr : r ≠ hr
  a1 : w.heap.size ≤ r
  a2 : w.heap.size ≤ hr
  bel : Below w.heap.size w W
section
variable {w W W' W1 W2 : World} {rg r rh hr g tg h th : Nat} {xs ys zs : List Int} {S T : Nat → Prop}
theorem Pr.below (p : Pr w rg r rh hr xs ys W) (b : Below W.heap.size W W') : Pr w rg r rh hr xs ys W' := ⟨p.mem.below_ b, p.rb.below b, p.rr, p.a1, p.a2, Tl.bel_trans p.bel b p.bel.size⟩
theorem Pr.make (hm : Rm.Mem W1 rg r xs) (h1 : w.heap.size ≤ r) (b1 : Below w.heap.size w W1) (hq : Rb W2 rh hr ys) (h2 : W1.heap.size ≤ hr) (b2 : Below W1.heap.size W1 W2) : Pr w rg r rh hr xs ys W2 :=
  ⟨hm.below_ b2, hq, by have := hm.rlt; omega, h1, Nat.le_trans b1.size h2, Tl.bel_trans b1 b2 b1.size⟩
theorem Pr.load1 (p : Pr w rg r rh hr xs ys W) (hm : Rm.Mem W' rg r zs) (g : W.grownBy W' (some r)) : Pr w rg r rh hr zs ys W' := by
  have m : Tl.Mods (fun k => k = r) W W' := Tl.Mods.of_grown g (fun k e => by injection e with e; exact e.symm)
  refine ⟨hm, p.rb.mods m (fun e => ?_) (fun e => p.rr e.symm), p.rr, p.a1, p.a2, Rm.below_of_grown p.bel g p.bel.size p.a1⟩
  have ty := p.rb.typ.1
  rw [e] at ty
  exact absurd (ty.ne (mem_typ p.mem).2) (by decide)
theorem Pr.load2 (p : Pr w rg r rh hr xs ys W) (hm : Rb W' rh hr zs) (m : Tl.Mods (fun k => k = hr) W W') : Pr w rg r rh hr xs zs W' := by
  refine ⟨mem_mods p.mem m (fun e => ?_) p.rr, hm, p.rr, p.a1, p.a2, m.below p.bel (fun k e => by subst e; exact p.a2) p.bel.size⟩
  have ty := (mem_typ p.mem).1
  rw [e] at ty
  exact absurd (ty.ne p.rb.typ.2) (by decide)
end

/-- Both, made by the law itself. -/
structure Lq (w : World) (d : Ids) (S T : Nat → Prop) (s s2 : St) (pl : Bool) (W : World) : Prop where
  ms : Ms W d.g d.rg d.r d.tg S s.t s.rows s.xs
  rs : Rs W d.h d.rh d.hr d.th T s2.t pl s2.rows s2.xs
  rr : d.r ≠ d.hr
  ab : Tl.Ab w.heap.size (Ux d S T)
  bel : Below w.heap.size w W
section
variable {w W W' W1 W2 : World} {d : Ids} {S S' T T' : Nat → Prop} {s s2 s' s2' : St} {pl : Bool} {rg r rh hr g tg h th : Nat} {xs ys zs : List Int}
theorem Lq.make (p : Pr w rg r rh hr xs ys W) (m : Mx W1 g rg tg S noTabs []) (hg : W.heap.size ≤ g) (hS : Tl.Ab W.heap.size S) (b1 : Below W.heap.size W W1) (x : Rx W2 h rh th T noTabs false []) (hh : W1.heap.size ≤ h) (hT : Tl.Ab W1.heap.size T) (b2 : Below W1.heap.size W1 W2) :
    Lq w ⟨g, rg, r, tg, h, rh, hr, th⟩ S T ⟨noTabs, xs, []⟩ ⟨noTabs, ys, []⟩ false W2 :=
  ⟨⟨m.below b2, (p.mem.below_ b1).below_ b2⟩, ⟨x, (p.rb.below b1).below b2⟩, p.rr, fun k hk => by
    have e1 := p.bel.size
    have e2 := b1.size
    rcases hk with (hk | hk) | hk | (hk | hk) | hk
    · exact Nat.le_trans e1 (hS k hk)
    · exact hk ▸ p.a1
    · have : W.heap.size ≤ k := hk ▸ hg
      omega
    · have := hT k hk; omega
    · exact hk ▸ p.a2
    · have : W1.heap.size ≤ k := hk ▸ hh
      omega, Tl.bel_trans p.bel (Tl.bel2 b1 b2) p.bel.size⟩
theorem Lq.below (l : Lq w d S T s s2 pl W) (b : Below W.heap.size W W') : Lq w d S T s s2 pl W' := ⟨l.ms.below b, l.rs.below b, l.rr, l.ab, Tl.bel_trans l.bel b l.bel.size⟩
theorem Lq.bw (l : Lq w d S T s s2 pl W) : Bw W d S T S T s s2 pl W := ⟨l.ms, l.rs, l.rr, Tl.Step.of_below (Below.refl _ _)⟩
theorem Lq.step (l : Lq w d S T s s2 pl W) (b : Bw W d S T S' T' s' s2' pl W') : Lq w d S' T' s' s2' pl W' := ⟨b.ms, b.rs, b.rr, b.st.ab l.ab l.bel.size, b.st.below l.bel l.ab l.bel.size⟩
theorem Lq.cok {w0 : World} (l : Lq w d S T s s2 pl W) {ad : Addr} {m : Nat} {c : Cal} (o : One w0 ad m c ys) (h1 : c.n ≤ 1024) (h2 : c.m ≤ 1024) (hb : Below w0.heap.size w0 W) (hz : w0.heap.size ≤ w.heap.size) : Cok W (Ux d S T) c ys :=
  ⟨o.va, o.x, o.t, h1, h2, o.bytes.len, o.bytes.sl hb (fun k hk => Nat.le_trans hz (l.ab k hk))⟩
theorem Tt.ux {w0 : World} {S0 T0 Q : Nat → Prop} {q : Nat} {t : Tabs} (h : Tt W q t) (b : Bw w0 d S0 T0 S T s s2 pl W) (m : Tl.Mods Q W W') (hQ : ∀ k, Q k → Ux d S T k) : Tt W' q t :=
  (keep_ux b m hQ ⟨_, _, h⟩ (by decide) (by decide) (by decide) (by decide) (by decide) (by decide) (by decide)).trans h
end
theorem Ag.refl (s : St) : Ag s s false := ⟨rfl, rfl, fun _ _ _ _ _ => rfl⟩

end Go.Proofs.Ytfpdemlcmfaieaa.Cs
