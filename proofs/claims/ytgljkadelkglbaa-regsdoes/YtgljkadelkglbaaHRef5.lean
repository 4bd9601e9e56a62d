/- Contracts of the document's File: Stack, SetStack, Load. -/
import Derived.Test.YtgljkadelkglbaaHRef4
namespace Go.Proofs.Ytgljkadelkglbaa.Cs
open Go.RowKit Ps Tl

theorem Rf.c_at {w : World} {m : Nat} {S : Nat → Prop} {e : Re} {ps : Ps'} (h : Rf w m S e ps) {i : Nat} (hi : i < 19) : w.cell? ⟨m, i, none⟩ = some (.int .u32 (e.at i)) := by
  obtain ⟨v, u, hb, _⟩ := h.ex
  unfold Re.at
  split
  · exact hb.cell i _ (Re.at_r h.ok _ (by assumption))
  · split
    · subst i; exact hb.cell 16 _ (Re.at_p h.ok _)
    · split
      · subst i; exact hb.cell 17 _ (Re.at_k h.ok _)
      · obtain rfl : i = 18 := by omega
        exact hb.cell 18 _ (Re.at_u h.ok _)
theorem Rf.to {w : World} {m : Nat} {S : Nat → Prop} {e : Re} {ps : Ps'} (h : Rf w m S e ps) {i : Nat} (hi : i < 19) {x : Int} (hx : U x) : Rf (w.setCell ⟨m, i, none⟩ (.int .u32 x)) m S (e.to i x) ps := by
  unfold Re.to
  split
  · exact h.set_r (by assumption) hx
  · split
    · subst i; exact h.set_p hx
    · split
      · subst i; exact h.set_k hx
      · obtain rfl : i = 18 := by omega
        exact h.set_u hx

set_option maxHeartbeats 1000000 in
theorem rstack_any (w : World) (m : Nat) (S : Nat → Prop) (e : Re) (ps : Ps') (h : Rf w m S e ps) (u : Bool) :
    Calls Try.prog 40 #[.pointer (some ⟨m, 0, none⟩), .bool u] w fun r w' => r = .returned (.int .u32 (ks e u)) ∧ Below w.heap.size w w' := by
  have HF := Lib.hid h
  have HK := Lib.hid (show ks e u = e.at (pe e.p u) from rfl)
  have HE := Lib.hid (show pe e.p u = if u = bi e.p 24 then 14 else pb u from rfl)
  have C1 := Lib.hid (ruser_as w m S e ps h _ rfl)
  generalize pe e.p u = q at *
  generalize bi e.p 24 = v at *
  clear h
  cases u <;> cases v
  all_goals
    go_enter Try.func40, Try.ntmps40
    go_wp2_with fail
    refine C1.out.mono ?_
    rintro _ w1 ⟨rfl, b1⟩
    have c := (HF.out.below b1).c_at (i := q) (by rw [HE.out]; simp [pb])
    rw [HE.out] at c
    simp only [pb, if_true, if_false, Bool.false_eq_true, Bool.true_eq_false] at c
    have HQ := HE.out
    simp only [pb, if_true, if_false, Bool.false_eq_true, Bool.true_eq_false] at HQ
    have HQ' := Lib.hid HQ
    clear HQ
    go_wp2_with fail
    go_ret
    exact ⟨by rw [HK.out, HQ'.out]; rfl, b1⟩

set_option maxHeartbeats 1000000 in
theorem rsetstack_any (w : World) (m : Nat) (S : Nat → Prop) (e : Re) (ps : Ps') (h : Rf w m S e ps) (u : Bool) (x : Int) (hx : U x) :
    Calls Try.prog 21 #[.pointer (some ⟨m, 0, none⟩), .bool u, .int .u32 x] w fun r w' => r = .returned (.tuple #[]) ∧ Rf w' m S (e.to (pe e.p u) x) ps ∧ Step S S w w' := by
  have HF := Lib.hid h
  have HX := Lib.hid hx
  have HI := Lib.hid h.in_
  have HE := Lib.hid (show pe e.p u = if u = bi e.p 24 then 14 else pb u from rfl)
  have C1 := Lib.hid (ruser_as w m S e ps h _ rfl)
  generalize pe e.p u = q at *
  generalize bi e.p 24 = v at *
  clear h hx
  cases u <;> cases v
  all_goals
    go_enter Try.func21, Try.ntmps21
    go_wp2_with fail
    refine C1.out.mono ?_
    rintro _ w1 ⟨rfl, b1⟩
    have HF1 := Lib.hid (HF.out.below b1)
    have hq : q < 19 := by rw [HE.out]; simp [pb]
    have HT := Lib.hid (HF1.out.to hq HX.out)
    have c := HF1.out.c_at hq
    have f := HF1.out.free q
    rw [HE.out] at c f
    simp only [pb, if_true, if_false, Bool.false_eq_true, Bool.true_eq_false] at c f
    have HQ := HE.out
    simp only [pb, if_true, if_false, Bool.false_eq_true, Bool.true_eq_false] at HQ
    subst HQ
    clear hq
    go_wp2_with fail
    first | go_end0 | (refine bodyPost_ret (results_none rfl _ _ _) rfl ?_)
    exact ⟨rfl, HT.out, step_set (Step.of_below (S := S) b1) (.inl HI.out) _ _⟩

set_option maxHeartbeats 1000000 in
theorem rload_any (w : World) (m : Nat) (S : Nat → Prop) (e s : Re) (x : Xs) (ps : Ps') (h : Rf w m S e ps) (hs : s.Ok) :
    Calls Try.prog 23 #[.pointer (some ⟨m, 0, none⟩), sv s x] w fun r w' => r = .returned (.tuple #[]) ∧ Rf w' m (One m) s [] ∧ Step S (One m) w w' := by
  have HF := Lib.hid h
  have HI := Lib.hid h.in_
  clear h
  go_enter Try.func23, Try.ntmps23
  go_upto_region 1 with (refine wl_box rfl _ _ rfl _ rfl ?_)
  have hS := Sb.new w x hs
  have HM := Lib.hid (Mods.refl S w |>.alloc (.cells (s.cells x.l).toArray 28))
  have HT := Lib.hid (HF.out.below ((Below.refl _ _).alloc (Nat.le_refl _) (.cells (s.cells x.l).toArray 28)))
  generalize w.alloc (.cells (s.cells x.l).toArray 28) = W at *
  generalize w.heap.size = b at *
  have c16 := hS.c_p
  have c17 := hS.c_k
  have c18 := hS.c_u
  have HR := Lib.hid hS.range
  have HL := Lib.hid hs.len
  obtain ⟨A, c, B, q, _, _, _, _, hb, _⟩ := HT.out.open_
  have HB := Lib.hid hb
  have hlen : (e.cells (x0.l ++ [Value.slice A ps.length c, Value.slice B ps.length q])).length = 28 := by rw [Re.length HT.out.ok]; rfl
  generalize e.cells (x0.l ++ [Value.slice A ps.length c, Value.slice B ps.length q]) = old at *
  clear hb
  obtain ⟨sc, hsc⟩ : ∃ sc, sc = Re.cells ⟨s.r, s.p, s.k, s.u⟩ (Xs.l ⟨0, 0, 0, 0, 0, 0, 0⟩) := ⟨_, rfl⟩
  have HU1 := Lib.hid (build_state s.r s.p s.k s.u HL.out)
  have HU2 := Lib.hid (build_ref s.r s.p s.k s.u HL.out)
  rw [← hsc] at HU1 HU2
  obtain ⟨cs, hcs⟩ : ∃ cs, cs = Re.cells ⟨s.r, s.p, s.k, s.u⟩ (Xs.l ⟨0, 0, 0, 0, 0, 0, 0⟩ ++ [.slice none 0 0, .slice none 0 0]) := ⟨_, rfl⟩
  have HC := Lib.hid hcs
  rw [← hcs] at HU2
  have HE : Hid (cs.length = 28) := by
    show _ = _
    rw [hcs, Re.length (e := ⟨s.r, s.p, s.k, s.u⟩) hs]; rfl
  have HO : Hid (∀ v ∈ cs, v.oneCell' = true) := by
    show ∀ v ∈ cs, _
    rw [hcs]
    refine one_cells (fun v hv => ?_)
    simp only [List.mem_append, List.mem_cons, List.not_mem_nil, or_false] at hv
    rcases hv with hv | rfl | rfl
    · exact Xs.one _ v hv
    · rfl
    · rfl
  have HG : Hid (W.there m 0 cs.toArray.size) := by
    refine HB.out.there 0 _ ?_
    rw [hlen, List.size_toArray, HE.out]; exact Nat.le_refl _
  have HJ : Hid ((Try.prog.info? 36).map (·.size) = some cs.toArray.size) := by
    show _ = _
    rw [List.size_toArray, HE.out, rf_size]
  have HS := Lib.hid hs
  have HN := Lib.hid hlen
  clear hS hs hcs hsc hlen
  go_wp2_with (first
    | refine wpList_load_mid rfl 24 _ rfl b 0 rfl (c1 s.r) _ HR.out arr_under rfl (arr_of HL.out) ?_
    | refine wl_build rfl 28 _ rfl #[(0, .agg (c1 s.r).toArray), (1, .int .u32 s.p), (2, .int .u32 s.k), (3, .int .u32 s.u)] (by simp [Act.eval]) (.agg sc.toArray) (HU1.out _) ?_
    | refine wl_build rfl 36 _ rfl #[(0, .agg sc.toArray)] (by simp [Act.eval, Act.put]) (.agg cs.toArray) (HU2.out _) ?_
    | refine wpList_store_mid rfl 36 _ _ rfl m 0 cs.toArray rfl rfl HG.out HJ.out (all_oneCell_toArray HO.out) ?_)
  go_end0
  have hS : ∀ k, One m k ↔ (k = m ∨ Bl (.slice none 0 0) k ∨ Bl (.slice none 0 0) k) := fun k => ⟨fun h => .inl h, fun h => by
    rcases h with h | h | h
    · exact h
    · cases h
    · cases h⟩
  refine ⟨rfl, ⟨⟨.slice none 0 0, .slice none 0 0, ?_, rnil _ _ _, rnil _ _ _, fun _ h => (by cases h), fun h => (by cases h), fun h => (by cases h), hS⟩, HS.out, fun _ h => (by cases h)⟩, ?_, ?_⟩
  · rcases Bk.setCells cs 0 HB.out with k | k
    · have e0 : old.drop (0 + cs.length) = [] := List.drop_eq_nil_of_le (by rw [HN.out, HE.out]; exact Nat.le_refl _)
      rw [e0, List.take_zero, List.nil_append, List.append_nil, HC.out] at k
      rw [HC.out]
      exact k
    · rw [HN.out, HE.out] at k; omega
  · exact mods_setCells _ _ _ HM.out (.inl HI.out)
  · intro k hk
    exact .inl (hk ▸ HI.out)
end Go.Proofs.Ytgljkadelkglbaa.Cs
