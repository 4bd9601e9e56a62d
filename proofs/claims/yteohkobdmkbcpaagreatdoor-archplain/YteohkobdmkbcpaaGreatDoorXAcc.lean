/- Contracts: accesses of a machine, and what they raise. -/
import Derived.Test.YteohkobdmkbcpaaGreatDoorXReg
namespace Go.Proofs.YteohkobdmkbcpaaGreatDoor.Cs
open Go.RowKit
set_option linter.unusedVariables false
set_option linter.unusedSimpArgs false

/-- What is raised, in block b. -/
structure Rb (w : World) (b : Nat) (z : Rz) : Prop where
  ex : ∃ A cp, w.heap[b]? = some (.cells #[.int .i64 z.v, .slice A z.l.length cp, .bool z.b] 80 (0, 0)) ∧
    (z.l = [] ∨ ∃ r, A = some ⟨r, 0, none⟩ ∧ w.heap[r]? = some (.cells (Tl.c1 z.l).toArray 23 (0, 0)))
section
variable {w0 w w' : World} {a : Ad} {S0 : Nat → Prop} {c : Mc} {b : Nat} {z : Rz}
theorem Mach.r_ne {S : Nat → Prop} (h : Mach w a S c) {k t : Nat} (hk : Mm.Typ w k t) (ht : t ≠ 5) : k ≠ a.r := fun e => by subst e; exact ht (hk.ne h.rtyp)
theorem Ch.r_ne (h : Ch w0 a S0 c w) {k t : Nat} (hk : Mm.Typ w k t) (ht : t ≠ 5) : k ≠ a.r := by obtain ⟨S, m, _⟩ := h.ex; exact m.r_ne hk ht
theorem Rb.below (h : Rb w b z) (k : Below w.heap.size w w') : Rb w' b z := by
  obtain ⟨A, cp, h1, h2⟩ := h.ex
  refine ⟨A, cp, (k.block _ (Tl.lt_of_heap h1)).trans h1, ?_⟩
  rcases h2 with h2 | ⟨r, rfl, h3⟩
  · exact .inl h2
  · exact .inr ⟨r, rfl, (k.block _ (Tl.lt_of_heap h3)).trans h3⟩
theorem not_mty {t : Nat} (h : t = 80 ∨ t = 23 ∨ t = 5 ∨ t = 112 ∨ t = 122 ∨ t = 120 ∨ t = 100 ∨ t = 28 ∨ t = 149) : ¬ Mty t := by
  rcases h with rfl | rfl | rfl | rfl | rfl | rfl | rfl | rfl | rfl <;> simp [Mty]
theorem Rb.mv (h : Rb w b z) (k : Ch w0 a S0 c w) (m : Mv a w w') : Rb w' b z := by
  obtain ⟨A, cp, h1, h2⟩ := h.ex
  refine ⟨A, cp, (m.keep _ _ (k.r_ne ⟨_, _, h1⟩ (by decide)) (not_mty (.inl rfl)) ⟨_, _, h1⟩).trans h1, ?_⟩
  rcases h2 with h2 | ⟨r, rfl, h3⟩
  · exact .inl h2
  · exact .inr ⟨r, rfl, (m.keep _ _ (k.r_ne ⟨_, _, h3⟩ (by decide)) (not_mty (.inr (.inl rfl))) ⟨_, _, h3⟩).trans h3⟩
/-- A block of another type turns. -/
theorem Rb.own (h : Rb w b z) {k t : Nat} (m : Tl.Mods (Hr.One k) w w') (hk : Mm.Typ w k t) (h1 : t ≠ 80) (h2 : t ≠ 23) : Rb w' b z := by
  obtain ⟨A, cp, e1, e2⟩ := h.ex
  refine ⟨A, cp, (m.block _ (Tl.lt_of_heap e1) (fun e => h1 ?_)).trans e1, ?_⟩
  · have e : b = k := e; subst e; exact hk.ne ⟨_, _, e1⟩
  rcases e2 with e2 | ⟨r, rfl, h3⟩
  · exact .inl e2
  · exact .inr ⟨r, rfl, (m.block _ (Tl.lt_of_heap h3) (fun e => h2 (by have e : r = k := e; subst e; exact hk.ne ⟨_, _, h3⟩))).trans h3⟩
end

/-- The machine with nothing buffered. -/
structure Ch0 (w0 : World) (a : Ad) (S0 : Nat → Prop) (c : Mc) (w : World) : Prop where
  ex : ∃ S, Mach w a S c ∧ Mm.Ms w a.mg a.rg a.r a.tg S c.t [] c.xs ∧ Tl.Step (Fo a S0) (Fo a S) w0 w ∧ ∀ k, Fo a S k → 7 ≤ k
  gl : Tl.Ia.Gl w
section
variable {w0 w w' : World} {a : Ad} {S0 S S' T : Nat → Prop} {c : Mc} {b : Nat} {z : Rz}
theorem Ch0.ch (h : Ch0 w0 a S0 c w) : Ch w0 a S0 c w := by obtain ⟨S, m, _, s, ab⟩ := h.ex; exact ⟨⟨S, m, s, ab⟩, h.gl⟩
theorem Ch0.below (h : Ch0 w0 a S0 c w) (k : Below w.heap.size w w') : Ch0 w0 a S0 c w' := by
  obtain ⟨S, m, q, s, ab⟩ := h.ex
  exact ⟨⟨S, m.below k, q.below k, s.trans (Tl.Step.of_below k), ab⟩, h.gl.below k⟩
/-- The tables and the memory turn. -/
theorem Mach.fi_ms (h : Mach w a S c) (m : Tl.Mods T w w') (hT : ∀ k, T k → S k ∨ k = a.r ∨ k = a.mg) : (∃ ss n, Hr.Fi w' a.fg c.e ss n) ∧ w'.heap[a.g]? = w.heap[a.g]? := by
  have e : ∀ i t, Mm.Typ w i t → t ≠ 5 → t ≠ 96 → t ≠ 159 → t ≠ 230 → ¬ T i := fun i t ht h1 h2 h3 h4 hi => by
    rcases hT i hi with e | e | e
    · rcases h.styp e with q | q
      · exact h3 (ht.ne q)
      · exact h4 (ht.ne q)
    · subst e; exact h1 (ht.ne h.rtyp)
    · subst e; exact h2 (ht.ne h.mtyp)
  obtain ⟨ss, n, f⟩ := h.fi
  exact ⟨⟨ss, n, f.mods m (e _ _ h.ftyp (by decide) (by decide) (by decide) (by decide))⟩, m.block _ h.glt (e _ _ h.gtyp (by decide) (by decide) (by decide) (by decide))⟩
theorem Mach.mmu (h : Mach w a S c) {T T' : Nat → Prop} {t' : Mm.Tabs} {rows : Mm.Rows} {xs' : List Int} (q : Mm.Ms w' a.mg a.rg a.r a.tg S' t' rows xs') (s : Tl.Step T T' w w') (hT : ∀ k, T k → S k ∨ k = a.r ∨ k = a.mg) (hT' : ∀ k, S' k → T' k) :
    Mach w' a S' { c with t := t', xs := xs' } ∧ Tl.Step (Fo a S) (Fo a S') w w' := by
  obtain ⟨f, g⟩ := h.fi_ms s.mods hT
  refine ⟨⟨g.trans h.box, ⟨rows, q⟩, f, h.sc⟩, fo_step s (fun k hk => ?_) hT'⟩
  rcases hT k hk with e | e | e
  · exact .inr (.inr (.inr (.inr e)))
  · exact .inr (.inl e)
  · exact .inr (.inr (.inl e))
end

section
variable {w0 : World} {a : Ad} {S0 : Nat → Prop} {c : Mc}
theorem mclear (w : World) (h : Ch w0 a S0 c w) : Calls Tryz.prog 70 #[.pointer (some ⟨a.mg, 0, none⟩)] w fun e w' => e = .returned (.tuple #[]) ∧ Ch0 w0 a S0 c w' ∧ Mv a w w' := by
  obtain ⟨S, m, s, ab⟩ := h.ex
  obtain ⟨rows, q⟩ := m.ms
  refine (Mm.clear_any a.mg a.rg a.tg S c.t rows w q.mx).mono ?_
  rintro e w' ⟨rfl, S', q', s'⟩
  have hm : Mm.Ms w' a.mg a.rg a.r a.tg S' c.t [] c.xs := ⟨q', Mm.mem_tb q.mem q.mx.tb s'.mods⟩
  obtain ⟨m', t⟩ := m.mmu hm s' (fun k hk => .inl hk) (fun k hk => hk)
  have hK : 7 ≤ w.heap.size := Nat.le_of_lt (Nat.lt_of_le_of_lt (ab _ (.inl rfl)) m.glt)
  refine ⟨rfl, ⟨⟨S', m', hm, s.trans t, fun k hk => ?_⟩, gl_keep h.gl fun i hi => t.mods.block i (Nat.lt_of_lt_of_le hi hK) (fun e => absurd (ab i e) (by omega))⟩, m.mv t.mods (fun _ h => h)⟩
  rcases t.grow k hk with e | e
  · exact ab k e
  · exact Nat.le_trans hK e

set_option maxHeartbeats 400000 in
set_option maxRecDepth 100000 in
theorem fresh_any (w : World) (h : Ch w0 a S0 c w) : Calls Tryz.prog 50 #[.pointer (some ⟨a.g, 0, none⟩)] w fun e w' => e = .returned (.pointer (some ⟨a.mg, 0, none⟩)) ∧ Ch0 w0 a S0 c w' ∧ Mv a w w' := by
  have H := Lib.hid h
  have c1 := h.c1
  clear h
  go_enter Tryz.func50, Tryz.ntmps50
  go_wp2_with (go_at_call 70; refine (mclear _ H.out).mono ?_; rintro e w1 ⟨rfl, h1, m1⟩; have d1 := h1.ch.c1; have H1 := Lib.hid h1; have M1 := Lib.hid m1; clear h1 m1)
  exact bodyPost_ret (v := .pointer (some ⟨a.mg, 0, none⟩)) (by simp [results, Tryz.results50, go_sem]) rfl ⟨rfl, H1.out, M1.out⟩

set_option maxHeartbeats 400000 in
set_option maxRecDepth 100000 in
theorem user_any (w : World) (h : Ch w0 a S0 c w) : Calls Tryz.prog 85 #[.pointer (some ⟨a.g, 0, none⟩)] w fun e w' => e = .returned (.bool c.us) ∧ w = w' := by
  have H := Lib.hid h
  have c2 := h.c2
  have hu := fun W => Lib.hid (Ps.user_any c.e.p h.eok.p W)
  clear h
  go_enter Tryz.func85, Tryz.ntmps85
  go_wp2_with (first
    | (go_at_call 30; refine (fpsl _ H.out).mono ?_; rintro e w1 ⟨rfl, rfl⟩)
    | (go_at_call 73; refine (hu _).out.mono ?_; rintro e w1 ⟨rfl, rfl⟩)
    | fail)
  exact bodyPost_ret (v := .bool c.us) (by simp [results, Tryz.results85, go_sem, Mc.us]) rfl ⟨rfl, rfl⟩

theorem msd_bad {A : Mm.Acc} {z : Rz} (h : msd A = some z) : ∃ k va i, A = .bad k va i := by
  cases A with
  | ok l => cases h
  | bad k va i => exact ⟨k, va, i, rfl⟩
theorem msd_ok {A : Mm.Acc} (h : msd A = none) : ∃ l, A = .ok l := by
  cases A with
  | ok l => exact ⟨l, rfl⟩
  | bad k va i => cases h
theorem missed_ok (va i : Int) (w : World) : Calls Tryz.prog 138 #[.agg #[.int .i64 0, .int .u32 va, .int .u32 i]] w fun e w' => e = .returned (.pointer none) ∧ Below w.heap.size w w' := by
  go_enter Tryz.func138, Tryz.ntmps138
  go_wp2
  exact bodyPost_ret (v := .pointer none) (by simp [results, Tryz.results138, go_sem]) rfl ⟨rfl, by go_grown⟩
theorem fault_any (v : Int) (A : Option Addr) (n cp : Nat) (w : World) : Calls Tryz.prog 59 #[.int .i64 v, .slice A n cp] w fun e w' => ∃ b, e = .returned (.pointer (some ⟨b, 0, none⟩)) ∧ w.heap.size ≤ b ∧ w'.heap[b]? = some (.cells #[.int .i64 v, .slice A n cp, .bool false] 80 (0, 0)) ∧ Below w.heap.size w w' := by
  go_enter Tryz.func59, Tryz.ntmps59
  go_wp2
  exact bodyPost_ret (v := .pointer (some ⟨w.heap.size, 0, none⟩)) (by simp [results, Tryz.results59, go_sem]) rfl ⟨_, rfl, Nat.le_refl _, heap_alloc_new _ _, by go_grown⟩
theorem new_one (w : World) (f : Obj) (l : List Value) (t : Nat) : ((w.alloc f).alloc (.cells l.toArray t)).heap[w.heap.size + 1]? = some (.cells l.toArray t (0, 0)) := by
  have := heap_alloc_new (w.alloc f) (.cells l.toArray t)
  simpa using this
theorem missed_no (k va i : Int) (z : Rz) (hk : k = 1 ∨ k = 2 ∨ k = 3) (hz : msd (.bad k va i) = some z) (w : World) : Calls Tryz.prog 138 #[.agg #[.int .i64 k, .int .u32 va, .int .u32 i]] w fun e w' => ∃ b, e = .returned (.pointer (some ⟨b, 0, none⟩)) ∧ w.heap.size ≤ b ∧ Rb w' b z ∧ Below w.heap.size w w' := by
  simp only [msd, Option.some.injEq] at hz
  have key : ∀ (W : World) (r : Nat) (v : Int) (l : List Int), W.heap[r]? = some (.cells (Tl.c1 l).toArray 23 (0, 0)) → ∀ b w', w'.heap[b]? = some (.cells #[.int .i64 v, .slice (some ⟨r, 0, none⟩) l.length l.length, .bool false] 80 (0, 0)) → Below W.heap.size W w' → Rb w' b ⟨v, l, false⟩ := fun W r v l hr b w' hb hB =>
    ⟨_, _, hb, .inr ⟨r, rfl, (hB.block _ (Tl.lt_of_heap hr)).trans hr⟩⟩
  have K := Lib.hid key
  clear key
  rcases hk with rfl | rfl | rfl
  all_goals
    simp at hz
    subst hz
    go_enter Tryz.func138, Tryz.ntmps138
    go_wp2_with (go_at_call 59; refine (fault_any _ _ _ _ _).mono ?_; rintro e w1 ⟨b, rfl, hb, hc, hB⟩)
    refine bodyPost_ret (v := .pointer (some ⟨b, 0, none⟩)) (by simp [results, Tryz.results138, go_sem]) rfl ⟨b, rfl, ?_, ?_, ?_⟩
    · simp at hb; omega
    · first | exact K.out _ _ _ _ (new_one _ _ (Tl.c1 [0]) _) _ _ hc hB | exact K.out _ _ _ _ (new_one _ _ (Tl.c1 [va, i]) _) _ _ hc hB
    · exact Tl.bel_trans (by go_grown) hB (by simp; omega)
end

end Go.Proofs.YteohkobdmkbcpaaGreatDoor.Cs
