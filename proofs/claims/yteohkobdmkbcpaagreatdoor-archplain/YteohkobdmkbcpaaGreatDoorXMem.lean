/- A machine as it lies in the model's world; what a call of one leaves as it was. No program is walked here. -/
import Derived.Test.YteohkobdmkbcpaaGreatDoorXDo
namespace Go.Proofs.YteohkobdmkbcpaaGreatDoor.Cs
open Go.RowKit
set_option linter.unusedVariables false
set_option linter.unusedSimpArgs false

/-- The blocks of a machine: itself, its memory, the memory's bytes, its tables, its registers, its buffer. -/
structure Ad where
  g : Nat
  rg : Nat
  r : Nat
  mg : Nat
  fg : Nat
  tg : Nat
/-- A machine in the world; S: the blocks of its buffer. -/
structure Mach (w : World) (a : Ad) (S : Nat → Prop) (c : Mc) : Prop where
  box : w.heap[a.g]? = some (.cells #[.pointer (some ⟨a.rg, 0, none⟩), .pointer (some ⟨a.mg, 0, none⟩), .pointer (some ⟨a.fg, 0, none⟩), .int .u32 c.sc, .int .i64 c.ha] 70 (0, 0))
  ms : ∃ rows, Mm.Ms w a.mg a.rg a.r a.tg S c.t rows c.xs
  fi : ∃ ss n, Hr.Fi w a.fg c.e ss n
  sc : U c.sc
/-- The blocks that turn. -/
def Fo (a : Ad) (S : Nat → Prop) : Nat → Prop := fun k => k = a.g ∨ k = a.r ∨ k = a.mg ∨ k = a.fg ∨ S k
/-- Types of a machine's blocks. -/
def Mty (t : Nat) : Prop := t = 70 ∨ t = 96 ∨ t = 93 ∨ t = 159 ∨ t = 230
/-- Blocks of other types are as they were, but for the bytes. -/
structure Mv (a : Ad) (w w' : World) : Prop where
  size : w.heap.size ≤ w'.heap.size
  keep : ∀ k t, k ≠ a.r → ¬ Mty t → Mm.Typ w k t → w'.heap[k]? = w.heap[k]?
section
variable {a : Ad} {S S' T : Nat → Prop} {c c' : Mc} {w w' w'' w0 : World}
theorem Mv.refl (a : Ad) (w : World) : Mv a w w := ⟨Nat.le_refl _, fun _ _ _ _ _ => rfl⟩
theorem typ_lt {k t : Nat} (h : Mm.Typ w k t) : k < w.heap.size := by obtain ⟨_, _, e⟩ := h; exact Tl.lt_of_heap e
theorem typ_eq {k t : Nat} (h : Mm.Typ w k t) (e : w'.heap[k]? = w.heap[k]?) : Mm.Typ w' k t := by obtain ⟨cs, fr, h⟩ := h; exact ⟨cs, fr, e.trans h⟩
theorem Mv.trans (h : Mv a w w') (h' : Mv a w' w'') : Mv a w w'' :=
  ⟨Nat.le_trans h.size h'.size, fun k t hr hm ht => (h'.keep k t hr hm (typ_eq ht (h.keep k t hr hm ht))).trans (h.keep k t hr hm ht)⟩
theorem Mv.of_below (h : Below w.heap.size w w') : Mv a w w' := ⟨h.size, fun k t _ _ ht => h.block k (typ_lt ht)⟩
theorem Mach.glt (h : Mach w a S c) : a.g < w.heap.size := Tl.lt_of_heap h.box
theorem Mach.gtyp (h : Mach w a S c) : Mm.Typ w a.g 70 := ⟨_, _, h.box⟩
theorem Mach.ftyp (h : Mach w a S c) : Mm.Typ w a.fg 93 := by obtain ⟨_, _, h⟩ := h.fi; exact ⟨_, _, h.bk⟩
theorem Mach.mtyp (h : Mach w a S c) : Mm.Typ w a.mg 96 := by obtain ⟨_, h⟩ := h.ms; exact h.mx.typ
theorem Mach.rtyp (h : Mach w a S c) : Mm.Typ w a.r 5 := by obtain ⟨_, h⟩ := h.ms; exact (Mm.mem_typ h.mem).2
theorem Mach.rgtyp (h : Mach w a S c) : Mm.Typ w a.rg 85 := by obtain ⟨_, h⟩ := h.ms; exact (Mm.mem_typ h.mem).1
theorem Mach.styp (h : Mach w a S c) {k : Nat} (hk : S k) : Mm.Typ w k 159 ∨ Mm.Typ w k 230 := by obtain ⟨_, h⟩ := h.ms; exact Mm.tb_typ h.mx.tb hk
theorem Mach.fo_typ (h : Mach w a S c) {k : Nat} (hk : Fo a S k) : k = a.r ∨ ∃ t, Mty t ∧ Mm.Typ w k t := by
  rcases hk with rfl | rfl | rfl | rfl | hk
  · exact .inr ⟨_, .inl rfl, h.gtyp⟩
  · exact .inl rfl
  · exact .inr ⟨_, .inr (.inl rfl), h.mtyp⟩
  · exact .inr ⟨_, .inr (.inr (.inl rfl)), h.ftyp⟩
  · rcases h.styp hk with e | e
    · exact .inr ⟨_, .inr (.inr (.inr (.inl rfl))), e⟩
    · exact .inr ⟨_, .inr (.inr (.inr (.inr rfl))), e⟩
/-- What turns blocks of a machine alone leaves the others. -/
theorem Mach.mv (h : Mach w a S c) (m : Tl.Mods T w w') (hT : ∀ k, T k → Fo a S k) : Mv a w w' :=
  ⟨m.size, fun k t hr hm ht => m.block k (typ_lt ht) (fun hk => by
    rcases h.fo_typ (hT k hk) with e | ⟨t', ht', e⟩
    · exact hr e
    · exact hm (ht.ne e ▸ ht'))⟩
theorem Mach.lo (h : Mach w a S c) : Tl.Lo w.heap.size (Fo a S) := fun k hk => by
  rcases h.fo_typ hk with e | ⟨t', ht', e⟩
  · rw [e]; exact typ_lt h.rtyp
  · exact typ_lt e
theorem Mach.below (h : Mach w a S c) (b : Below w.heap.size w w') : Mach w' a S c :=
  ⟨(b.block _ h.glt).trans h.box, by obtain ⟨r, k⟩ := h.ms; exact ⟨r, k.below b⟩, by obtain ⟨ss, n, k⟩ := h.fi; exact ⟨ss, n, k.below b⟩, h.sc⟩
/-- The blocks of a machine and its memory's own block are as they were. -/
theorem Mach.keep (h : Mach w a S c) (m : Tl.Mods T w w') (hT : ∀ k, T k → ¬ Fo a S k) (hr : ¬ T a.rg) : Mach w' a S c := by
  obtain ⟨r, k⟩ := h.ms
  obtain ⟨ss, n, f⟩ := h.fi
  have e : ∀ k, Fo a S k → k < w.heap.size → w'.heap[k]? = w.heap[k]? := fun k hk hl => m.block k hl (fun ht => hT k ht hk)
  refine ⟨(e _ (.inl rfl) h.glt).trans h.box, ⟨r, ⟨⟨(e _ (.inr (.inr (.inl rfl))) (typ_lt h.mtyp)).trans k.mx.box, k.mx.tb.keep (fun i hi => e i (.inr (.inr (.inr (.inr hi)))) (k.mx.tb.lo i hi)), k.mx.ok⟩, ?_⟩⟩, ⟨ss, n, ?_⟩, h.sc⟩
  · exact k.mem.keep (m.block _ (typ_lt h.rgtyp) hr) (e _ (.inr (.inl rfl)) (typ_lt h.rtyp))
  · exact ⟨(e _ (.inr (.inr (.inr (.inl rfl)))) (typ_lt h.ftyp)).trans f.bk, f.ok, f.sl, f.sn⟩

/-- The package's tables hang on the first blocks alone. -/
theorem gl_keep (h : Tl.Ia.Gl w) (k : ∀ i, i < 7 → w'.heap[i]? = w.heap[i]?) : Tl.Ia.Gl w' := by
  have e : ∀ r i, r < 7 → w'.cell? ⟨r, i, none⟩ = w.cell? ⟨r, i, none⟩ := fun r i hr => by simp only [World.cell?]; rw [k r hr]
  exact ⟨fun i hi => (e _ _ (by decide)).trans (h.ea i hi), fun i hi => (e _ _ (by decide)).trans (h.la i hi), fun i j hi hj => (e _ _ (by decide)).trans (h.od i j hi hj), fun i hi => (e _ _ (by decide)).trans (h.fa i hi), by obtain ⟨m, hm⟩ := h.ml; exact ⟨m, (e _ _ (by decide)).trans hm⟩⟩

/-- Since the world w0, in which the buffer was made of S0, only the machine's blocks have turned; it is c now. -/
structure Ch (w0 : World) (a : Ad) (S0 : Nat → Prop) (c : Mc) (w : World) : Prop where
  ex : ∃ S, Mach w a S c ∧ Tl.Step (Fo a S0) (Fo a S) w0 w ∧ ∀ k, Fo a S k → 7 ≤ k
  gl : Tl.Ia.Gl w
theorem Ch.refl (h : Mach w a S c) (ha : ∀ k, Fo a S k → 7 ≤ k) (g : Tl.Ia.Gl w) : Ch w a S c w := ⟨⟨S, h, ⟨Tl.Mods.refl _ _, fun _ h => .inl h⟩, ha⟩, g⟩
theorem Ch.below {S0 : Nat → Prop} (h : Ch w0 a S0 c w) (b : Below w.heap.size w w') : Ch w0 a S0 c w' := by
  obtain ⟨S, k, s, ab⟩ := h.ex
  exact ⟨⟨S, k.below b, s.trans (Tl.Step.of_below b), ab⟩, h.gl.below b⟩
theorem Ch.next {S0 : Nat → Prop} (h : Ch w0 a S0 c w) (k : ∀ S, Mach w a S c → ∃ S', Mach w' a S' c' ∧ Tl.Step (Fo a S) (Fo a S') w w') : Ch w0 a S0 c' w' ∧ Mv a w w' := by
  obtain ⟨S, m, s, ab⟩ := h.ex
  obtain ⟨S', m', s'⟩ := k S m
  have hK : 7 ≤ w.heap.size := Nat.le_of_lt (Nat.lt_of_le_of_lt (ab _ (.inl rfl)) m.glt)
  refine ⟨⟨⟨S', m', s.trans s', fun k hk => ?_⟩, gl_keep h.gl fun i hi => s'.mods.block i (Nat.lt_of_lt_of_le hi hK) (fun e => absurd (ab i e) (by omega))⟩, m.mv s'.mods (fun _ h => h)⟩
  rcases s'.grow k hk with e | e
  · exact ab k e
  · exact Nat.le_trans hK e
section
variable {S0 : Nat → Prop} (h : Ch w0 a S0 c w)
include h
theorem Ch.c0 : w.cell? ⟨a.g, 0, none⟩ = some (.pointer (some ⟨a.rg, 0, none⟩)) := by obtain ⟨S, k, s, _⟩ := h.ex; rw [cell_of_row w a.g 0 _ _ _ k.box]; rfl
theorem Ch.c1 : w.cell? ⟨a.g, 1, none⟩ = some (.pointer (some ⟨a.mg, 0, none⟩)) := by obtain ⟨S, k, s, _⟩ := h.ex; rw [cell_of_row w a.g 1 _ _ _ k.box]; rfl
theorem Ch.c2 : w.cell? ⟨a.g, 2, none⟩ = some (.pointer (some ⟨a.fg, 0, none⟩)) := by obtain ⟨S, k, s, _⟩ := h.ex; rw [cell_of_row w a.g 2 _ _ _ k.box]; rfl
theorem Ch.c3 : w.cell? ⟨a.g, 3, none⟩ = some (.int .u32 c.sc) := by obtain ⟨S, k, s, _⟩ := h.ex; rw [cell_of_row w a.g 3 _ _ _ k.box]; rfl
theorem Ch.c4 : w.cell? ⟨a.g, 4, none⟩ = some (.int .i64 c.ha) := by obtain ⟨S, k, s, _⟩ := h.ex; rw [cell_of_row w a.g 4 _ _ _ k.box]; rfl
theorem Ch.fr (i : Nat) : w.frozen? ⟨a.g, i, none⟩ = false := by obtain ⟨S, k, s, _⟩ := h.ex; simp [World.frozen?, k.box]
theorem Ch.glt : a.g < w.heap.size := by obtain ⟨S, k, s, _⟩ := h.ex; exact k.glt
theorem Ch.eok : c.e.Ok := by obtain ⟨S, k, s, _⟩ := h.ex; obtain ⟨_, _, f⟩ := k.fi; exact f.ok
theorem Ch.tok : c.t.Ok := by obtain ⟨S, k, s, _⟩ := h.ex; obtain ⟨_, f⟩ := k.ms; exact f.mx.ok
theorem Ch.size : w0.heap.size ≤ w.heap.size := by obtain ⟨S, k, s, _⟩ := h.ex; exact s.mods.size
theorem Ch.scU : U c.sc := by obtain ⟨S, k, s, _⟩ := h.ex; exact k.sc
end
end

end Go.Proofs.YteohkobdmkbcpaaGreatDoor.Cs
