/- Contracts: the registers and the tables of a machine. -/
import Derived.Test.YteohkobdmkbcpaaGreatDoorXMem
import Derived.WalkKit
import Derived.WalkLawsBesides
import Derived.Outline
import Derived.Handy
import Derived.OpenShut
import Derived.Deep.RegionHeld3
namespace Go.Proofs.YteohkobdmkbcpaaGreatDoor.Cs
open Go.RowKit
set_option linter.unusedVariables false
set_option linter.unusedSimpArgs false

section
variable {w0 w w' : World} {a : Ad} {S0 S S' T T' : Nat → Prop} {c : Mc} {e' : Hr.Re} {ss' : List Int} {n' : Int}
theorem fo_step (s : Tl.Step T T' w w') (h1 : ∀ k, T k → Fo a S k) (h2 : ∀ k, S' k → T' k) : Tl.Step (Fo a S) (Fo a S') w w' :=
  ⟨s.mods.mono (fun k _ hk => h1 k hk), fun k hk => by
    rcases hk with hk | hk | hk | hk | hk
    · exact .inl (.inl hk)
    · exact .inl (.inr (.inl hk))
    · exact .inl (.inr (.inr (.inl hk)))
    · exact .inl (.inr (.inr (.inr (.inl hk))))
    · rcases s.grow k (h2 k hk) with e | e
      · exact .inl (h1 k e)
      · exact .inr e⟩
theorem Mach.ne_gf (h : Mach w a S c) : a.g ≠ a.fg := fun e => absurd ((e ▸ h.gtyp).ne h.ftyp) (by decide)
theorem Mach.ms_fg (h : Mach w a S c) (m : Tl.Mods (Hr.One a.fg) w w') : ∃ rows, Mm.Ms w' a.mg a.rg a.r a.tg S c.t rows c.xs := by
  obtain ⟨r, k⟩ := h.ms
  have e : ∀ i t, Mm.Typ w i t → t ≠ 93 → w'.heap[i]? = w.heap[i]? := fun i t ht hne => m.block i (typ_lt ht) (fun e => hne (by have e : i = a.fg := e; subst e; exact ht.ne h.ftyp))
  refine ⟨r, ⟨⟨(e _ _ h.mtyp (by decide)).trans k.mx.box, k.mx.tb.keep (fun i hi => ?_), k.mx.ok⟩, k.mem.keep (e _ _ h.rgtyp (by decide)) (e _ _ h.rtyp (by decide))⟩⟩
  rcases h.styp hi with q | q
  · exact e _ _ q (by decide)
  · exact e _ _ q (by decide)
/-- The registers turn. -/
theorem Mach.regs (h : Mach w a S c) (f : Hr.Fi w' a.fg e' ss' n') (m : Tl.Mods (Hr.One a.fg) w w') : Mach w' a S { c with e := e' } :=
  ⟨(m.block _ h.glt h.ne_gf).trans h.box, h.ms_fg m, ⟨_, _, f⟩, h.sc⟩
theorem one_step (m : Tl.Mods (Hr.One a.fg) w w') : Tl.Step (Fo a S) (Fo a S) w w' :=
  ⟨m.mono (fun k _ hk => .inr (.inr (.inr (.inl hk)))), fun _ h => .inl h⟩
theorem Ch.regs (h : Ch w0 a S0 c w) (k : ∀ ss n, Hr.Fi w a.fg c.e ss n → (∃ ss' n', Hr.Fi w' a.fg e' ss' n') ∧ Tl.Mods (Hr.One a.fg) w w') : Ch w0 a S0 { c with e := e' } w' ∧ Mv a w w' :=
  h.next fun S m => by
    obtain ⟨ss, n, f⟩ := m.fi
    obtain ⟨⟨ss', n', f'⟩, q⟩ := k ss n f
    exact ⟨S, m.regs f' q, one_step q⟩
end

section
variable {w0 : World} {a : Ad} {S0 : Nat → Prop} {c : Mc}
theorem fget (w : World) (h : Ch w0 a S0 c w) (k : Int) : Calls Tryz.prog 55 #[.pointer (some ⟨a.fg, 0, none⟩), .int .i64 k] w fun e w' => e = .returned (.int .u32 (c.gr k)) ∧ w = w' := by
  obtain ⟨S, m, _⟩ := h.ex
  obtain ⟨ss, n, f⟩ := m.fi
  by_cases hk : 0 ≤ k ∧ k < 16
  · have := Hr.get_in w a.fg c.e ss n f k.toNat (by omega)
    rw [show ((k.toNat : Nat) : Int) = k by omega] at this
    rw [Mc.gr, if_pos hk]
    exact this
  · rw [Mc.gr, if_neg hk]
    exact Hr.get_out w a.fg k (by omega)
theorem gr_U (h : c.e.Ok) (k : Int) : U (c.gr k) := by
  unfold Mc.gr
  split
  · exact h.num _
  · exact ⟨by omega, by omega⟩
theorem sr_reg {k : Int} (hk : 0 ≤ k ∧ k < 16) (x : Int) : c.sr k x = { c with e := c.e.reg k.toNat x } := by rw [Mc.sr, if_pos hk]
theorem fsetz (w : World) (h : Ch w0 a S0 c w) (k x s : Int) (hx : U x) (hs : Bt.Sz s) : Calls Tryz.prog 77 #[.pointer (some ⟨a.fg, 0, none⟩), .int .i64 k, .int .u32 x, .int .i64 s] w fun e w' => (∃ v, e = .returned (.int .i64 v)) ∧ Ch w0 a S0 (c.sp k x s) w' ∧ Mv a w w' := by
  by_cases hk : 0 ≤ k ∧ k < 16
  · have e : ((k.toNat : Nat) : Int) = k := by omega
    obtain ⟨S, m, _⟩ := h.ex
    obtain ⟨ss, n, f⟩ := m.fi
    have := Hr.set_in w a.fg c.e ss n f k.toNat (by omega) x hx s hs
    rw [e] at this
    refine this.mono ?_
    rintro e w' ⟨rfl, f', q⟩
    refine ⟨⟨_, rfl⟩, ?_⟩
    rw [Mc.sp, sr_reg hk, Mc.gr, if_pos hk]
    exact h.next fun S m => ⟨S, m.regs f' q, one_step q⟩
  · refine (Hr.set_out w a.fg k (by omega) x s).mono ?_
    rintro e w' ⟨rfl, rfl⟩
    refine ⟨⟨_, rfl⟩, ?_⟩
    rw [Mc.sp, Mc.sr, if_neg hk]
    exact ⟨h, Mv.refl _ _⟩
theorem pu_four {o x : Int} (ho : U o) (hx : U x) : Hr.pu o x 4 = x := by
  obtain ⟨a0, a1⟩ := ho
  obtain ⟨b0, b1⟩ := hx
  simp only [Hr.pu, Bt.W]
  simp
  omega
theorem fset (w : World) (h : Ch w0 a S0 c w) (k x : Int) (hx : U x) : Calls Tryz.prog 77 #[.pointer (some ⟨a.fg, 0, none⟩), .int .i64 k, .int .u32 x, .int .i64 4] w fun e w' => (∃ v, e = .returned (.int .i64 v)) ∧ Ch w0 a S0 (c.sr k x) w' ∧ Mv a w w' := by
  have := fsetz w h k x 4 hx (.inr (.inr rfl))
  rw [Mc.sp, pu_four (gr_U h.eok k) hx] at this
  exact this
theorem fpsl (w : World) (h : Ch w0 a S0 c w) : Calls Tryz.prog 30 #[.pointer (some ⟨a.fg, 0, none⟩)] w fun e w' => e = .returned (.int .u32 c.e.p) ∧ w = w' := by
  obtain ⟨S, m, _⟩ := h.ex
  obtain ⟨ss, n, f⟩ := m.fi
  exact Hr.psl_any w a.fg c.e ss n f
theorem fput (w : World) (h : Ch w0 a S0 c w) (x : Int) (hx : U x) : Calls Tryz.prog 52 #[.pointer (some ⟨a.fg, 0, none⟩), .int .u32 x] w fun e w' => e = .returned (.tuple #[]) ∧ Ch w0 a S0 (c.psl x) w' ∧ Mv a w w' := by
  obtain ⟨S, m, _⟩ := h.ex
  obtain ⟨ss, n, f⟩ := m.fi
  refine (Hr.put_any w a.fg c.e ss n f x hx).mono ?_
  rintro e w' ⟨rfl, f', q⟩
  exact ⟨rfl, h.next fun S m => ⟨S, m.regs f' q, one_step q⟩⟩
theorem fstack (w : World) (h : Ch w0 a S0 c w) (u : Bool) : Calls Tryz.prog 49 #[.pointer (some ⟨a.fg, 0, none⟩), .bool u] w fun e w' => e = .returned (.int .u32 (c.stk u)) ∧ w = w' := by
  obtain ⟨S, m, _⟩ := h.ex
  obtain ⟨ss, n, f⟩ := m.fi
  exact Hr.stack_any w a.fg c.e ss n f u
theorem pU {w : World} (h : Ch w0 a S0 c w) : U c.e.p := h.eok.p

/-- What a call gives that leaves the machine, but for the buffer. -/
theorem nx_below {w w' : World} (h : Ch w0 a S0 c w) (b : Below w.heap.size w w') : Ch w0 a S0 c w' ∧ Mv a w w' := ⟨h.below b, Mv.of_below b⟩
theorem nx_trans {w w1 w2 : World} {c' : Mc} (m : Mv a w w1) (k : Ch w0 a S0 c' w2 ∧ Mv a w1 w2) : Ch w0 a S0 c' w2 ∧ Mv a w w2 := ⟨k.1, m.trans k.2⟩
end

end Go.Proofs.YteohkobdmkbcpaaGreatDoor.Cs
