/- An instruction that is done, as it lies in the world; what its two ways say. -/
import Derived.Test.YteohkobdmkbcpaaGreatDoorXEva2
namespace Go.Proofs.YteohkobdmkbcpaaGreatDoor.Cs
open Go.RowKit
set_option linter.unusedVariables false
set_option linter.unusedSimpArgs false

/-- Operands as cells. -/
def cod : List Od → List Value
  | [] => []
  | o :: l => .int .i64 o.z :: .int .u32 o.x :: .int .i64 o.r :: .int .u32 o.a :: cod l
theorem cod_app (l m : List Od) : cod (l ++ m) = cod l ++ cod m := by
  induction l with
  | nil => rfl
  | cons o l ih => simp [cod, ih]
theorem cod_length (l : List Od) : (cod l).length = l.length * 4 := by
  induction l with
  | nil => rfl
  | cons o l ih => simp only [cod, List.length_cons, ih]; omega
theorem cod_one (l : List Od) : ∀ v ∈ cod l, v.oneCell' = true := by
  induction l with
  | nil => simp [cod]
  | cons o l ih =>
    intro v hv
    simp only [cod, List.mem_cons] at hv
    rcases hv with rfl | rfl | rfl | rfl | hv
    · rfl
    · rfl
    · rfl
    · rfl
    · exact ih v hv
theorem cod_get (l : List Od) (i : Nat) (h : i < l.length) : (cod l)[i * 4]? = some (.int .i64 (l.getD i zod).z) ∧ (cod l)[i * 4 + 1]? = some (.int .u32 (l.getD i zod).x) ∧ (cod l)[i * 4 + 2]? = some (.int .i64 (l.getD i zod).r) ∧ (cod l)[i * 4 + 3]? = some (.int .u32 (l.getD i zod).a) := by
  induction l generalizing i with
  | nil => simp at h
  | cons o l ih =>
    cases i with
    | zero => simp [cod]
    | succ i =>
      have := ih i (by simpa using h)
      rw [show (i + 1) * 4 = i * 4 + 1 + 1 + 1 + 1 by omega]
      simpa [cod] using this
/-- A row of operands. -/
def R4 (w : World) (v : Value) (l : List Od) : Prop := w.ownsRow 0 122 4 v l.length (cod l)
theorem R4.nil (w : World) : R4 w (.slice none 0 0) [] := ⟨by simp [cod], .inl ⟨rfl, rfl⟩⟩
theorem R4.typ {w : World} {v : Value} {l : List Od} (h : R4 w v l) {i : Nat} (hi : Tl.Bl v i) : Mm.Typ w i 122 := Mm.own_typ h hi
theorem under_opd : Tryz.prog.underlying 110 = some (.slice 122) := by kernel_rfl
theorem opd_info : (Tryz.prog.info? 122).map (fun i => (i.zero, i.size, i.bytes)) = some (some (.agg #[.int .i64 0, .int .u32 0, .int .i64 0, .int .u32 0]), 4, 32) := by kernel_rfl
theorem R4.shape {w : World} {v : Value} {l : List Od} (h : R4 w v l) : ∃ A c, v = .slice A l.length c := by
  rcases Tl.own_shape h with ⟨rfl, hl⟩ | ⟨r, cap, rfl, _⟩
  · exact ⟨none, 0, by rw [hl]⟩
  · exact ⟨_, _, rfl⟩
theorem run_appd (w : World) (v : Value) (l : List Od) (o : Od) (h : R4 w v l) (hl : l.length ≤ 1000000) :
    ∃ r' cap' w', (Builtin.append_ #[110, 110] 110 #[v, .slice (some ⟨w.heap.size, 0, none⟩) 1 1]).run Tryz.prog (w.alloc (.cells #[.int .i64 o.z, .int .u32 o.x, .int .i64 o.r, .int .u32 o.a] 122)) = .ok (.slice (some ⟨r', 0, none⟩) (l.length + 1) cap') w' ∧
      Hid (R4 w' (.slice (some ⟨r', 0, none⟩) (l.length + 1) cap') (l ++ [o]) ∧ Tl.Step (Tl.Bl v) (Tl.Bl (.slice (some ⟨r', 0, none⟩) (l.length + 1) cap')) w w') := by
  obtain ⟨i, hi, hz, hsz, hb⟩ := info_parts opd_info
  obtain ⟨r', cap', w', hrun, ho, hst⟩ := Tl.Ia.run_app under_opd hi hz hsz hb rfl (by omega) (by omega) w v l.length (cod l) (cod [o]) h hl rfl (cod_one _)
  refine ⟨r', cap', w', hrun, ?_, hst⟩
  show w'.ownsRow _ _ _ _ _ _
  rw [List.length_append, cod_app]
  exact ho

/-- An instruction that is done, in block d. -/
structure Do (w : World) (a : Ad) (d : Nat) (D : Dg) : Prop where
  ex : ∃ u v, w.heap[d]? = some (.cells #[.pointer (some ⟨a.g, 0, none⟩), .int .u32 D.st, .int .i64 D.op.code, .string (Tl.Ia.sb D.op.name), .int .i64 D.op.cls, .int .i64 D.op.alu, u, v] 112 (0, 0)) ∧ R4 w v D.l
section
variable {w0 w w' : World} {a : Ad} {S0 : Nat → Prop} {c : Mc} {d : Nat} {D : Dg}
theorem r4_mv {v : Value} {l : List Od} (h : R4 w v l) (m : Mv a w w') (k : Ch w0 a S0 c w) : R4 w' v l :=
  Tl.own_keep h fun i hi => m.heap k ⟨_, h.typ hi, not_mty (.inr (.inr (.inr (.inr (.inl rfl))))), by decide⟩
theorem Do.mv (h : Do w a d D) (m : Mv a w w') (k : Ch w0 a S0 c w) : Do w' a d D := by
  obtain ⟨u, v, h1, h2⟩ := h.ex
  exact ⟨u, v, (m.heap k ⟨_, ⟨_, _, h1⟩, not_mty (.inr (.inr (.inr (.inl rfl)))), by decide⟩).trans h1, r4_mv h2 m k⟩
theorem Do.below (h : Do w a d D) (b : Below w.heap.size w w') : Do w' a d D := by
  obtain ⟨u, v, h1, h2⟩ := h.ex
  exact ⟨u, v, (b.block _ (Tl.lt_of_heap h1)).trans h1, Tl.own_keep h2 fun i hi => b.block i (Tl.own_lo h2 i hi)⟩
/-- Its operands can be read. -/
structure Da (w : World) (a : Ad) (d : Nat) (D : Dg) (A : Option Addr) (n cp : Nat) : Prop where
  len : D.l.length = n
  c0 : w.cell? ⟨d, 0, none⟩ = some (.pointer (some ⟨a.g, 0, none⟩))
  c1 : w.cell? ⟨d, 1, none⟩ = some (.int .u32 D.st)
  c2 : w.cell? ⟨d, 2, none⟩ = some (.int .i64 D.op.code)
  c4 : w.cell? ⟨d, 4, none⟩ = some (.int .i64 D.op.cls)
  c5 : w.cell? ⟨d, 5, none⟩ = some (.int .i64 D.op.alu)
  c7 : w.cell? ⟨d, 7, none⟩ = some (.slice A n cp)
  lt : d < w.heap.size
  at_ : ∀ k, k < n → ∃ r, A = some ⟨r, 0, none⟩ ∧ r < w.heap.size ∧ w.cell? ⟨r, k * 4, none⟩ = some (.int .i64 (D.l.getD k zod).z) ∧ w.cell? ⟨r, k * 4 + 1, none⟩ = some (.int .u32 (D.l.getD k zod).x) ∧ w.cell? ⟨r, k * 4 + 2, none⟩ = some (.int .i64 (D.l.getD k zod).r) ∧ w.cell? ⟨r, k * 4 + 3, none⟩ = some (.int .u32 (D.l.getD k zod).a)
theorem Da.k {r n cp : Nat} (h : Da w a d D (some ⟨r, 0, none⟩) n cp) {k : Nat} (hk : k < n) : r < w.heap.size ∧ w.cell? ⟨r, k * 4, none⟩ = some (.int .i64 (D.l.getD k zod).z) ∧ w.cell? ⟨r, k * 4 + 1, none⟩ = some (.int .u32 (D.l.getD k zod).x) ∧ w.cell? ⟨r, k * 4 + 2, none⟩ = some (.int .i64 (D.l.getD k zod).r) ∧ w.cell? ⟨r, k * 4 + 3, none⟩ = some (.int .u32 (D.l.getD k zod).a) := by
  obtain ⟨r', e, h1⟩ := h.at_ k hk
  injection e with e
  injection e with e
  subst e
  exact h1
theorem Da.below {A : Option Addr} {n cp : Nat} (h : Da w a d D A n cp) (b : Below w.heap.size w w') : Da w' a d D A n cp :=
  ⟨h.len, (b.cell (p := ⟨d, 0, none⟩) h.lt).trans h.c0, (b.cell (p := ⟨d, 1, none⟩) h.lt).trans h.c1, (b.cell (p := ⟨d, 2, none⟩) h.lt).trans h.c2, (b.cell (p := ⟨d, 4, none⟩) h.lt).trans h.c4, (b.cell (p := ⟨d, 5, none⟩) h.lt).trans h.c5, (b.cell (p := ⟨d, 7, none⟩) h.lt).trans h.c7, Nat.lt_of_lt_of_le h.lt b.size, fun k hk => by
    obtain ⟨r, e, hr, h0, h1, h2, h3⟩ := h.at_ k hk
    exact ⟨r, e, Nat.lt_of_lt_of_le hr b.size, (b.cell (p := ⟨r, k * 4, none⟩) hr).trans h0, (b.cell (p := ⟨r, k * 4 + 1, none⟩) hr).trans h1, (b.cell (p := ⟨r, k * 4 + 2, none⟩) hr).trans h2, (b.cell (p := ⟨r, k * 4 + 3, none⟩) hr).trans h3⟩⟩
theorem Do.da (h : Do w a d D) : ∃ A cp, Da w a d D A D.l.length cp := by
  obtain ⟨u, v, h1, h2⟩ := h.ex
  obtain ⟨A, cp, rfl⟩ := h2.shape
  refine ⟨A, cp, rfl, by rw [cell_of_row w d 0 _ _ _ h1]; rfl, by rw [cell_of_row w d 1 _ _ _ h1]; rfl, by rw [cell_of_row w d 2 _ _ _ h1]; rfl, by rw [cell_of_row w d 4 _ _ _ h1]; rfl, by rw [cell_of_row w d 5 _ _ _ h1]; rfl, by rw [cell_of_row w d 7 _ _ _ h1]; rfl, Tl.lt_of_heap h1, fun k hk => ?_⟩
  rcases Tl.own_shape h2 with ⟨_, e⟩ | ⟨r, cap, e, _, _, hr, hc, _⟩
  · omega
  · injection e with e1 _ _
    subst e1
    obtain ⟨g0, g1, g2, g3⟩ := cod_get D.l k hk
    exact ⟨r, rfl, hr, hc _ _ g0, hc _ _ g1, hc _ _ g2, hc _ _ g3⟩
end
/-- An operand that can be. -/
structure Od.Ok (o : Od) : Prop where
  z : Bt.Sz o.z
  x : U o.x
  a : U o.a
/-- Operands of an instruction: as many as it has, and of their sizes. -/
def Fits (D : Dg) : Prop := D.l.length = D.op.ops.length ∧ ∀ k, k < D.l.length → (D.l.getD k zod).Ok ∧ (D.l.getD k zod).z = (Tl.Ia.opn D.op.ops k).2
/-- What a way of an instruction does. -/
def Way (f : FuncId) (F : Mc → Dg → Option Rz × Mc) (q : Tl.Ia.Oq → Prop) : Prop :=
  ∀ (w0 : World) (a : Ad) (S0 : Nat → Prop) (c : Mc) (w : World) (d : Nat) (D : Dg), Ch w0 a S0 c w → Do w a d D → q D.op → Fits D →
    Calls Tryz.prog f #[.pointer (some ⟨d, 0, none⟩)] w fun e w' => ∃ v, e = .returned v ∧ Rp w w' (F c D).1 v ∧ Ch w0 a S0 (F c D).2 w' ∧ Mv a w w'

end Go.Proofs.YteohkobdmkbcpaaGreatDoor.Cs
