/- Contracts of package mmu: runs. -/
import Derived.Test.YtfpdemlcmfaieaaMPlc
namespace Go.Proofs.Ytfpdemlcmfaieaa.Cs
open Go.RowKit

/-- Runs as cells. -/
def c3 : List Run → List Value
  | [] => []
  | x :: l => .int .u32 x.va :: .int .u32 x.pa :: .int .i64 x.n :: c3 l
theorem c3_length (l : List Run) : (c3 l).length = l.length * 3 := by
  induction l with
  | nil => rfl
  | cons x l ih => simp only [c3, List.length_cons, ih]; omega
theorem c3_app (l k : List Run) : c3 (l ++ k) = c3 l ++ c3 k := by
  induction l with
  | nil => rfl
  | cons x l ih => simp [c3, ih]
theorem c3_one (l : List Run) : ∀ v ∈ c3 l, v.oneCell' = true := by
  induction l with
  | nil => simp [c3]
  | cons x l ih =>
    intro v hv
    simp only [c3, List.mem_cons] at hv
    rcases hv with rfl | rfl | rfl | hv
    · rfl
    · rfl
    · rfl
    · exact ih v hv
theorem c3_get (l : List Run) (i : Nat) (x : Run) (h : l[i]? = some x) : (c3 l)[i * 3]? = some (.int .u32 x.va) ∧ (c3 l)[i * 3 + 1]? = some (.int .u32 x.pa) ∧ (c3 l)[i * 3 + 2]? = some (.int .i64 x.n) := by
  induction l generalizing i with
  | nil => simp at h
  | cons y l ih =>
    cases i with
    | zero => simp at h; subst h; simp [c3]
    | succ i =>
      rw [show (i + 1) * 3 = i * 3 + 1 + 1 + 1 by omega]
      simpa [c3] using ih i (by simpa using h)
def R3 (w : World) (v : Value) (l : List Run) : Prop := w.ownsRow 0 101 3 v l.length (c3 l)
theorem R3.nil (w : World) : R3 w (.slice none 0 0) [] := ⟨by simp [c3], .inl ⟨rfl, rfl⟩⟩
theorem R3.typ {w : World} {v : Value} {l : List Run} (h : R3 w v l) {i : Nat} (hi : Tl.Bl v i) : Typ w i 101 := own_typ h hi
theorem under_runs : Try.prog.underlying 95 = some (.slice 101) := by kernel_rfl
theorem run_info : (Try.prog.info? 101).map (fun i => (i.zero, i.size, i.bytes)) = some (some (.agg #[.int .u32 0, .int .u32 0, .int .i64 0]), 3, 16) := by kernel_rfl
/-- append of one run. -/
theorem run_app3 (w : World) (v : Value) (l : List Run) (x : Run) (h : R3 w v l) (hl : l.length ≤ 1000000) :
    ∃ r' cap' w', (Builtin.append_ #[95, 95] 95 #[v, .slice (some ⟨w.heap.size, 0, none⟩) 1 1]).run Try.prog (w.alloc (.cells #[.int .u32 x.va, .int .u32 x.pa, .int .i64 x.n] 101)) = .ok (.slice (some ⟨r', 0, none⟩) (l.length + 1) cap') w' ∧
      Hid (R3 w' (.slice (some ⟨r', 0, none⟩) (l.length + 1) cap') (l ++ [x]) ∧ Tl.Step (Tl.Bl v) (Tl.Bl (.slice (some ⟨r', 0, none⟩) (l.length + 1) cap')) w w') := by
  obtain ⟨i, hi, hz, hsz, hb⟩ := info_parts run_info
  have hown : (w.alloc (.cells #[.int .u32 x.va, .int .u32 x.pa, .int .i64 x.n] 101)).ownsRow 0 101 3 v l.length (c3 l) := h.alloc _
  obtain ⟨v', w', hrun, ho, hg, _, hat⟩ := run_append_own_at (P := Try.prog) _ 0 95 95 101 i (.agg #[.int .u32 0, .int .u32 0, .int .i64 0]) 3 16 under_runs hi hz hsz hb rfl (by omega) v l.length (c3 l) hown ⟨w.heap.size, 0, none⟩ 1 1 (c3 [x])
    rfl (fun j u hj => by
      rw [Addr.add_lit, cell_of_row _ w.heap.size _ _ _ _ (heap_alloc_new w _)]
      simpa [c3] using hj) (c3_one _) (by simp only [maxLen]; omega) (by omega) (by simp)
  obtain ⟨r', cap', rfl⟩ : ∃ r' cap', v' = .slice (some ⟨r', 0, none⟩) (l.length + 1) cap' := by
    rcases ho.2 with ⟨_, h⟩ | ⟨g, cap, cur, rfl, _⟩
    · omega
    · exact ⟨g, cap, rfl⟩
  refine ⟨r', cap', w', hrun, ?_, ?_, ?_⟩
  · show w'.ownsRow _ _ _ _ _ _
    rw [List.length_append, c3_app]; exact ho
  · exact (Tl.Mods.refl (Tl.Bl v) w |>.alloc _).trans (Tl.Mods.of_grown hg (fun k e => e)) (fun _ _ h => h)
  · intro k hk
    rcases hat with e | e
    · exact .inl (by rw [Tl.Bl, ← e]; exact hk)
    · right
      rw [Tl.Bl, e] at hk
      injection hk with hk
      simp at hk
      omega

/-- What runs answers. -/
def RuE (w : World) (a : Acc) (e : Ending) (w' : World) : Prop :=
  match a with
  | .ok l => ∃ v, e = .returned (.tuple #[v, (Value.agg #[Value.int .i64 0, Value.int .u32 0, Value.int .u32 0])]) ∧ R3 w' v l ∧ Tl.Ab w.heap.size (Tl.Bl v)
  | .bad k va i => e = .returned (.tuple #[.slice none 0 0, (Value.agg #[Value.int .i64 k, Value.int .u32 va, Value.int .u32 i])])
/-- The state of the loop. -/
structure Lp (w : World) (g rg tg r : Nat) (S0 S : Nat → Prop) (t : Tabs) (xs : List Int) (u wr ah : Bool) (o : Acc × Rows) (B : Nat) (v : Value) (va z : Int) (l : List Run) (rows : Rows) (W : World) : Prop where
  eq : o = walk t xs u wr (!ah) rows l va z.toNat
  row : R3 W v l
  ab : Tl.Ab w.heap.size (Tl.Bl v)
  mx : Mx W g rg tg S t rows
  mem : Rm.Mem W rg r xs
  st : Tl.Step S0 S w W
  fr : Fr w.heap.size u wr ah W
  hv : U va
  len : l.length + z.toNat ≤ B
section
variable {w W W' : World} {g rg tg r : Nat} {S0 S S1 : Nat → Prop} {t : Tabs} {xs : List Int} {u wr ah : Bool} {o : Acc × Rows} {B : Nat} {v v' : Value} {va z : Int} {l : List Run} {rows rows' : Rows}
theorem row_tb (h : R3 W v l) (b : Tl.Tb W tg S rows) : Tl.Apart S (Tl.Bl v) := fun k hs hb => tb_not b (h.typ hb) (by decide) (by decide) hs
theorem row_mem (h : R3 W v l) (b : Rm.Mem W rg r xs) : ¬ Tl.Bl v rg ∧ ¬ Tl.Bl v r :=
  ⟨fun e => absurd ((h.typ e).ne (mem_typ b).1) (by decide), fun e => absurd ((h.typ e).ne (mem_typ b).2) (by decide)⟩
theorem row_mx (h : R3 W v l) (b : Mx W g rg tg S t rows) : ¬ Tl.Bl v g := fun e => absurd ((h.typ e).ne b.typ) (by decide)
theorem row_fr {n : Nat} (h : R3 W v l) (b : Fr n u wr ah W) : ¬ Tl.Bl v n ∧ ¬ Tl.Bl v (n + 1) :=
  ⟨fun e => absurd ((h.typ e).ne ⟨_, _, b.us⟩) (by decide), fun e => absurd ((h.typ e).ne ⟨_, _, b.fl⟩) (by decide)⟩
theorem tb_fr {n : Nat} (h : Tl.Tb W tg S rows) (b : Fr n u wr ah W) : ¬ S n ∧ ¬ S (n + 1) :=
  ⟨tb_not h ⟨_, _, b.us⟩ (by decide) (by decide), tb_not h ⟨_, _, b.fl⟩ (by decide) (by decide)⟩
/-- place has answered a place: the loop goes on behind append. -/
theorem Lp.next (h : Lp w g rg tg r S0 S t xs u wr ah o B v va z l rows W) (hT : Tl.Tb W' tg S1 (plR t xs rows va u wr (!ah))) (hs : Tl.Step S S1 W W') {W2 W3 : World} (hb : Below W'.heap.size W' W2)
    {a : Int} {n : Nat} (hn : z.toNat ≠ 0) (hc : cnt va z.toNat = n) (hp : plE t xs rows va n u wr = .ok a) (hr : R3 W3 v' (l ++ [⟨va, a, n⟩])) (hs' : Tl.Step (Tl.Bl v) (Tl.Bl v') W2 W3) :
    Lp w g rg tg r S0 S1 t xs u wr ah o B v' (nxt va z.toNat) (z - n) (l ++ [⟨va, a, n⟩]) (plR t xs rows va u wr (!ah)) W3 := by
  have hmx := (h.mx.turn hT hs).below hb
  have hmem := (mem_tb h.mem h.mx.tb hs.mods).below_ hb
  have hrow : R3 W2 v l := Tl.own_below (Tl.own_mods h.row hs.mods (row_tb h.row h.mx.tb)) hb
  have hfr := (h.fr.mods hs.mods (tb_fr h.mx.tb h.fr).1 (tb_fr h.mx.tb h.fr).2).below hb
  have hst := (h.st.trans hs).trans (Tl.Step.of_below hb)
  have hpos := cnt_pos va z.toNat hn
  have hle := cnt_le va z.toNat
  refine ⟨?_, hr, ?_, hmx.mods hs'.mods (row_mx hrow hmx) (row_tb hrow hmx.tb).symm, mem_mods hmem hs'.mods (row_mem hrow hmem).1 (row_mem hrow hmem).2, ⟨hst.mods.trans hs'.mods (fun i hi e => ?_), hst.grow⟩, hfr.mods hs'.mods (row_fr hrow hfr).1 (row_fr hrow hfr).2, nxt_U _ _, ?_⟩
  · rw [h.eq, walk_ok hn (by rw [hc]; exact hp), hc]
    congr 1
    omega
  · exact fun k hk => by
      rcases hs'.grow k hk with e | e
      · exact h.ab k e
      · have := hst.mods.size; omega
  · have := h.ab i e; omega
  · have := h.len
    simp only [List.length_append, List.length_cons, List.length_nil]
    omega
end

end Go.Proofs.Ytfpdemlcmfaieaa.Cs
