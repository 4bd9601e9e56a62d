/- The document's File as it lies in the model's world; rows of register numbers. -/
import Derived.Test.YtgljkadelkglbaaHLaw
namespace Go.Proofs.Ytgljkadelkglbaa.Cs
open Go.RowKit Ps Tl

/-- cells of ints, a row of them, append of one -/
def ci (xs : List Int) : List Value := xs.map fun x => .int .i64 x
theorem ci_length (xs : List Int) : (ci xs).length = xs.length := by simp [ci]
theorem ci_one (xs : List Int) : ∀ v ∈ ci xs, v.oneCell' = true := by
  intro v hv
  simp only [ci, List.mem_map] at hv
  obtain ⟨x, _, rfl⟩ := hv
  rfl
theorem ci_get (xs : List Int) (i : Nat) (h : i < xs.length) : (ci xs)[i]? = some (.int .i64 (xs.getD i 0)) := by simp [ci, List.getD, h]
theorem ci_app (xs ys : List Int) : ci (xs ++ ys) = ci xs ++ ci ys := by simp [ci]
def Ri (w : World) (v : Value) (xs : List Int) : Prop := w.ownsRow 0 3 1 v xs.length (ci xs)
theorem under_ints : Try.prog.underlying 33 = some (.slice 3) := by kernel_rfl
theorem int_info : (Try.prog.info? 3).map (fun i => (i.zero, i.size, i.bytes)) = some (some (.int .i64 0), 1, 8) := by kernel_rfl
theorem run_appi (w : World) (v : Value) (xs : List Int) (x : Int) (h : Ri w v xs) (hl : xs.length ≤ 1000000) :
    ∃ r' cap' w', (Builtin.append_ #[33, 33] 33 #[v, .slice (some ⟨w.heap.size, 0, none⟩) 1 1]).run Try.prog (w.alloc (.cells #[.int .i64 x] 3)) = .ok (.slice (some ⟨r', 0, none⟩) (xs.length + 1) cap') w' ∧
      Hid (Ri w' (.slice (some ⟨r', 0, none⟩) (xs.length + 1) cap') (xs ++ [x]) ∧ Step (Bl v) (Bl (.slice (some ⟨r', 0, none⟩) (xs.length + 1) cap')) w w') := by
  obtain ⟨i, hi, hz, hsz, hb⟩ := info_parts int_info
  have hown : (w.alloc (.cells #[.int .i64 x] 3)).ownsRow 0 3 1 v xs.length (ci xs) := h.alloc _
  obtain ⟨v', w', hrun, ho, hg, _, hat⟩ := run_append_own_at (P := Try.prog) _ 0 33 33 3 i (.int .i64 0) 1 8 under_ints hi hz hsz hb rfl (by omega) v xs.length (ci xs) hown ⟨w.heap.size, 0, none⟩ 1 1 (ci [x])
    rfl (cell_one_new w _ _) (ci_one [x]) (by simp only [maxLen]; omega) (by omega) (by simp)
  obtain ⟨r', cap', rfl⟩ : ∃ r' cap', v' = .slice (some ⟨r', 0, none⟩) (xs.length + 1) cap' := by
    rcases ho.2 with ⟨_, h⟩ | ⟨g, cap, cur, rfl, _⟩
    · omega
    · exact ⟨g, cap, rfl⟩
  refine ⟨r', cap', w', hrun, ?_, ?_, ?_⟩
  · show w'.ownsRow _ _ _ _ _ _
    rw [List.length_append, ci_app]; exact ho
  · exact (Mods.refl (Bl v) w |>.alloc _).trans (Mods.of_grown hg (fun k e => e)) (fun _ _ h => h)
  · intro k hk
    rcases hat with e | e
    · exact .inl (by rw [Bl, ← e]; exact hk)
    · right
      rw [Bl, e] at hk
      injection hk with hk
      simp at hk
      omega

/-- steps: register and number -/
abbrev Ps' := List (Nat × Int)
def fs (ps : Ps') : List Int := ps.map fun q => (q.1 : Int)
def sn (ps : Ps') : List Int := ps.map Prod.snd
theorem fs_length (ps : Ps') : (fs ps).length = ps.length := by simp [fs]
theorem sn_length (ps : Ps') : (sn ps).length = ps.length := by simp [sn]
theorem fs_app (ps : Ps') (k : Nat) (d : Int) : fs (ps ++ [(k, d)]) = fs ps ++ [(k : Int)] := by simp [fs]
theorem sn_app (ps : Ps') (k : Nat) (d : Int) : sn (ps ++ [(k, d)]) = sn ps ++ [d] := by simp [sn]
def x0 : Xs := ⟨0, 0, 0, 0, 0, 0, 0⟩

/-- Block m is the document's File; its blocks are S. -/
structure Rf (w : World) (m : Nat) (S : Nat → Prop) (e : Re) (ps : Ps') : Prop where
  ex : ∃ v u, Bk w m 36 (e.cells (x0.l ++ [v, u])) ∧ Ri w v (fs ps) ∧ R1 w u (sn ps) ∧ Apart (Bl v) (Bl u) ∧ ¬ Bl v m ∧ ¬ Bl u m ∧ ∀ k, S k ↔ (k = m ∨ Bl v k ∨ Bl u k)
  ok : e.Ok
  st : ∀ q ∈ ps, q.1 < 16 ∧ U q.2
section
variable {w w' : World} {m : Nat} {S T : Nat → Prop} {e e' : Re} {ps : Ps'}
theorem Rf.in_ (h : Rf w m S e ps) : S m := by obtain ⟨v, u, _, _, _, _, _, _, hS⟩ := h.ex; exact (hS m).2 (.inl rfl)
theorem Rf.lo (h : Rf w m S e ps) : Lo w.heap.size S := by
  obtain ⟨v, u, hb, hr, hr', _, _, _, hS⟩ := h.ex
  intro k hk
  rcases (hS k).1 hk with rfl | hk | hk
  · exact hb.lt
  · exact own_lo hr k hk
  · exact own_lo hr' k hk
theorem Rf.keep (h : Rf w m S e ps) (hk : ∀ k, S k → w'.heap[k]? = w.heap[k]?) : Rf w' m S e ps := by
  obtain ⟨v, u, hb, hr, hr', ha, h1, h2, hS⟩ := h.ex
  exact ⟨⟨v, u, (hk m h.in_).trans hb, own_keep hr (fun i hi => hk i ((hS i).2 (.inr (.inl hi)))), own_keep hr' (fun i hi => hk i ((hS i).2 (.inr (.inr hi)))), ha, h1, h2, hS⟩, h.ok, h.st⟩
theorem Rf.mods (h : Rf w m S e ps) (k : Mods T w w') (a : Apart T S) : Rf w' m S e ps :=
  h.keep fun i hi => k.block i (h.lo i hi) (fun ht => a i ht hi)
theorem Rf.below (h : Rf w m S e ps) (k : Below w.heap.size w w') : Rf w' m S e ps := h.keep fun i hi => k.block i (h.lo i hi)
theorem Rf.drew (h : Rf w m S e ps) : Rf w.drew m S e ps := h.keep fun _ _ => rfl
/-- a cell of its numbers is another one -/
theorem Rf.set (h : Rf w m S e ps) (i : Nat) (y : Value) (he : ∀ t, (e.cells t).set i y = e'.cells t) (ho : e'.Ok) : Rf (w.setCell ⟨m, i, none⟩ y) m S e' ps := by
  obtain ⟨v, u, hb, hr, hr', ha, h1, h2, hS⟩ := h.ex
  have hk : ∀ j, j ≠ m → (w.setCell ⟨m, i, none⟩ y).heap[j]? = w.heap[j]? := fun j hj => Below.heap_setCell _ _ _ _ hj
  exact ⟨⟨v, u, he _ ▸ hb.set i y, own_keep hr (fun j hj => hk j (fun e => h1 (e ▸ hj))), own_keep hr' (fun j hj => hk j (fun e => h2 (e ▸ hj))), ha, h1, h2, hS⟩, ho, h.st⟩
theorem Rf.set_r (h : Rf w m S e ps) {i : Nat} (hi : i < 16) {x : Int} (hx : U x) : Rf (w.setCell ⟨m, i, none⟩ (.int .u32 x)) m S (e.reg i x) ps :=
  h.set i _ (fun t => Re.set_r h.ok t hi x) (Re.reg_ok h.ok hx)
theorem Rf.set_p (h : Rf w m S e ps) {x : Int} (hx : U x) : Rf (w.setCell ⟨m, 16, none⟩ (.int .u32 x)) m S ⟨e.r, x, e.k, e.u⟩ ps :=
  h.set 16 _ (fun t => Re.set_p h.ok t x) ⟨h.ok.len, h.ok.num, hx, h.ok.k, h.ok.u⟩
theorem Rf.set_k (h : Rf w m S e ps) {x : Int} (hx : U x) : Rf (w.setCell ⟨m, 17, none⟩ (.int .u32 x)) m S ⟨e.r, e.p, x, e.u⟩ ps :=
  h.set 17 _ (fun t => Re.set_k h.ok t x) ⟨h.ok.len, h.ok.num, h.ok.p, hx, h.ok.u⟩
theorem Rf.set_u (h : Rf w m S e ps) {x : Int} (hx : U x) : Rf (w.setCell ⟨m, 18, none⟩ (.int .u32 x)) m S ⟨e.r, e.p, e.k, x⟩ ps :=
  h.set 18 _ (fun t => Re.set_u h.ok t x) ⟨h.ok.len, h.ok.num, h.ok.p, h.ok.k, hx⟩
theorem Rf.step_set (h : Rf w m S e ps) (i : Nat) (y : Value) : Step S S w (w.setCell ⟨m, i, none⟩ y) := ⟨(Mods.refl _ _).set _ (.inl h.in_), fun _ h => .inl h⟩
theorem step_refl (S : Nat → Prop) (w : World) : Step S S w w := ⟨Mods.refl _ _, fun _ h => .inl h⟩
theorem step_drew {S S' : Nat → Prop} (h : Step S S' w w') : Step S S' w w'.drew := ⟨h.mods.drew, h.grow⟩
theorem step_set {S S' : Nat → Prop} (h : Step S S' w w') {m : Nat} (hm : S m ∨ w.heap.size ≤ m) (i : Nat) (y : Value) : Step S S' w (w'.setCell ⟨m, i, none⟩ y) := ⟨h.mods.set _ hm, h.grow⟩
/-- its cells -/
theorem Rf.c_r (h : Rf w m S e ps) {i : Nat} (hi : i < 16) : w.cell? ⟨m, i, none⟩ = some (.int .u32 (e.r.getD i 0)) := by
  obtain ⟨v, u, hb, _⟩ := h.ex; exact hb.cell i _ (Re.at_r h.ok _ hi)
theorem Rf.c_p (h : Rf w m S e ps) : w.cell? ⟨m, 16, none⟩ = some (.int .u32 e.p) := by
  obtain ⟨v, u, hb, _⟩ := h.ex; exact hb.cell 16 _ (Re.at_p h.ok _)
theorem Rf.c_k (h : Rf w m S e ps) : w.cell? ⟨m, 17, none⟩ = some (.int .u32 e.k) := by
  obtain ⟨v, u, hb, _⟩ := h.ex; exact hb.cell 17 _ (Re.at_k h.ok _)
theorem Rf.c_u (h : Rf w m S e ps) : w.cell? ⟨m, 18, none⟩ = some (.int .u32 e.u) := by
  obtain ⟨v, u, hb, _⟩ := h.ex; exact hb.cell 18 _ (Re.at_u h.ok _)
theorem Rf.free (h : Rf w m S e ps) (i : Nat) : w.frozen? ⟨m, i, none⟩ = false := by
  obtain ⟨v, u, hb, _⟩ := h.ex; exact hb.free i
theorem Rf.range (h : Rf w m S e ps) : w.rangeAt m 0 (c1 e.r) := by
  obtain ⟨v, u, hb, _⟩ := h.ex; exact hb.range 0 _ (Re.drop_r e _)
theorem Rf.lt (h : Rf w m S e ps) : m < w.heap.size := h.lo m h.in_
/-- both rows -/
theorem Rf.open_ (h : Rf w m S e ps) : ∃ A c B d, w.cell? ⟨m, 26, none⟩ = some (.slice A ps.length c) ∧ w.cell? ⟨m, 27, none⟩ = some (.slice B ps.length d) ∧
    Ri w (.slice A ps.length c) (fs ps) ∧ R1 w (.slice B ps.length d) (sn ps) ∧ Bk w m 36 (e.cells (x0.l ++ [.slice A ps.length c, .slice B ps.length d])) ∧
    Apart (Bl (.slice A ps.length c)) (Bl (.slice B ps.length d)) ∧ ¬ Bl (.slice A ps.length c) m ∧ ¬ Bl (.slice B ps.length d) m ∧ ∀ k, S k ↔ (k = m ∨ Bl (.slice A ps.length c) k ∨ Bl (.slice B ps.length d) k) := by
  obtain ⟨v, u, hb, hr, hr', ha, h1, h2, hS⟩ := h.ex
  obtain ⟨A, c, rfl⟩ : ∃ A c, v = .slice A ps.length c := by
    rcases own_shape hr with ⟨rfl, hn⟩ | ⟨r, cap, rfl, _⟩
    · rw [fs_length] at hn; exact ⟨none, 0, by rw [hn]⟩
    · rw [fs_length]; exact ⟨_, _, rfl⟩
  obtain ⟨B, d, rfl⟩ : ∃ B d, u = .slice B ps.length d := by
    rcases own_shape hr' with ⟨rfl, hn⟩ | ⟨r, cap, rfl, _⟩
    · rw [sn_length] at hn; exact ⟨none, 0, by rw [hn]⟩
    · rw [sn_length]; exact ⟨_, _, rfl⟩
  refine ⟨A, c, B, d, hb.cell 26 _ ?_, hb.cell 27 _ ?_, hr, hr', hb, ha, h1, h2, hS⟩
  · rw [show 26 = 19 + 7 from rfl, Re.at_t h.ok]; rfl
  · rw [show 27 = 19 + 8 from rfl, Re.at_t h.ok]; rfl
end
end Go.Proofs.Ytgljkadelkglbaa.Cs
