/- Registers as they lie in the model's world: a block of cells as one list; a state, a File, the document's File. No program is walked here. -/
import Derived.Test.YtgljkadelkglbaaGTlb
import Derived.Test.YtgljkadelkglbaaGPsl
import Derived.Deep.MidRow
namespace Go.Proofs.Ytgljkadelkglbaa.Cs
open Go.RowKit Ps Tl

/-- a block of cells of one type -/
def Bk (W : World) (b t : Nat) (l : List Value) : Prop := W.heap[b]? = some (.cells l.toArray t (0, 0))
section
variable {W W' : World} {b b' t : Nat} {l : List Value}
theorem Bk.lt (h : Bk W b t l) : b < W.heap.size := lt_of_heap h
theorem Bk.cell (h : Bk W b t l) (i : Nat) (v : Value) (hv : l[i]? = some v) : W.cell? ⟨b, i, none⟩ = some v := by
  unfold Bk at h; simp [World.cell?, h, hv]
theorem Bk.free (h : Bk W b t l) (i : Nat) : W.frozen? ⟨b, i, none⟩ = false := by
  unfold Bk at h; simp [World.frozen?, h]
theorem Bk.set (h : Bk W b t l) (i : Nat) (v : Value) : Bk (W.setCell ⟨b, i, none⟩ v) b t (l.set i v) := by
  unfold Bk at h ⊢
  simp [World.setCell, Array.getElem?_modify, h]
theorem Bk.other (h : Bk W b t l) (hb : b ≠ b') (i : Nat) (v : Value) : Bk (W.setCell ⟨b', i, none⟩ v) b t l := by
  unfold Bk at h ⊢
  rw [Below.heap_setCell _ _ _ _ hb]; exact h
theorem Bk.drew (h : Bk W b t l) : Bk W.drew b t l := h
theorem Bk.alloc (h : Bk W b t l) (o : Obj) : Bk (W.alloc o) b t l := by
  have := h.lt
  unfold Bk at h ⊢
  show (W.heap.push o)[b]? = _
  rw [Array.getElem?_push, if_neg (by omega)]; exact h
theorem Bk.new (W : World) (t : Nat) (l : List Value) : Bk (W.alloc (.cells l.toArray t)) W.heap.size t l := by
  unfold Bk
  show (W.heap.push _)[W.heap.size]? = _
  simp
theorem Bk.mods {S : Nat → Prop} (h : Bk W b t l) (m : Mods S W W') (hs : ¬ S b) : Bk W' b t l := (m.block b h.lt hs).trans h
theorem Bk.below (h : Bk W b t l) (m : Below W.heap.size W W') : Bk W' b t l := (m.block b h.lt).trans h
theorem Bk.range (h : Bk W b t l) (o : Nat) (cs : List Value) (hc : (l.drop o).take cs.length = cs) : W.rangeAt b o cs := fun j v hv => by
  refine h.cell _ _ ?_
  have hj := (List.getElem?_eq_some_iff.1 hv).1
  have e : cs[j]? = l[o + j]? := by
    rw [← hc, List.getElem?_take, if_pos hj, List.getElem?_drop]
  rw [← e]; exact hv
theorem Bk.there (h : Bk W b t l) (o n : Nat) (hn : o + n ≤ l.length) : W.there b o n := fun j hj => by
  refine ⟨?_, h.free _⟩
  rw [h.cell (o + j) _ (List.getElem?_eq_getElem (by omega))]; rfl
theorem Bk.setCells : ∀ (cs : List Value) (o : Nat) {W : World} {l : List Value}, Bk W b t l → Bk (W.setCells b o cs) b t (l.take o ++ cs ++ l.drop (o + cs.length)) ∨ l.length < o + cs.length
  | [], o, W, l, h => by left; simpa [World.setCells] using h
  | v :: r, o, W, l, h => by
    rw [World.setCells]
    rcases Bk.setCells r (o + 1) (h.set o v) with k | k
    · by_cases ho : o < l.length
      · left
        have e : (l.set o v).take (o + 1) ++ r ++ (l.set o v).drop (o + 1 + r.length) = l.take o ++ v :: r ++ l.drop (o + (v :: r).length) := by
          rw [List.drop_set_of_lt (by omega), show o + (v :: r).length = o + 1 + r.length by simp; omega]
          have : (l.set o v).take (o + 1) = l.take o ++ [v] := by
            apply List.ext_getElem?
            intro i
            simp only [List.getElem?_take, List.getElem?_set, List.getElem?_append, List.length_take]
            by_cases h1 : i < o
            · rw [if_pos (by omega), if_neg (by omega), if_pos (by omega)]; simp [h1]
            · by_cases h2 : i = o
              · subst h2; simp [ho, Nat.min_eq_left (Nat.le_of_lt ho)]
              · rw [if_neg (by omega), if_neg (by omega)]
                symm; rw [List.getElem?_eq_none]; simp; omega
          rw [this]; simp
        rw [← e]; exact k
      · right; simp; omega
    · right; simp at k ⊢; omega
theorem mods_setCells (S : Nat → Prop) {w : World} : ∀ (cs : List Value) (o : Nat) {W : World}, Mods S w W → (S b ∨ w.heap.size ≤ b) → Mods S w (W.setCells b o cs)
  | [], _, _, h, _ => h
  | v :: r, o, W, h, hb => by
    rw [World.setCells]
    exact mods_setCells S r (o + 1) (h.set (p := ⟨b, o, none⟩) v hb) hb
end

/-- numbers: the registers, the status, both ends beside -/
structure Re where
  r : List Int
  p : Int
  k : Int
  u : Int
structure Re.Ok (e : Re) : Prop where
  len : e.r.length = 16
  num : ∀ i, U (e.r.getD i 0)
  p : U e.p
  k : U e.k
  u : U e.u
/-- as cells, with what follows -/
def Re.cells (e : Re) (t : List Value) : List Value := c1 e.r ++ (.int .u32 e.p :: .int .u32 e.k :: .int .u32 e.u :: t)
def Re.nul : Re := ⟨List.replicate 16 0, 0, 0, 0⟩
theorem Re.nul_ok : Re.nul.Ok := ⟨rfl, fun i => by
  have : (Re.nul.r.getD i 0) = 0 := by
    unfold Re.nul; simp only [List.getD, List.getElem?_replicate]; split <;> rfl
  rw [this]; exact ⟨by omega, by omega⟩, ⟨by simp [Re.nul], by simp [Re.nul]⟩, ⟨by simp [Re.nul], by simp [Re.nul]⟩, ⟨by simp [Re.nul], by simp [Re.nul]⟩⟩

section
variable {e : Re} {t : List Value}
theorem Re.length (h : e.Ok) (t : List Value) : (e.cells t).length = 19 + t.length := by simp [Re.cells, c1_length, h.len]; omega
theorem Re.at_r (h : e.Ok) (t : List Value) {i : Nat} (hi : i < 16) : (e.cells t)[i]? = some (.int .u32 (e.r.getD i 0)) := by
  unfold Re.cells
  rw [List.getElem?_append_left (by rw [c1_length, h.len]; exact hi)]
  exact c1_get _ _ (by rw [h.len]; exact hi)
theorem Re.at_p (h : e.Ok) (t : List Value) : (e.cells t)[16]? = some (.int .u32 e.p) := by
  unfold Re.cells
  rw [List.getElem?_append_right (by rw [c1_length, h.len]; omega), c1_length, h.len]; rfl
theorem Re.at_k (h : e.Ok) (t : List Value) : (e.cells t)[17]? = some (.int .u32 e.k) := by
  unfold Re.cells
  rw [List.getElem?_append_right (by rw [c1_length, h.len]; omega), c1_length, h.len]; rfl
theorem Re.at_u (h : e.Ok) (t : List Value) : (e.cells t)[18]? = some (.int .u32 e.u) := by
  unfold Re.cells
  rw [List.getElem?_append_right (by rw [c1_length, h.len]; omega), c1_length, h.len]; rfl
theorem Re.at_t (h : e.Ok) (t : List Value) (i : Nat) : (e.cells t)[19 + i]? = t[i]? := by
  unfold Re.cells
  rw [List.getElem?_append_right (by rw [c1_length, h.len]; omega), c1_length, h.len, show 19 + i - 16 = i + 1 + 1 + 1 by omega]; simp
theorem Re.drop_r (e : Re) (t : List Value) : ((e.cells t).drop 0).take (c1 e.r).length = c1 e.r := by simp [Re.cells]
theorem Re.drop_t (h : e.Ok) (t : List Value) : (e.cells t).drop 19 = t := by
  unfold Re.cells
  rw [List.drop_append]
  simp [c1_length, h.len, List.drop_eq_nil_of_le]
/-- one register is another number; the status; the ends -/
def Re.reg (e : Re) (i : Nat) (x : Int) : Re := ⟨e.r.set i x, e.p, e.k, e.u⟩
theorem c1_set (l : List Int) (i : Nat) (x : Int) : c1 (l.set i x) = (c1 l).set i (.int .u32 x) := by simp [c1]
theorem Re.set_r (h : e.Ok) (t : List Value) {i : Nat} (hi : i < 16) (x : Int) : (e.cells t).set i (.int .u32 x) = (e.reg i x).cells t := by
  unfold Re.cells Re.reg
  rw [List.set_append_left _ _ (by rw [c1_length, h.len]; exact hi), c1_set]
theorem Re.set_p (h : e.Ok) (t : List Value) (x : Int) : (e.cells t).set 16 (.int .u32 x) = (⟨e.r, x, e.k, e.u⟩ : Re).cells t := by
  unfold Re.cells
  rw [List.set_append_right _ _ (by rw [c1_length, h.len]; omega), c1_length, h.len]; rfl
theorem Re.set_k (h : e.Ok) (t : List Value) (x : Int) : (e.cells t).set 17 (.int .u32 x) = (⟨e.r, e.p, x, e.u⟩ : Re).cells t := by
  unfold Re.cells
  rw [List.set_append_right _ _ (by rw [c1_length, h.len]; omega), c1_length, h.len]; rfl
theorem Re.set_u (h : e.Ok) (t : List Value) (x : Int) : (e.cells t).set 18 (.int .u32 x) = (⟨e.r, e.p, e.k, x⟩ : Re).cells t := by
  unfold Re.cells
  rw [List.set_append_right _ _ (by rw [c1_length, h.len]; omega), c1_length, h.len]; rfl
theorem Re.set_t (h : e.Ok) (t : List Value) (i : Nat) (v : Value) : (e.cells t).set (19 + i) v = e.cells (t.set i v) := by
  unfold Re.cells
  rw [List.set_append_right _ _ (by rw [c1_length, h.len]; omega), c1_length, h.len, show 19 + i - 16 = i + 1 + 1 + 1 by omega]; simp
theorem U_mod (x : Int) : U (x % 4294967296) := ⟨by omega, by omega⟩
theorem getD_set (l : List Int) (i j : Nat) (x : Int) : (l.set i x).getD j 0 = if i = j ∧ j < l.length then x else l.getD j 0 := by
  simp only [List.getD, List.getElem?_set]
  by_cases h : i = j
  · subst h
    by_cases h2 : i < l.length
    · simp [h2]
    · simp [h2]
  · simp [h]
theorem Re.reg_ok (h : e.Ok) {i : Nat} {x : Int} (hx : U x) : (e.reg i x).Ok :=
  ⟨by simp [Re.reg, h.len], fun j => by
    show U ((e.r.set i x).getD j 0)
    rw [getD_set]; split
    · exact hx
    · exact h.num j, h.p, h.k, h.u⟩
end
theorem one_cells {e : Re} {t : List Value} (h : ∀ v ∈ t, v.oneCell' = true) : ∀ v ∈ e.cells t, v.oneCell' = true := by
  intro v hv
  simp only [Re.cells, List.mem_append, List.mem_cons] at hv
  rcases hv with hv | rfl | rfl | rfl | hv
  · exact c1_one _ v hv
  · rfl
  · rfl
  · rfl
  · exact h v hv

/-- Block g is a File: these numbers, what was stepped by registers, how often. -/
structure Fi (w : World) (g : Nat) (e : Re) (ss : List Int) (n : Int) : Prop where
  bk : Bk w g 58 (e.cells (c1 ss ++ [.int .i64 n]))
  ok : e.Ok
  sl : ss.length = 16
  sn : ∀ i, U (ss.getD i 0)
/-- what else a state holds -/
structure Xs where
  a0 : Int
  a1 : Int
  a2 : Int
  a3 : Int
  a4 : Int
  a5 : Int
  a6 : Int
def Xs.l (x : Xs) : List Value := [.int .u32 x.a0, .int .u32 x.a1, .int .u32 x.a2, .int .u32 x.a3, .int .u32 x.a4, .int .u32 x.a5, .int .i64 x.a6]
theorem Xs.one (x : Xs) : ∀ v ∈ x.l, v.oneCell' = true := by
  intro v hv
  simp only [Xs.l, List.mem_cons, List.not_mem_nil, or_false] at hv
  rcases hv with rfl | rfl | rfl | rfl | rfl | rfl | rfl <;> rfl
/-- a state as a value -/
def sv (e : Re) (x : Xs) : Value := .agg (e.cells x.l).toArray

section
variable {w w' : World} {g : Nat} {e : Re} {ss : List Int} {n : Int} {S : Nat → Prop}
theorem Fi.mods (h : Fi w g e ss n) (m : Mods S w w') (hs : ¬ S g) : Fi w' g e ss n := ⟨h.bk.mods m hs, h.ok, h.sl, h.sn⟩
theorem Fi.drew (h : Fi w g e ss n) : Fi w.drew g e ss n := ⟨h.bk.drew, h.ok, h.sl, h.sn⟩
theorem Fi.below (h : Fi w g e ss n) (m : Below w.heap.size w w') : Fi w' g e ss n := ⟨h.bk.below m, h.ok, h.sl, h.sn⟩
theorem Fi.tail (h : Fi w g e ss n) : (c1 ss ++ [Value.int .i64 n]).length = 17 := by simp [c1_length, h.sl]
theorem Fi.c_r (h : Fi w g e ss n) {i : Nat} (hi : i < 16) : w.cell? ⟨g, i, none⟩ = some (.int .u32 (e.r.getD i 0)) := h.bk.cell i _ (Re.at_r h.ok _ hi)
theorem Fi.c_p (h : Fi w g e ss n) : w.cell? ⟨g, 16, none⟩ = some (.int .u32 e.p) := h.bk.cell 16 _ (Re.at_p h.ok _)
theorem Fi.c_k (h : Fi w g e ss n) : w.cell? ⟨g, 17, none⟩ = some (.int .u32 e.k) := h.bk.cell 17 _ (Re.at_k h.ok _)
theorem Fi.c_u (h : Fi w g e ss n) : w.cell? ⟨g, 18, none⟩ = some (.int .u32 e.u) := h.bk.cell 18 _ (Re.at_u h.ok _)
theorem Fi.c_s (h : Fi w g e ss n) {i : Nat} (hi : i < 16) : w.cell? ⟨g, 19 + i, none⟩ = some (.int .u32 (ss.getD i 0)) := by
  refine h.bk.cell (19 + i) _ ?_
  rw [Re.at_t h.ok, List.getElem?_append_left (by rw [c1_length, h.sl]; exact hi)]
  exact c1_get _ _ (by rw [h.sl]; exact hi)
theorem Fi.c_n (h : Fi w g e ss n) : w.cell? ⟨g, 35, none⟩ = some (.int .i64 n) := by
  refine h.bk.cell 35 _ ?_
  rw [show 35 = 19 + 16 from rfl, Re.at_t h.ok, List.getElem?_append_right (by rw [c1_length, h.sl]; omega), c1_length, h.sl]; rfl
theorem Fi.free (h : Fi w g e ss n) (i : Nat) : w.frozen? ⟨g, i, none⟩ = false := h.bk.free i
theorem Fi.set_r (h : Fi w g e ss n) {i : Nat} (hi : i < 16) {x : Int} (hx : U x) : Fi (w.setCell ⟨g, i, none⟩ (.int .u32 x)) g (e.reg i x) ss n :=
  ⟨Re.set_r h.ok _ hi x ▸ h.bk.set i _, Re.reg_ok h.ok hx, h.sl, h.sn⟩
theorem Fi.set_p (h : Fi w g e ss n) {x : Int} (hx : U x) : Fi (w.setCell ⟨g, 16, none⟩ (.int .u32 x)) g ⟨e.r, x, e.k, e.u⟩ ss n :=
  ⟨Re.set_p h.ok _ x ▸ h.bk.set 16 _, ⟨h.ok.len, h.ok.num, hx, h.ok.k, h.ok.u⟩, h.sl, h.sn⟩
theorem Fi.set_k (h : Fi w g e ss n) {x : Int} (hx : U x) : Fi (w.setCell ⟨g, 17, none⟩ (.int .u32 x)) g ⟨e.r, e.p, x, e.u⟩ ss n :=
  ⟨Re.set_k h.ok _ x ▸ h.bk.set 17 _, ⟨h.ok.len, h.ok.num, h.ok.p, hx, h.ok.u⟩, h.sl, h.sn⟩
theorem Fi.set_u (h : Fi w g e ss n) {x : Int} (hx : U x) : Fi (w.setCell ⟨g, 18, none⟩ (.int .u32 x)) g ⟨e.r, e.p, e.k, x⟩ ss n :=
  ⟨Re.set_u h.ok _ x ▸ h.bk.set 18 _, ⟨h.ok.len, h.ok.num, h.ok.p, h.ok.k, hx⟩, h.sl, h.sn⟩
theorem Fi.set_s (h : Fi w g e ss n) {i : Nat} (hi : i < 16) {x : Int} (hx : U x) : Fi (w.setCell ⟨g, 19 + i, none⟩ (.int .u32 x)) g e (ss.set i x) n :=
  ⟨by
    have := h.bk.set (19 + i) (.int .u32 x)
    rw [Re.set_t h.ok, List.set_append_left _ _ (by rw [c1_length, h.sl]; exact hi), ← c1_set] at this
    exact this, h.ok, by simp [h.sl], fun j => by
    rw [getD_set]; split
    · exact hx
    · exact h.sn j⟩
theorem Fi.set_n (h : Fi w g e ss n) (m : Int) : Fi (w.setCell ⟨g, 35, none⟩ (.int .i64 m)) g e ss m :=
  ⟨by
    have := h.bk.set (19 + 16) (.int .i64 m)
    rw [Re.set_t h.ok, List.set_append_right _ _ (by rw [c1_length, h.sl]; omega), c1_length, h.sl] at this
    exact this, h.ok, h.sl, h.sn⟩
end
end Go.Proofs.Ytgljkadelkglbaa.Cs
