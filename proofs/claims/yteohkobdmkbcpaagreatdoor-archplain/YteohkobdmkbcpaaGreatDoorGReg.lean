import Derived.Test.YteohkobdmkbcpaaGreatDoorGTlb
import Derived.Test.YteohkobdmkbcpaaGreatDoorGPsl
import Derived.Deep.MidRow
import Derived.Deep.RegionHeld3
import Derived.Laws.StructEq
import Derived.Test.YteohkobdmkbcpaaGreatDoorGBit
import Derived.StillTailTactics
import Derived.Deep.RegionWith

/- Registers as they lie in the model's world: a block of cells as one list; a state, a File, the document's File. No program is walked here. -/
namespace Go.Proofs.YteohkobdmkbcpaaGreatDoor.Hr
open Go.RowKit Ps Tl

/-- a block of cells of one type -/
def Bk (W : World) (b t : Nat) (l : List Value) : Prop := W.heap[b]? = some (.cells l.toArray t (0, 0))
section
variable {W W' : World} {b b' t : Nat} {l : List Value}
theorem Bk.lt (h : Bk W b t l) : b < W.heap.size := lt_of_heap h
theorem Bk.cell (h : Bk W b t l) (i : Nat) (v : Value) (hv : l[i]? = some v) : W.cell? ⟨b, i, none⟩ = some v := by
  unfold Bk at h; simp [World.cell?, h, hv]
theorem Bk.free (h : Bk W b t l) (i : Nat) : W.frozen? ⟨b, i, none⟩ = false := by
  unfold Bk at h; simp [World.frozen?, h]
theorem Bk.set (h : Bk W b t l) (i : Nat) (v : Value) : Bk (W.setCell ⟨b, i, none⟩ v) b t (l.set i v) := by
  unfold Bk at h ⊢
  simp [World.setCell, Array.getElem?_modify, h]
theorem Bk.other (h : Bk W b t l) (hb : b ≠ b') (i : Nat) (v : Value) : Bk (W.setCell ⟨b', i, none⟩ v) b t l := by
  unfold Bk at h ⊢
  rw [Below.heap_setCell _ _ _ _ hb]; exact h
theorem Bk.drew (h : Bk W b t l) : Bk W.drew b t l := h
theorem Bk.alloc (h : Bk W b t l) (o : Obj) : Bk (W.alloc o) b t l := by
  have := h.lt
  unfold Bk at h ⊢
  show (W.heap.push o)[b]? = _
  rw [Array.getElem?_push, if_neg (by omega)]; exact h
theorem Bk.new (W : World) (t : Nat) (l : List Value) : Bk (W.alloc (.cells l.toArray t)) W.heap.size t l := by
  unfold Bk
  show (W.heap.push _)[W.heap.size]? = _
  simp
theorem Bk.mods {S : Nat → Prop} (h : Bk W b t l) (m : Mods S W W') (hs : ¬ S b) : Bk W' b t l := (m.block b h.lt hs).trans h
theorem Bk.below (h : Bk W b t l) (m : Below W.heap.size W W') : Bk W' b t l := (m.block b h.lt).trans h
theorem Bk.range (h : Bk W b t l) (o : Nat) (cs : List Value) (hc : (l.drop o).take cs.length = cs) : W.rangeAt b o cs := fun j v hv => by
  refine h.cell _ _ ?_
  have hj := (List.getElem?_eq_some_iff.1 hv).1
  have e : cs[j]? = l[o + j]? := by
    rw [← hc, List.getElem?_take, if_pos hj, List.getElem?_drop]
  rw [← e]; exact hv
theorem Bk.there (h : Bk W b t l) (o n : Nat) (hn : o + n ≤ l.length) : W.there b o n := fun j hj => by
  refine ⟨?_, h.free _⟩
  rw [h.cell (o + j) _ (List.getElem?_eq_getElem (by omega))]; rfl
theorem Bk.setCells : ∀ (cs : List Value) (o : Nat) {W : World} {l : List Value}, Bk W b t l → Bk (W.setCells b o cs) b t (l.take o ++ cs ++ l.drop (o + cs.length)) ∨ l.length < o + cs.length
  | [], o, W, l, h => by left; simpa [World.setCells] using h
  | v :: r, o, W, l, h => by
    rw [World.setCells]
    rcases Bk.setCells r (o + 1) (h.set o v) with k | k
    · by_cases ho : o < l.length
      · left
        have e : (l.set o v).take (o + 1) ++ r ++ (l.set o v).drop (o + 1 + r.length) = l.take o ++ v :: r ++ l.drop (o + (v :: r).length) := by
          rw [List.drop_set_of_lt (by omega), show o + (v :: r).length = o + 1 + r.length by simp; omega]
          have : (l.set o v).take (o + 1) = l.take o ++ [v] := by
            apply List.ext_getElem?
            intro i
            simp only [List.getElem?_take, List.getElem?_set, List.getElem?_append, List.length_take]
            by_cases h1 : i < o
            · rw [if_pos (by omega), if_neg (by omega), if_pos (by omega)]; simp [h1]
            · by_cases h2 : i = o
              · subst h2; simp [ho, Nat.min_eq_left (Nat.le_of_lt ho)]
              · rw [if_neg (by omega), if_neg (by omega)]
                symm; rw [List.getElem?_eq_none]; simp; omega
          rw [this]; simp
        rw [← e]; exact k
      · right; simp; omega
    · right; simp at k ⊢; omega
theorem mods_setCells (S : Nat → Prop) {w : World} : ∀ (cs : List Value) (o : Nat) {W : World}, Mods S w W → (S b ∨ w.heap.size ≤ b) → Mods S w (W.setCells b o cs)
  | [], _, _, h, _ => h
  | v :: r, o, W, h, hb => by
    rw [World.setCells]
    exact mods_setCells S r (o + 1) (h.set (p := ⟨b, o, none⟩) v hb) hb
end

/-- numbers: the registers, the status, both ends beside -/
structure Re where
  r : List Int
  p : Int
  k : Int
  u : Int
structure Re.Ok (e : Re) : Prop where
  len : e.r.length = 16
  num : ∀ i, U (e.r.getD i 0)
  p : U e.p
  k : U e.k
  u : U e.u
/-- as cells, with what follows -/
def Re.cells (e : Re) (t : List Value) : List Value := c1 e.r ++ (.int .u32 e.p :: .int .u32 e.k :: .int .u32 e.u :: t)
def Re.nul : Re := ⟨List.replicate 16 0, 0, 0, 0⟩
theorem Re.nul_ok : Re.nul.Ok := ⟨rfl, fun i => by
  have : (Re.nul.r.getD i 0) = 0 := by
    unfold Re.nul; simp only [List.getD, List.getElem?_replicate]; split <;> rfl
  rw [this]; exact ⟨by omega, by omega⟩, ⟨by simp [Re.nul], by simp [Re.nul]⟩, ⟨by simp [Re.nul], by simp [Re.nul]⟩, ⟨by simp [Re.nul], by simp [Re.nul]⟩⟩

section
variable {e : Re} {t : List Value}
theorem Re.length (h : e.Ok) (t : List Value) : (e.cells t).length = 19 + t.length := by simp [Re.cells, c1_length, h.len]; omega
theorem Re.at_r (h : e.Ok) (t : List Value) {i : Nat} (hi : i < 16) : (e.cells t)[i]? = some (.int .u32 (e.r.getD i 0)) := by
  unfold Re.cells
  rw [List.getElem?_append_left (by rw [c1_length, h.len]; exact hi)]
  exact c1_get _ _ (by rw [h.len]; exact hi)
theorem Re.at_p (h : e.Ok) (t : List Value) : (e.cells t)[16]? = some (.int .u32 e.p) := by
  unfold Re.cells
  rw [List.getElem?_append_right (by rw [c1_length, h.len]; omega), c1_length, h.len]; rfl
theorem Re.at_k (h : e.Ok) (t : List Value) : (e.cells t)[17]? = some (.int .u32 e.k) := by
  unfold Re.cells
  rw [List.getElem?_append_right (by rw [c1_length, h.len]; omega), c1_length, h.len]; rfl
theorem Re.at_u (h : e.Ok) (t : List Value) : (e.cells t)[18]? = some (.int .u32 e.u) := by
  unfold Re.cells
  rw [List.getElem?_append_right (by rw [c1_length, h.len]; omega), c1_length, h.len]; rfl
theorem Re.at_t (h : e.Ok) (t : List Value) (i : Nat) : (e.cells t)[19 + i]? = t[i]? := by
  unfold Re.cells
  rw [List.getElem?_append_right (by rw [c1_length, h.len]; omega), c1_length, h.len, show 19 + i - 16 = i + 1 + 1 + 1 by omega]; simp
theorem Re.drop_r (e : Re) (t : List Value) : ((e.cells t).drop 0).take (c1 e.r).length = c1 e.r := by simp [Re.cells]
theorem Re.drop_t (h : e.Ok) (t : List Value) : (e.cells t).drop 19 = t := by
  unfold Re.cells
  rw [List.drop_append]
  simp [c1_length, h.len, List.drop_eq_nil_of_le]
/-- one register is another number; the status; the ends -/
def Re.reg (e : Re) (i : Nat) (x : Int) : Re := ⟨e.r.set i x, e.p, e.k, e.u⟩
theorem c1_set (l : List Int) (i : Nat) (x : Int) : c1 (l.set i x) = (c1 l).set i (.int .u32 x) := by simp [c1]
theorem Re.set_r (h : e.Ok) (t : List Value) {i : Nat} (hi : i < 16) (x : Int) : (e.cells t).set i (.int .u32 x) = (e.reg i x).cells t := by
  unfold Re.cells Re.reg
  rw [List.set_append_left _ _ (by rw [c1_length, h.len]; exact hi), c1_set]
theorem Re.set_p (h : e.Ok) (t : List Value) (x : Int) : (e.cells t).set 16 (.int .u32 x) = (⟨e.r, x, e.k, e.u⟩ : Re).cells t := by
  unfold Re.cells
  rw [List.set_append_right _ _ (by rw [c1_length, h.len]; omega), c1_length, h.len]; rfl
theorem Re.set_k (h : e.Ok) (t : List Value) (x : Int) : (e.cells t).set 17 (.int .u32 x) = (⟨e.r, e.p, x, e.u⟩ : Re).cells t := by
  unfold Re.cells
  rw [List.set_append_right _ _ (by rw [c1_length, h.len]; omega), c1_length, h.len]; rfl
theorem Re.set_u (h : e.Ok) (t : List Value) (x : Int) : (e.cells t).set 18 (.int .u32 x) = (⟨e.r, e.p, e.k, x⟩ : Re).cells t := by
  unfold Re.cells
  rw [List.set_append_right _ _ (by rw [c1_length, h.len]; omega), c1_length, h.len]; rfl
theorem Re.set_t (h : e.Ok) (t : List Value) (i : Nat) (v : Value) : (e.cells t).set (19 + i) v = e.cells (t.set i v) := by
  unfold Re.cells
  rw [List.set_append_right _ _ (by rw [c1_length, h.len]; omega), c1_length, h.len, show 19 + i - 16 = i + 1 + 1 + 1 by omega]; simp
theorem U_mod (x : Int) : U (x % 4294967296) := ⟨by omega, by omega⟩
theorem getD_set (l : List Int) (i j : Nat) (x : Int) : (l.set i x).getD j 0 = if i = j ∧ j < l.length then x else l.getD j 0 := by
  simp only [List.getD, List.getElem?_set]
  by_cases h : i = j
  · subst h
    by_cases h2 : i < l.length
    · simp [h2]
    · simp [h2]
  · simp [h]
theorem Re.reg_ok (h : e.Ok) {i : Nat} {x : Int} (hx : U x) : (e.reg i x).Ok :=
  ⟨by simp [Re.reg, h.len], fun j => by
    show U ((e.r.set i x).getD j 0)
    rw [getD_set]; split
    · exact hx
    · exact h.num j, h.p, h.k, h.u⟩
end
theorem one_cells {e : Re} {t : List Value} (h : ∀ v ∈ t, v.oneCell' = true) : ∀ v ∈ e.cells t, v.oneCell' = true := by
  intro v hv
  simp only [Re.cells, List.mem_append, List.mem_cons] at hv
  rcases hv with hv | rfl | rfl | rfl | hv
  · exact c1_one _ v hv
  · rfl
  · rfl
  · rfl
  · exact h v hv

/-- Block g is a File: these numbers, what was stepped by registers, how often. -/
structure Fi (w : World) (g : Nat) (e : Re) (ss : List Int) (n : Int) : Prop where
  bk : Bk w g 93 (e.cells (c1 ss ++ [.int .i64 n]))
  ok : e.Ok
  sl : ss.length = 16
  sn : ∀ i, U (ss.getD i 0)
/-- what else a state holds -/
structure Xs where
  a0 : Int
  a1 : Int
  a2 : Int
  a3 : Int
  a4 : Int
  a5 : Int
  a6 : Int
def Xs.l (x : Xs) : List Value := [.int .u32 x.a0, .int .u32 x.a1, .int .u32 x.a2, .int .u32 x.a3, .int .u32 x.a4, .int .u32 x.a5, .int .i64 x.a6]
theorem Xs.one (x : Xs) : ∀ v ∈ x.l, v.oneCell' = true := by
  intro v hv
  simp only [Xs.l, List.mem_cons, List.not_mem_nil, or_false] at hv
  rcases hv with rfl | rfl | rfl | rfl | rfl | rfl | rfl <;> rfl
/-- a state as a value -/
def sv (e : Re) (x : Xs) : Value := .agg (e.cells x.l).toArray

section
variable {w w' : World} {g : Nat} {e : Re} {ss : List Int} {n : Int} {S : Nat → Prop}
theorem Fi.mods (h : Fi w g e ss n) (m : Mods S w w') (hs : ¬ S g) : Fi w' g e ss n := ⟨h.bk.mods m hs, h.ok, h.sl, h.sn⟩
theorem Fi.drew (h : Fi w g e ss n) : Fi w.drew g e ss n := ⟨h.bk.drew, h.ok, h.sl, h.sn⟩
theorem Fi.below (h : Fi w g e ss n) (m : Below w.heap.size w w') : Fi w' g e ss n := ⟨h.bk.below m, h.ok, h.sl, h.sn⟩
theorem Fi.tail (h : Fi w g e ss n) : (c1 ss ++ [Value.int .i64 n]).length = 17 := by simp [c1_length, h.sl]
theorem Fi.c_r (h : Fi w g e ss n) {i : Nat} (hi : i < 16) : w.cell? ⟨g, i, none⟩ = some (.int .u32 (e.r.getD i 0)) := h.bk.cell i _ (Re.at_r h.ok _ hi)
theorem Fi.c_p (h : Fi w g e ss n) : w.cell? ⟨g, 16, none⟩ = some (.int .u32 e.p) := h.bk.cell 16 _ (Re.at_p h.ok _)
theorem Fi.c_k (h : Fi w g e ss n) : w.cell? ⟨g, 17, none⟩ = some (.int .u32 e.k) := h.bk.cell 17 _ (Re.at_k h.ok _)
theorem Fi.c_u (h : Fi w g e ss n) : w.cell? ⟨g, 18, none⟩ = some (.int .u32 e.u) := h.bk.cell 18 _ (Re.at_u h.ok _)
theorem Fi.c_s (h : Fi w g e ss n) {i : Nat} (hi : i < 16) : w.cell? ⟨g, 19 + i, none⟩ = some (.int .u32 (ss.getD i 0)) := by
  refine h.bk.cell (19 + i) _ ?_
  rw [Re.at_t h.ok, List.getElem?_append_left (by rw [c1_length, h.sl]; exact hi)]
  exact c1_get _ _ (by rw [h.sl]; exact hi)
theorem Fi.c_n (h : Fi w g e ss n) : w.cell? ⟨g, 35, none⟩ = some (.int .i64 n) := by
  refine h.bk.cell 35 _ ?_
  rw [show 35 = 19 + 16 from rfl, Re.at_t h.ok, List.getElem?_append_right (by rw [c1_length, h.sl]; omega), c1_length, h.sl]; rfl
theorem Fi.free (h : Fi w g e ss n) (i : Nat) : w.frozen? ⟨g, i, none⟩ = false := h.bk.free i
theorem Fi.set_r (h : Fi w g e ss n) {i : Nat} (hi : i < 16) {x : Int} (hx : U x) : Fi (w.setCell ⟨g, i, none⟩ (.int .u32 x)) g (e.reg i x) ss n :=
  ⟨Re.set_r h.ok _ hi x ▸ h.bk.set i _, Re.reg_ok h.ok hx, h.sl, h.sn⟩
theorem Fi.set_p (h : Fi w g e ss n) {x : Int} (hx : U x) : Fi (w.setCell ⟨g, 16, none⟩ (.int .u32 x)) g ⟨e.r, x, e.k, e.u⟩ ss n :=
  ⟨Re.set_p h.ok _ x ▸ h.bk.set 16 _, ⟨h.ok.len, h.ok.num, hx, h.ok.k, h.ok.u⟩, h.sl, h.sn⟩
theorem Fi.set_k (h : Fi w g e ss n) {x : Int} (hx : U x) : Fi (w.setCell ⟨g, 17, none⟩ (.int .u32 x)) g ⟨e.r, e.p, x, e.u⟩ ss n :=
  ⟨Re.set_k h.ok _ x ▸ h.bk.set 17 _, ⟨h.ok.len, h.ok.num, h.ok.p, hx, h.ok.u⟩, h.sl, h.sn⟩
theorem Fi.set_u (h : Fi w g e ss n) {x : Int} (hx : U x) : Fi (w.setCell ⟨g, 18, none⟩ (.int .u32 x)) g ⟨e.r, e.p, e.k, x⟩ ss n :=
  ⟨Re.set_u h.ok _ x ▸ h.bk.set 18 _, ⟨h.ok.len, h.ok.num, h.ok.p, h.ok.k, hx⟩, h.sl, h.sn⟩
theorem Fi.set_s (h : Fi w g e ss n) {i : Nat} (hi : i < 16) {x : Int} (hx : U x) : Fi (w.setCell ⟨g, 19 + i, none⟩ (.int .u32 x)) g e (ss.set i x) n :=
  ⟨by
    have := h.bk.set (19 + i) (.int .u32 x)
    rw [Re.set_t h.ok, List.set_append_left _ _ (by rw [c1_length, h.sl]; exact hi), ← c1_set] at this
    exact this, h.ok, by simp [h.sl], fun j => by
    rw [getD_set]; split
    · exact hx
    · exact h.sn j⟩
theorem Fi.set_n (h : Fi w g e ss n) (m : Int) : Fi (w.setCell ⟨g, 35, none⟩ (.int .i64 m)) g e ss m :=
  ⟨by
    have := h.bk.set (19 + 16) (.int .i64 m)
    rw [Re.set_t h.ok, List.set_append_right _ _ (by rw [c1_length, h.sl]; omega), c1_length, h.sl] at this
    exact this, h.ok, h.sl, h.sn⟩
end
end Go.Proofs.YteohkobdmkbcpaaGreatDoor.Hr

/- Whole arrays and structs, by value: what the operations on them come to, without opening their cells. -/
namespace Go.Proofs.YteohkobdmkbcpaaGreatDoor.Hr
open Go.RowKit Ps Tl

section
variable {P : Program} {ops : Array Oper} {rest : List Oper} {op : Oper} {a : Act} {w : World} {Q : Exit → Act → World → Prop}
theorem run_box (w : World) (t : TypeId) (cs : List Value) : (Instr.box t (.agg cs.toArray)).run P w = .ok (.pointer (some ⟨w.heap.size, 0, none⟩)) (w.alloc (.cells cs.toArray t)) := by
  simp [Instr.box, newVar, newRow, Value.cells, go_sem]
theorem wl_box (hgd : op.guard = none) (t : TypeId) (x : Operand) (ho : op.op = .box t x) (cs : List Value) (hx : a.eval x = .agg cs.toArray)
    (h : wpList P ops Q rest (a.put op.dst (.pointer (some ⟨w.heap.size, 0, none⟩))) (w.alloc (.cells cs.toArray t))) : wpList P ops Q (op :: rest) a w :=
  wpList_plain hgd fun _ hK => by
    unfold Oper.wp execOp
    simp only [ho, hx, Sem.run_bind, run_box, Result.andThen_ok, Sem.run_pure]
    exact hK _ _ h
theorem wl_build (hgd : op.guard = none) (t : TypeId) (parts : Array (Nat × Operand)) (ho : op.op = .build t parts) (vs : Array (Nat × Value)) (hp : (parts.map fun q => (q.1, a.eval q.2)) = vs) (v : Value)
    (hr : (Instr.build t vs).run P w = .ok v w) (h : wpList P ops Q rest (a.put op.dst v) w) : wpList P ops Q (op :: rest) a w :=
  wpList_plain hgd fun _ hK => by
    unfold Oper.wp execOp
    simp only [ho]
    rw [show (parts.map fun x => match x with | (i, x) => (i, a.eval x)) = vs from hp]
    simp only [Sem.run_bind, hr, Result.andThen_ok, Sem.run_pure]
    exact hK _ _ h
end

theorem arr_under : Tryz.prog.underlying 24 = some (.array 16 23) := by kernel_rfl
theorem arr_size : (Tryz.prog.info? 24).map (·.size) = some 16 := by kernel_rfl
theorem st_size : (Tryz.prog.info? 28).map (·.size) = some 26 := by kernel_rfl
theorem fi_size : (Tryz.prog.info? 93).map (·.size) = some 36 := by kernel_rfl
theorem st_row : ∃ d, Tryz.prog.underlying 28 = some d ∧ d.isRow = true := ⟨_, Tryz.underlying28, rfl⟩

def zs : List Int := List.replicate 16 0
theorem zs_len : zs.length = 16 := rfl
theorem zs_num (i : Nat) : U (zs.getD i 0) := by
  have : zs.getD i 0 = 0 := by unfold zs; simp only [List.getD, List.getElem?_replicate]; split <;> rfl
  rw [this]; exact ⟨by omega, by omega⟩

theorem build_file16 (a0 a1 a2 a3 a4 a5 a6 a7 a8 a9 a10 a11 a12 a13 a14 a15 p k u : Int) (w : World) :
    (Instr.build 93 #[(0, .agg (c1 [a0, a1, a2, a3, a4, a5, a6, a7, a8, a9, a10, a11, a12, a13, a14, a15]).toArray), (1, .int .u32 p), (2, .int .u32 k), (3, .int .u32 u)]).run Tryz.prog w = .ok (.agg (Re.cells ⟨[a0, a1, a2, a3, a4, a5, a6, a7, a8, a9, a10, a11, a12, a13, a14, a15], p, k, u⟩ (c1 zs ++ [.int .i64 0])).toArray) w := by kernel_rfl
theorem build_file (rs : List Int) (p k u : Int) (h : rs.length = 16) (w : World) :
    (Instr.build 93 #[(0, .agg (c1 rs).toArray), (1, .int .u32 p), (2, .int .u32 k), (3, .int .u32 u)]).run Tryz.prog w = .ok (.agg (Re.cells ⟨rs, p, k, u⟩ (c1 zs ++ [.int .i64 0])).toArray) w := by
  match rs, h with
  | [a0, a1, a2, a3, a4, a5, a6, a7, a8, a9, a10, a11, a12, a13, a14, a15], _ => exact build_file16 a0 a1 a2 a3 a4 a5 a6 a7 a8 a9 a10 a11 a12 a13 a14 a15 p k u w
theorem build_state16 (a0 a1 a2 a3 a4 a5 a6 a7 a8 a9 a10 a11 a12 a13 a14 a15 p k u : Int) (w : World) :
    (Instr.build 28 #[(0, .agg (c1 [a0, a1, a2, a3, a4, a5, a6, a7, a8, a9, a10, a11, a12, a13, a14, a15]).toArray), (1, .int .u32 p), (2, .int .u32 k), (3, .int .u32 u)]).run Tryz.prog w = .ok (.agg (Re.cells ⟨[a0, a1, a2, a3, a4, a5, a6, a7, a8, a9, a10, a11, a12, a13, a14, a15], p, k, u⟩ (Xs.l ⟨0, 0, 0, 0, 0, 0, 0⟩)).toArray) w := by kernel_rfl
theorem build_state (rs : List Int) (p k u : Int) (h : rs.length = 16) (w : World) :
    (Instr.build 28 #[(0, .agg (c1 rs).toArray), (1, .int .u32 p), (2, .int .u32 k), (3, .int .u32 u)]).run Tryz.prog w = .ok (.agg (Re.cells ⟨rs, p, k, u⟩ (Xs.l ⟨0, 0, 0, 0, 0, 0, 0⟩)).toArray) w := by
  match rs, h with
  | [a0, a1, a2, a3, a4, a5, a6, a7, a8, a9, a10, a11, a12, a13, a14, a15], _ => exact build_state16 a0 a1 a2 a3 a4 a5 a6 a7 a8 a9 a10 a11 a12 a13 a14 a15 p k u w
theorem build_zero (w : World) : (Instr.build 24 #[]).run Tryz.prog w = .ok (.agg (c1 zs).toArray) w := by kernel_rfl

theorem eq_int (w : World) (d : Nat) (t : TypeId) (k k' : IntKind) (a : Int) (h : Tryz.prog.underlying t = some (.int k')) : (Op.equalIn (d + 1) t (.int k a) (.int k a)).run Tryz.prog w = .ok true w := by
  rw [run_equalIn_int w d t k k' a a h]; simp
theorem u32_eq (w : World) (d : Nat) (a : Int) : (Op.equalIn (d + 1) 23 (.int .u32 a) (.int .u32 a)).run Tryz.prog w = .ok true w := eq_int w d _ _ _ a Tryz.underlying23
theorem int_eq (w : World) (d : Nat) (a : Int) : (Op.equalIn (d + 1) 3 (.int .i64 a) (.int .i64 a)).run Tryz.prog w = .ok true w := eq_int w d _ _ _ a Tryz.underlying3
theorem eq_arr16 (a0 a1 a2 a3 a4 a5 a6 a7 a8 a9 a10 a11 a12 a13 a14 a15 : Int) (w : World) (d : Nat) : (Op.equalIn (d + 1 + 1) 24 (.agg (c1 [a0, a1, a2, a3, a4, a5, a6, a7, a8, a9, a10, a11, a12, a13, a14, a15]).toArray) (.agg (c1 [a0, a1, a2, a3, a4, a5, a6, a7, a8, a9, a10, a11, a12, a13, a14, a15]).toArray)).run Tryz.prog w = .ok true w := by
  have hs : (sizeOf 23).run Tryz.prog w = .ok 1 w := by kernel_rfl
  unfold Op.equalIn
  simp only [Sem.run_bind, run_underlying arr_under, Result.andThen_ok, hs]
  simp [List.range', c1]
  simp [u32_eq, part]
theorem eq_arr (rs : List Int) (h : rs.length = 16) (w : World) (d : Nat) : (Op.equalIn (d + 1 + 1) 24 (.agg (c1 rs).toArray) (.agg (c1 rs).toArray)).run Tryz.prog w = .ok true w := by
  match rs, h with
  | [a0, a1, a2, a3, a4, a5, a6, a7, a8, a9, a10, a11, a12, a13, a14, a15], _ => exact eq_arr16 a0 a1 a2 a3 a4 a5 a6 a7 a8 a9 a10 a11 a12 a13 a14 a15 w d
theorem eql_arr (rs : List Int) (h : rs.length = 16) (w : World) : (binOp .eql 24 (.agg (c1 rs).toArray) (.agg (c1 rs).toArray)).run Tryz.prog w = .ok (.bool true) w := by
  rw [run_eql_struct, eq_arr rs h w 9998]; rfl

theorem part_arr16 (a0 a1 a2 a3 a4 a5 a6 a7 a8 a9 a10 a11 a12 a13 a14 a15 p k u : Int) (x : Xs) (w : World) : (part 24 (Re.cells ⟨[a0, a1, a2, a3, a4, a5, a6, a7, a8, a9, a10, a11, a12, a13, a14, a15], p, k, u⟩ x.l).toArray 0).run Tryz.prog w = .ok (.agg (c1 [a0, a1, a2, a3, a4, a5, a6, a7, a8, a9, a10, a11, a12, a13, a14, a15]).toArray) w := by kernel_rfl
theorem part_tab16 (a0 a1 a2 a3 a4 a5 a6 a7 a8 a9 a10 a11 a12 a13 a14 a15 p k u : Int) (x : Xs) (w : World) : (part 26 (Re.cells ⟨[a0, a1, a2, a3, a4, a5, a6, a7, a8, a9, a10, a11, a12, a13, a14, a15], p, k, u⟩ x.l).toArray 19).run Tryz.prog w = .ok (.agg #[.int .u32 x.a0, .int .u32 x.a1, .int .u32 x.a2, .int .u32 x.a3, .int .u32 x.a4]) w := by kernel_rfl
theorem eq_tab (x : Xs) (w : World) (d : Nat) : (Op.equalIn (d + 1 + 1) 26 (.agg #[.int .u32 x.a0, .int .u32 x.a1, .int .u32 x.a2, .int .u32 x.a3, .int .u32 x.a4]) (.agg #[.int .u32 x.a0, .int .u32 x.a1, .int .u32 x.a2, .int .u32 x.a3, .int .u32 x.a4])).run Tryz.prog w = .ok true w := by
  rw [run_equalIn_struct w (d + 1) _ _ _ (by kernel_rfl) (by kernel_rfl)]
  simp only [Program.fieldsOf, Tryz.underlying26]
  simp [Op.eqFields, u32_eq, part]
theorem eq_state16 (a0 a1 a2 a3 a4 a5 a6 a7 a8 a9 a10 a11 a12 a13 a14 a15 p k u : Int) (x : Xs) (w : World) (d : Nat) : (Op.equalIn (d + 1 + 1 + 1) 28 (sv ⟨[a0, a1, a2, a3, a4, a5, a6, a7, a8, a9, a10, a11, a12, a13, a14, a15], p, k, u⟩ x) (sv ⟨[a0, a1, a2, a3, a4, a5, a6, a7, a8, a9, a10, a11, a12, a13, a14, a15], p, k, u⟩ x)).run Tryz.prog w = .ok true w := by
  unfold sv
  rw [run_equalIn_struct w (d + 1 + 1) _ _ _ (by kernel_rfl) (by kernel_rfl)]
  simp only [Program.fieldsOf, Tryz.underlying28]
  have h1 := eq_arr16 a0 a1 a2 a3 a4 a5 a6 a7 a8 a9 a10 a11 a12 a13 a14 a15
  have h2 := part_arr16 a0 a1 a2 a3 a4 a5 a6 a7 a8 a9 a10 a11 a12 a13 a14 a15 p k u x
  have h3 := part_tab16 a0 a1 a2 a3 a4 a5 a6 a7 a8 a9 a10 a11 a12 a13 a14 a15 p k u x
  have g1 : ∀ w, (part 23 (Re.cells ⟨[a0, a1, a2, a3, a4, a5, a6, a7, a8, a9, a10, a11, a12, a13, a14, a15], p, k, u⟩ x.l).toArray 16).run Tryz.prog w = .ok (.int .u32 p) w := fun _ => by kernel_rfl
  have g2 : ∀ w, (part 23 (Re.cells ⟨[a0, a1, a2, a3, a4, a5, a6, a7, a8, a9, a10, a11, a12, a13, a14, a15], p, k, u⟩ x.l).toArray 17).run Tryz.prog w = .ok (.int .u32 k) w := fun _ => by kernel_rfl
  have g3 : ∀ w, (part 23 (Re.cells ⟨[a0, a1, a2, a3, a4, a5, a6, a7, a8, a9, a10, a11, a12, a13, a14, a15], p, k, u⟩ x.l).toArray 18).run Tryz.prog w = .ok (.int .u32 u) w := fun _ => by kernel_rfl
  have g4 : ∀ w, (part 23 (Re.cells ⟨[a0, a1, a2, a3, a4, a5, a6, a7, a8, a9, a10, a11, a12, a13, a14, a15], p, k, u⟩ x.l).toArray 24).run Tryz.prog w = .ok (.int .u32 x.a5) w := fun _ => by kernel_rfl
  have g5 : ∀ w, (part 3 (Re.cells ⟨[a0, a1, a2, a3, a4, a5, a6, a7, a8, a9, a10, a11, a12, a13, a14, a15], p, k, u⟩ x.l).toArray 25).run Tryz.prog w = .ok (.int .i64 x.a6) w := fun _ => by kernel_rfl
  generalize (Re.cells ⟨[a0, a1, a2, a3, a4, a5, a6, a7, a8, a9, a10, a11, a12, a13, a14, a15], p, k, u⟩ x.l).toArray = V at *
  generalize (c1 [a0, a1, a2, a3, a4, a5, a6, a7, a8, a9, a10, a11, a12, a13, a14, a15]).toArray = R at *
  simp [Op.eqFields, u32_eq, int_eq, eq_tab, h1, h2, h3, g1, g2, g3, g4, g5]
theorem eql_state (e : Re) (x : Xs) (h : e.Ok) (w : World) : (binOp .eql 28 (sv e x) (sv e x)).run Tryz.prog w = .ok (.bool true) w := by
  obtain ⟨rs, p, k, u⟩ := e
  have hl : rs.length = 16 := h.len
  clear h
  match rs, hl with
  | [a0, a1, a2, a3, a4, a5, a6, a7, a8, a9, a10, a11, a12, a13, a14, a15], _ =>
    have := eq_state16 a0 a1 a2 a3 a4 a5 a6 a7 a8 a9 a10 a11 a12 a13 a14 a15 p k u x w 9997
    unfold sv at this ⊢
    rw [run_eql_struct, this]; rfl
theorem eq_guards (e : Re) (x : Xs) (a b : Operand) (w : World) : (eqGuard .eql 28 a b (sv e x) (sv e x)).run Tryz.prog w = .ok () w := by
  unfold sv
  exact run_eqGuard_agg w _ _ _ _ _ _ (by kernel_rfl)
theorem eq_guarda (rs : List Int) (a b : Operand) (w : World) : (eqGuard .eql 24 a b (.agg (c1 rs).toArray) (.agg (c1 rs).toArray)).run Tryz.prog w = .ok () w :=
  run_eqGuard_agg w _ _ _ _ _ _ (by kernel_rfl)
end Go.Proofs.YteohkobdmkbcpaaGreatDoor.Hr

/- Contracts of package regs: Load, and what only reads. -/
namespace Go.Proofs.YteohkobdmkbcpaaGreatDoor.Hr
open Go.RowKit Ps Tl

/-- a state that was just laid -/
structure Sb (W : World) (b : Nat) (s : Re) (x : Xs) : Prop where
  bk : Bk W b 28 (s.cells x.l)
  ok : s.Ok
theorem Sb.c_p {W : World} {b : Nat} {s : Re} {x : Xs} (h : Sb W b s x) : W.cell? ⟨b, 16, none⟩ = some (.int .u32 s.p) := h.bk.cell _ _ (Re.at_p h.ok _)
theorem Sb.c_k {W : World} {b : Nat} {s : Re} {x : Xs} (h : Sb W b s x) : W.cell? ⟨b, 17, none⟩ = some (.int .u32 s.k) := h.bk.cell _ _ (Re.at_k h.ok _)
theorem Sb.c_u {W : World} {b : Nat} {s : Re} {x : Xs} (h : Sb W b s x) : W.cell? ⟨b, 18, none⟩ = some (.int .u32 s.u) := h.bk.cell _ _ (Re.at_u h.ok _)
theorem Sb.range {W : World} {b : Nat} {s : Re} {x : Xs} (h : Sb W b s x) : W.rangeAt b 0 (c1 s.r) := h.bk.range 0 _ (Re.drop_r s _)
theorem Sb.new (w : World) {s : Re} (x : Xs) (h : s.Ok) : Sb (w.alloc (.cells (s.cells x.l).toArray 28)) w.heap.size s x := ⟨Bk.new _ _ _, h⟩
theorem arr_of {rs : List Int} (h : rs.length = 16) : (Tryz.prog.info? 24).map (·.size) = some (c1 rs).length := by rw [arr_size, c1_length, h]

set_option maxHeartbeats 400000 in
set_option maxRecDepth 100000 in
theorem load_any (w : World) (g : Nat) (e s : Re) (x : Xs) (ss : List Int) (n : Int) (h : Fi w g e ss n) (hs : s.Ok) :
    Calls Tryz.prog 44 #[.pointer (some ⟨g, 0, none⟩), sv s x] w fun r w' => r = .returned (.tuple #[]) ∧ Fi w' g s zs 0 ∧ Mods (fun k => k = g) w w' := by
  have HF := Lib.hid h
  clear h
  go_enter Tryz.func44, Tryz.ntmps44
  go_upto_region 2 with (refine wl_box rfl _ _ rfl _ rfl ?_)
  have hS := Sb.new w x hs
  have HM := Lib.hid (Mods.refl (fun k => k = g) w |>.alloc (.cells (s.cells x.l).toArray 28))
  have HT := Lib.hid (HF.out.bk.alloc (.cells (s.cells x.l).toArray 28))
  generalize w.alloc (.cells (s.cells x.l).toArray 28) = W at *
  generalize w.heap.size = b at *
  have c16 := hS.c_p
  have c17 := hS.c_k
  have c18 := hS.c_u
  have HR := Lib.hid hS.range
  have HL := Lib.hid hs.len
  obtain ⟨cs, hcs⟩ : ∃ cs, cs = Re.cells ⟨s.r, s.p, s.k, s.u⟩ (c1 zs ++ [.int .i64 0]) := ⟨_, rfl⟩
  have HC := Lib.hid hcs
  have HU := Lib.hid (build_file s.r s.p s.k s.u HL.out)
  rw [← hcs] at HU
  have HE : Hid (cs.length = 36) := by
    show _ = _
    rw [hcs, Re.length (e := ⟨s.r, s.p, s.k, s.u⟩) hs]; rfl
  have HO : Hid (∀ v ∈ cs, v.oneCell' = true) := by
    show ∀ v ∈ cs, _
    rw [hcs]
    refine one_cells (fun v hv => ?_)
    simp only [List.mem_append, List.mem_cons, List.not_mem_nil, or_false] at hv
    rcases hv with hv | rfl
    · exact c1_one _ v hv
    · rfl
  have HG : Hid (W.there g 0 cs.toArray.size) := by
    refine HT.out.there 0 _ ?_
    rw [Re.length HF.out.ok, HF.out.tail, List.size_toArray, HE.out]; exact Nat.le_refl _
  have HI : Hid ((Tryz.prog.info? 93).map (·.size) = some cs.toArray.size) := by
    show _ = _
    rw [List.size_toArray, HE.out, fi_size]
  have HS := Lib.hid hs
  clear hS hs hcs
  go_wp2_with (first
    | refine wpList_load_mid rfl 24 _ rfl b 0 rfl (c1 s.r) _ HR.out arr_under rfl (arr_of HL.out) ?_
    | refine wl_build rfl 93 _ rfl #[(0, .agg (c1 s.r).toArray), (1, .int .u32 s.p), (2, .int .u32 s.k), (3, .int .u32 s.u)] (by simp [Act.eval]) (.agg cs.toArray) (HU.out _) ?_
    | refine wpList_store_mid rfl 93 _ _ rfl g 0 cs.toArray rfl rfl HG.out HI.out (all_oneCell_toArray HO.out) ?_)
  go_end0
  refine ⟨rfl, ⟨?_, HS.out, zs_len, zs_num⟩, ?_⟩
  · rcases Bk.setCells cs 0 HT.out with k | k
    · have e0 : (e.cells (c1 ss ++ [Value.int .i64 n])).drop (0 + cs.length) = [] := List.drop_eq_nil_of_le (by rw [Re.length HF.out.ok, HF.out.tail, HE.out]; exact Nat.le_refl _)
      rw [e0, List.take_zero, List.nil_append, List.append_nil, HC.out] at k
      rw [HC.out]
      exact k
    · rw [Re.length HF.out.ok, HF.out.tail, HE.out] at k; omega
  · exact mods_setCells _ _ _ HM.out (.inl rfl)

set_option maxHeartbeats 400000 in
set_option maxRecDepth 100000 in
theorem isreg_any (n : Int) (w : World) :
    Calls Tryz.prog 78 #[.int .i64 n] w fun r w' => r = .returned (.bool (decide (0 ≤ n) && decide (n < 16))) ∧ w = w' := by
  by_cases h0 : 0 ≤ n
  · by_cases h1 : n < 16
    · go_enter Tryz.func78, Tryz.ntmps78
      go_wp2
      go_ret
      exact ⟨by simp [h0, h1], rfl⟩
    · go_enter Tryz.func78, Tryz.ntmps78
      go_wp2
      go_ret
      exact ⟨by simp [h1], rfl⟩
  · go_enter Tryz.func78, Tryz.ntmps78
    go_wp2
    go_ret
    exact ⟨by simp; omega, rfl⟩
theorem isreg_in (k : Nat) (hk : k < 16) (w : World) :
    Calls Tryz.prog 78 #[.int .i64 k] w fun r w' => r = .returned (.bool true) ∧ w = w' :=
  (isreg_any k w).mono fun _ _ h => ⟨h.1.trans (by have : (k : Int) < 16 := by omega
                                                   simp [this]), h.2⟩
theorem isreg_out (n : Int) (hn : n < 0 ∨ 15 < n) (w : World) :
    Calls Tryz.prog 78 #[.int .i64 n] w fun r w' => r = .returned (.bool false) ∧ w = w' :=
  (isreg_any n w).mono fun _ _ h => ⟨h.1.trans (by
    rcases hn with h | h
    · have : ¬ 0 ≤ n := by omega
      simp [this]
    · have : ¬ n < 16 := by omega
      simp [this]), h.2⟩

set_option maxHeartbeats 400000 in
set_option maxRecDepth 100000 in
theorem new_any (w : World) :
    Calls Tryz.prog 47 #[] w fun r w' => r = .returned (.pointer (some ⟨w.heap.size, 0, none⟩)) ∧ Fi w' w.heap.size Re.nul zs 0 ∧ Below w.heap.size w w' := by
  go_enter Tryz.func47, Tryz.ntmps47
  go_wp2
  go_ret
  exact ⟨rfl, ⟨Bk.new _ _ _, Re.nul_ok, zs_len, zs_num⟩, (Below.refl _ _).alloc (Nat.le_refl _) _⟩

set_option maxHeartbeats 400000 in
set_option maxRecDepth 100000 in
theorem get_in (w : World) (g : Nat) (e : Re) (ss : List Int) (n : Int) (h : Fi w g e ss n) (k : Nat) (hk : k < 16) :
    Calls Tryz.prog 55 #[.pointer (some ⟨g, 0, none⟩), .int .i64 k] w fun r w' => r = .returned (.int .u32 (e.r.getD k 0)) ∧ w = w' := by
  have c := h.c_r hk
  generalize e.r.getD k 0 = y at *
  have hk' : (k : Int) < 16 := by omega
  clear h
  go_enter Tryz.func55, Tryz.ntmps55
  go_wp2_with (go_at_call 78; refine (isreg_in k hk _).mono ?_; rintro _ w' ⟨rfl, rfl⟩)
  go_ret
  exact ⟨rfl, rfl⟩
set_option maxHeartbeats 400000 in
set_option maxRecDepth 100000 in
theorem get_out (w : World) (g : Nat) (k : Int) (hk : k < 0 ∨ 15 < k) :
    Calls Tryz.prog 55 #[.pointer (some ⟨g, 0, none⟩), .int .i64 k] w fun r w' => r = .returned (.int .u32 0) ∧ w = w' := by
  have HK := Lib.hid hk
  clear hk
  go_enter Tryz.func55, Tryz.ntmps55
  go_wp2_with (go_at_call 78; refine (isreg_out k HK.out _).mono ?_; rintro _ w' ⟨rfl, rfl⟩)
  go_ret
  exact ⟨rfl, rfl⟩
set_option maxHeartbeats 400000 in
set_option maxRecDepth 100000 in
theorem get_nil (w : World) (k : Int) :
    Calls Tryz.prog 55 #[.pointer none, .int .i64 k] w fun r w' => r = .returned (.int .u32 0) ∧ w = w' := by
  go_enter Tryz.func55, Tryz.ntmps55
  go_wp2
  go_ret
  exact ⟨rfl, rfl⟩
set_option maxHeartbeats 400000 in
set_option maxRecDepth 100000 in
theorem psl_any (w : World) (g : Nat) (e : Re) (ss : List Int) (n : Int) (h : Fi w g e ss n) :
    Calls Tryz.prog 30 #[.pointer (some ⟨g, 0, none⟩)] w fun r w' => r = .returned (.int .u32 e.p) ∧ w = w' := by
  have c := h.c_p
  clear h
  go_enter Tryz.func30, Tryz.ntmps30
  go_wp2
  go_ret
  exact ⟨rfl, rfl⟩
set_option maxHeartbeats 400000 in
set_option maxRecDepth 100000 in
theorem psl_nil (w : World) :
    Calls Tryz.prog 30 #[.pointer none] w fun r w' => r = .returned (.int .u32 0) ∧ w = w' := by
  go_enter Tryz.func30, Tryz.ntmps30
  go_wp2
  go_ret
  exact ⟨rfl, rfl⟩


/-- where the end of a stack is kept, besides and at all -/
def pb (u : Bool) : Nat := if u then 18 else 17
def pe (p : Int) (u : Bool) : Nat := if u = bi p 24 then 14 else pb u
theorem pb_lt (u : Bool) : pb u < 19 := by cases u <;> simp [pb]
theorem pe_lt (p : Int) (u : Bool) : pe p u < 19 := by
  unfold pe
  split
  · omega
  · exact pb_lt u
/-- the number at a place; another one there -/
def Re.at (e : Re) (i : Nat) : Int := if i < 16 then e.r.getD i 0 else if i = 16 then e.p else if i = 17 then e.k else e.u
def Re.to (e : Re) (i : Nat) (x : Int) : Re := if i < 16 then e.reg i x else if i = 16 then ⟨e.r, x, e.k, e.u⟩ else if i = 17 then ⟨e.r, e.p, x, e.u⟩ else ⟨e.r, e.p, e.k, x⟩
theorem Fi.c_at {w : World} {g : Nat} {e : Re} {ss : List Int} {n : Int} (h : Fi w g e ss n) {i : Nat} (hi : i < 19) : w.cell? ⟨g, i, none⟩ = some (.int .u32 (e.at i)) := by
  unfold Re.at
  split
  · exact h.c_r (by assumption)
  · split
    · subst i; exact h.c_p
    · split
      · subst i; exact h.c_k
      · obtain rfl : i = 18 := by omega
        exact h.c_u
theorem Fi.to {w : World} {g : Nat} {e : Re} {ss : List Int} {n : Int} (h : Fi w g e ss n) {i : Nat} (hi : i < 19) {x : Int} (hx : U x) : Fi (w.setCell ⟨g, i, none⟩ (.int .u32 x)) g (e.to i x) ss n := by
  unfold Re.to
  split
  · exact h.set_r (by assumption) hx
  · split
    · subst i; exact h.set_p hx
    · split
      · subst i; exact h.set_k hx
      · obtain rfl : i = 18 := by omega
        exact h.set_u hx
theorem Re.at_U {e : Re} (h : e.Ok) (i : Nat) : U (e.at i) := by
  unfold Re.at
  split
  · exact h.num i
  · split
    · exact h.p
    · split
      · exact h.k
      · exact h.u

set_option maxHeartbeats 400000 in
set_option maxRecDepth 100000 in
theorem beside_any (w : World) (g : Nat) (u : Bool) :
    Calls Tryz.prog 74 #[.pointer (some ⟨g, 0, none⟩), .bool u] w fun r w' => r = .returned (.pointer (some ⟨g, pb u, none⟩)) ∧ w = w' := by
  cases u
  all_goals
    go_enter Tryz.func74, Tryz.ntmps74
    go_wp2
    go_ret
    exact ⟨rfl, rfl⟩
set_option maxHeartbeats 400000 in
set_option maxRecDepth 100000 in
theorem end_any (w : World) (g : Nat) (e : Re) (ss : List Int) (n : Int) (h : Fi w g e ss n) (u : Bool) :
    Calls Tryz.prog 69 #[.pointer (some ⟨g, 0, none⟩), .bool u] w fun r w' => r = .returned (.pointer (some ⟨g, pe e.p u, none⟩)) ∧ w = w' := by
  have c := h.c_p
  have C := Lib.hid (user_any e.p h.ok.p)
  have HE := Lib.hid (show pe e.p u = if u = bi e.p 24 then 14 else pb u from rfl)
  generalize pe e.p u = q at *
  generalize bi e.p 24 = v at *
  generalize e.p = p at *
  clear h
  cases u <;> cases v
  all_goals
    go_enter Tryz.func69, Tryz.ntmps69
    go_wp2_with (first | (go_at_call 73; refine (C.out _).mono ?_; rintro _ w' ⟨rfl, rfl⟩) | (go_at_call 74; refine (beside_any _ g _).mono ?_; rintro _ w' ⟨rfl, rfl⟩))
    go_ret
    exact ⟨by rw [HE.out]; rfl, rfl⟩
set_option maxHeartbeats 400000 in
set_option maxRecDepth 100000 in
theorem stack_any (w : World) (g : Nat) (e : Re) (ss : List Int) (n : Int) (h : Fi w g e ss n) (u : Bool) :
    Calls Tryz.prog 49 #[.pointer (some ⟨g, 0, none⟩), .bool u] w fun r w' => r = .returned (.int .u32 (e.at (pe e.p u))) ∧ w = w' := by
  have c := h.c_at (pe_lt e.p u)
  have C := Lib.hid (end_any w g e ss n h u)
  generalize pe e.p u = q at *
  generalize e.at q = y at *
  clear h
  go_enter Tryz.func49, Tryz.ntmps49
  go_wp2_with (go_at_call 69; refine C.out.mono ?_; rintro _ w' ⟨rfl, rfl⟩)
  go_ret
  exact ⟨rfl, rfl⟩
set_option maxHeartbeats 400000 in
set_option maxRecDepth 100000 in
theorem stack_nil (w : World) (u : Bool) :
    Calls Tryz.prog 49 #[.pointer none, .bool u] w fun r w' => r = .returned (.int .u32 0) ∧ w = w' := by
  go_enter Tryz.func49, Tryz.ntmps49
  go_wp2
  go_ret
  exact ⟨rfl, rfl⟩
end Go.Proofs.YteohkobdmkbcpaaGreatDoor.Hr

/- Contracts of package regs: SetStack, Forget, Step, Set. -/
namespace Go.Proofs.YteohkobdmkbcpaaGreatDoor.Hr
open Go.RowKit Ps Tl

def One (g : Nat) : Nat → Prop := fun k => k = g

set_option maxHeartbeats 400000 in
set_option maxRecDepth 100000 in
theorem setstack_any (w : World) (g : Nat) (e : Re) (ss : List Int) (n : Int) (h : Fi w g e ss n) (u : Bool) (x : Int) (hx : U x) :
    Calls Tryz.prog 231 #[.pointer (some ⟨g, 0, none⟩), .bool u, .int .u32 x] w fun r w' => r = .returned (.tuple #[]) ∧ Fi w' g (e.to (pe e.p u) x) ss n ∧ Mods (One g) w w' := by
  have c := h.c_at (pe_lt e.p u)
  have f := h.free (pe e.p u)
  have C := Lib.hid (end_any w g e ss n h u)
  have HF := Lib.hid (h.to (pe_lt e.p u) hx)
  generalize pe e.p u = q at *
  generalize e.at q = y at *
  generalize e.to q x = e' at *
  clear h
  go_enter Tryz.func231, Tryz.ntmps231
  go_wp2_with (go_at_call 69; refine C.out.mono ?_; rintro _ w' ⟨rfl, rfl⟩)
  go_end0
  exact ⟨rfl, HF.out, (Mods.refl _ _).set _ (.inl rfl)⟩
set_option maxHeartbeats 400000 in
set_option maxRecDepth 100000 in
theorem setstack_nil (w : World) (u : Bool) (x : Int) :
    Calls Tryz.prog 231 #[.pointer none, .bool u, .int .u32 x] w fun r w' => r = .returned (.tuple #[]) ∧ w = w' := by
  go_enter Tryz.func231, Tryz.ntmps231
  go_wp2
  first | go_end0 | (refine bodyPost_ret (results_none rfl _ _ _) rfl ?_)
  exact ⟨rfl, rfl⟩



/-- a sum modulo 2^32 -/
def ad (a b : Int) : Int := (a + b) % 4294967296
theorem ad_U (a b : Int) : U (ad a b) := U_mod _

end Go.Proofs.YteohkobdmkbcpaaGreatDoor.Hr

/- Contracts of package regs: Step and Set where they take nothing, Set, Undo, Put. -/
namespace Go.Proofs.YteohkobdmkbcpaaGreatDoor.Hr
open Go.RowKit Ps Tl



/-- a number with its lowest bytes those of another one -/
def pu (o x s : Int) : Int := o - o % Bt.W s + x % Bt.W s
theorem pu_U (o x s : Int) (hs : Bt.Sz s) (ho : U o) : U (pu o x s) := by
  obtain ⟨h0, h1⟩ := ho
  rcases hs with rfl | rfl | rfl <;> simp only [pu, Bt.W1, Bt.W2, Bt.W4] <;> exact ⟨by omega, by omega⟩
set_option maxHeartbeats 400000 in
set_option maxRecDepth 100000 in
theorem mask_not (s : Int) (hs : ¬ Bt.Sz s) (w : World) :
    Calls Tryz.prog 91 #[.int .i64 s] w fun e w' => e = .returned (.int .u32 0) ∧ w = w' := by
  have h1 : (s == 1) = false := by simp; intro h; exact hs (.inl h)
  have h2 : (s == 2) = false := by simp; intro h; exact hs (.inr (.inl h))
  have h4 : (s == 4) = false := by simp; intro h; exact hs (.inr (.inr h))
  clear hs
  go_enter Tryz.func91, Tryz.ntmps91
  go_wp2
  go_ret
  exact ⟨rfl, rfl⟩
theorem mask_pos (s : Int) (hs : Bt.Sz s) : (Bt.W s - 1 == 0) = false := by
  rcases hs with rfl | rfl | rfl <;> rfl
theorem sz_or (s : Int) : Bt.Sz s ∨ ¬ Bt.Sz s := Classical.em _

set_option maxHeartbeats 1000000 in
set_option maxRecDepth 100000 in
theorem set_in (w : World) (g : Nat) (e : Re) (ss : List Int) (n : Int) (h : Fi w g e ss n) (k : Nat) (hk : k < 16) (x : Int) (hx : U x) (s : Int) (hs : Bt.Sz s) :
    Calls Tryz.prog 77 #[.pointer (some ⟨g, 0, none⟩), .int .i64 k, .int .u32 x, .int .i64 s] w fun r w' =>
      r = .returned (.int .i64 0) ∧ Fi w' g (e.reg k (pu (e.r.getD k 0) x s)) ss n ∧ Mods (One g) w w' := by
  have c := h.c_r hk
  have f := h.free k
  have hk' : (k : Int) < 16 := by omega
  have HC := Lib.hid (Bt.put_any (e.r.getD k 0) x s hs (h.ok.num k) hx)
  have HP := Lib.hid (show pu (e.r.getD k 0) x s = e.r.getD k 0 - e.r.getD k 0 % Bt.W s + x % Bt.W s from rfl)
  rw [← HP.out] at HC
  have HF := Lib.hid (h.drew.set_r hk (pu_U (e.r.getD k 0) x s hs (h.ok.num k)))
  have HM := Lib.hid ((Mods.refl (One g) w).drew.set (p := ⟨g, k, none⟩) (.int .u32 (pu (e.r.getD k 0) x s)) (.inl rfl))
  have HK := Lib.hid (Bt.mask_any s hs)
  have hm := mask_pos s hs
  generalize pu (e.r.getD k 0) x s = y' at *
  generalize e.r.getD k 0 = y at *
  generalize Bt.W s - 1 = m at *
  clear h hx hs HP
  go_enter Tryz.func77, Tryz.ntmps77
  go_wp2_with (first | (go_at_call 78; refine (isreg_in k hk _).mono ?_; rintro _ w' ⟨rfl, rfl⟩) | (go_at_call 91; refine (HK.out _).mono ?_; rintro _ w' ⟨rfl, rfl⟩))
  go_region_with (go_at_call 136; refine (HC.out _).mono ?_; rintro _ w' ⟨rfl, rfl⟩)
  all_goals
    go_wp2
    go_ret
    exact ⟨rfl, HF.out, HM.out⟩
set_option maxHeartbeats 400000 in
set_option maxRecDepth 100000 in
theorem set_out (w : World) (g : Nat) (k : Int) (hk : k < 0 ∨ 15 < k) (x s : Int) :
    Calls Tryz.prog 77 #[.pointer (some ⟨g, 0, none⟩), .int .i64 k, .int .u32 x, .int .i64 s] w fun r w' => r = .returned (.int .i64 1) ∧ w = w' := by
  have HK := Lib.hid hk
  clear hk
  go_enter Tryz.func77, Tryz.ntmps77
  go_wp2_with (go_at_call 78; refine (isreg_out k HK.out _).mono ?_; rintro _ w' ⟨rfl, rfl⟩)
  go_ret
  exact ⟨rfl, rfl⟩
set_option maxHeartbeats 400000 in
set_option maxRecDepth 100000 in
theorem set_not (w : World) (g : Nat) (k : Nat) (hk : k < 16) (x s : Int) (hs : ¬ Bt.Sz s) :
    Calls Tryz.prog 77 #[.pointer (some ⟨g, 0, none⟩), .int .i64 k, .int .u32 x, .int .i64 s] w fun r w' => r = .returned (.int .i64 1) ∧ w = w' := by
  have HS := Lib.hid (mask_not s hs)
  clear hs
  go_enter Tryz.func77, Tryz.ntmps77
  go_wp2_with (first | (go_at_call 78; refine (isreg_in k hk _).mono ?_; rintro _ w' ⟨rfl, rfl⟩) | (go_at_call 91; refine (HS.out _).mono ?_; rintro _ w' ⟨rfl, rfl⟩))
  go_ret
  exact ⟨rfl, rfl⟩
set_option maxHeartbeats 400000 in
set_option maxRecDepth 100000 in
theorem set_nil (w : World) (k x s : Int) :
    Calls Tryz.prog 77 #[.pointer none, .int .i64 k, .int .u32 x, .int .i64 s] w fun r w' => r = .returned (.int .i64 2) ∧ w = w' := by
  go_enter Tryz.func77, Tryz.ntmps77
  go_wp2
  go_ret
  exact ⟨rfl, rfl⟩
end Go.Proofs.YteohkobdmkbcpaaGreatDoor.Hr
