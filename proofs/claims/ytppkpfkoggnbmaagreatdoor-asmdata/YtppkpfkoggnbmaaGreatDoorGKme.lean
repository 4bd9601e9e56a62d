import Derived.Test.YtppkpfkoggnbmaaGreatDoorGKtx
import Derived.Test.YtppkpfkoggnbmaaGreatDoorEApp
import Derived.Maps.OwnSet
import Derived.Lib.AppendZerosOnto
import Derived.Deep.AppendSrc
import Derived.Test.YtppkpfkoggnbmaaGreatDoorIDoc3
import Derived.Test.YtppkpfkoggnbmaaGreatDoorGKop
import Derived.StillTailTactics
import Derived.Deep.RegionHeld3
import Derived.Deep.RegionLaw
import Derived.Test.YtppkpfkoggnbmaaGreatDoorEEnc4

/- A program that lines are taken into, as it lies in the world: its bytes, its labels in a map, its gaps. No program is walked here. -/
namespace Go.Proofs.YtppkpfkoggnbmaaGreatDoor.Cs.Ka
open Go.RowKit Es Go.Maps Go.MapKept
open Ia (sb cst sb_size sb_get sb_append)
set_option linter.unusedVariables false
set_option linter.unusedSimpArgs false

/-! ### append of noughts -/
theorem run_append_room_zeros (w : World) (t tn ty e : TypeId) (i : TypeInfo) (z : Value) (kn : IntKind) (ht : Tryz.prog.underlying t = some (.slice e)) (htn : Tryz.prog.underlying tn = some (.int kn)) (hi : Tryz.prog.info? e = some i) (hz : i.zero = some z)
    (g sLen sCap : Nat) (cur : Array Value) (hg : w.heap[g]? = some (.cells cur e (0, 0))) (n : Nat) (h0 : 0 < n) (hs : 0 < i.size) (h63 : (n : Int) ≤ 9223372036854775807) (h48 : n * i.bytes ≤ 281474976710656)
    (hzs : z.cells.size = i.size) (h1 : ∀ u ∈ (Builtin.zeroCells z.cells n).toList, u.oneCell' = true) (hroom : sLen + n ≤ sCap) (hfit : sLen * i.size + n * i.size ≤ cur.size) :
    (Builtin.append_ #[t, tn] ty #[.slice (some ⟨g, 0, none⟩) sLen sCap, .int kn n]).run Tryz.prog w =
      .ok (.slice (some ⟨g, 0, none⟩) (sLen + n) sCap) (w.setRow g (cur.toList.take (sLen * i.size) ++ (Builtin.zeroCells z.cells n).toList ++ cur.toList.drop (sLen * i.size + (Builtin.zeroCells z.cells n).toList.length)).toArray) := by
  have hl : (Builtin.zeroCells z.cells n).toList.length = n * i.size := by simp [Builtin.zeroCells, hzs]
  have hst := run_storeCells_at Tryz.prog g (sLen * i.size) e (Builtin.zeroCells z.cells n).toList 0 cur w hg (by rw [hl]; simpa using hfit) h1
  simp only [Nat.add_zero] at hst
  have hw : IntKind.i64.wrap (n : Int) = n := by rw [IntKind.wrap_i64]; omega
  have hneg : ¬ ((n : Int) < 0) := by omega
  have hns : ¬ (n * i.size = 0) := Nat.mul_ne_zero (by omega) (by omega)
  have hn : n ≠ 0 := by omega
  have h48i : ¬ (281474976710656 < (n : Int) * (i.bytes : Int)) := by
    rw [← Int.natCast_mul]
    omega
  simp [Builtin.append_, run_underlying ht, run_underlying htn, sizeOf, typeInfo, zeroValue, hi, hz, asInt, asIntOf, hw, hn, hneg, hns, h48i, hroom, Addr.add_lit, hst]

theorem zero_cells (n : Nat) : (Builtin.zeroCells (Value.int .u8 0).cells n).toList = cel (List.replicate n 0) := by
  apply List.ext_getElem?
  intro j
  simp only [Builtin.zeroCells, cel, List.map_replicate]
  by_cases h : j < n
  · simp [Value.cells, h, Nat.mod_one]
  · simp [Value.cells, h]

/-- append of noughts to a row of one's own. -/
theorem run_app0 (w : World) (v : Value) (ys : List Int) (n : Nat) (h : R8 w v ys) (hl : ys.length + n ≤ 1000000000) :
    ∃ A' c' w', (Builtin.append_ #[22, 35] 22 #[v, .int .u32 n]).run Tryz.prog w = .ok (.slice A' (ys.length + n) c') w' ∧
      Hid (R8 w' (.slice A' (ys.length + n) c') (ys ++ List.replicate n 0) ∧ Step (Bl v) (Bl (.slice A' (ys.length + n) c')) w w') := by
  obtain ⟨i, hi, hz, hsz, hb⟩ := info_parts u8_info
  have h32 : Tryz.prog.underlying 35 = some (.int .u32) := by kernel_rfl
  by_cases h0 : n = 0
  · subst h0
    have h' := h
    rcases own_shape h' with ⟨rfl, h1⟩ | ⟨r, cap, rfl, h2, h3, _⟩
    all_goals
      refine ⟨_, _, w, ?_, by rw [List.replicate_zero, List.append_nil]; first | exact h | (rw [h1] at *; exact h), Step.of_below (Below.refl _ _)⟩
      simp [*, Builtin.append_, run_underlying under_slice, run_underlying h32, sizeOf, typeInfo, asInt, asIntOf, IntKind.wrap, IntKind.bits, IntKind.signed, storeCells]
  · have hlen : (cel (ys ++ List.replicate n 0)).length = (ys.length + n) * 1 := by simp [cel]
    have hcn : cel (ys ++ List.replicate n 0) = cel ys ++ cel (List.replicate n 0) := by simp [cel]
    have hlr : (ys ++ List.replicate n (0 : Int)).length = ys.length + n := by simp
    have grown : ∀ (old : Nat), old < ys.length + n → ∀ (v0 : Value),
        Hid (R8 (w.drew.alloc (.cells ((cel ys).toArray ++ Builtin.zeroCells (Value.int .u8 0).cells n ++ Builtin.zeroCells (Value.int .u8 0).cells (grownCap w (ys.length + n) old 5 - (ys.length + n))) 5)) (.slice (some ⟨w.heap.size, 0, none⟩) (ys.length + n) (grownCap w (ys.length + n) old 5)) (ys ++ List.replicate n 0) ∧
          Step (Bl v0) (Bl (.slice (some ⟨w.heap.size, 0, none⟩) (ys.length + n) (grownCap w (ys.length + n) old 5))) w (w.drew.alloc (.cells ((cel ys).toArray ++ Builtin.zeroCells (Value.int .u8 0).cells n ++ Builtin.zeroCells (Value.int .u8 0).cells (grownCap w (ys.length + n) old 5 - (ys.length + n))) 5))) := by
      intro old ho v0
      have hge := grownCap_ge w (ys.length + n) old 5
      have hcm : grownCap w (ys.length + n) old 5 ≤ maxLen := grownCap_le_maxLen w (ys.length + n) old 5 (by simp only [maxLen]; omega)
      refine ⟨?_, ?_, ?_⟩
      · show World.ownsRow _ _ _ _ _ _ _
        rw [hlr]
        refine ⟨hlen, .inr ⟨w.heap.size, _, _, rfl, Nat.zero_le _, heap_alloc_new w.drew _, hge, hcm, ?_, ?_⟩⟩
        · simp only [Array.size_append, List.size_toArray, size_zeroCells, cel_length]
          simp [Value.cells]
          omega
        · simp only [Array.toList_append, List.append_assoc, zero_cells]
          rw [← List.append_assoc, ← hcn, show (ys.length + n) * 1 = (cel (ys ++ List.replicate n 0)).length from hlen.symm]
          exact List.take_left
      · exact (Mods.refl (Bl v0) w).drew.alloc _
      · intro k hk
        right
        have : k = w.heap.size := by simpa [Bl, Value.ownBlock, eq_comm] using hk
        omega
    rcases h.2 with ⟨rfl, hnil⟩ | ⟨g, cap, cur, rfl, hbg, hg, hnc, hcm, hcs, htake⟩
    · obtain rfl : ys = [] := List.eq_nil_of_length_eq_zero hnil
      have hr := Lib.run_append_nil_zeros (P := Tryz.prog) w 22 35 22 5 i (.int .u8 0) .u32 .u32 under_slice h32 hi hz n (by omega) (by omega) (by omega) (by rw [hb]; omega)
      have hgr := grown 0 (by simp; omega) (.slice none 0 0)
      simp only [List.length_nil, Nat.zero_add, List.nil_append, cel, List.map_nil, Array.empty_append] at hgr hr ⊢
      exact ⟨_, _, _, hr, hgr⟩
    · by_cases hroom : ys.length + n ≤ cap
      · have hr := run_append_room_zeros w 22 35 22 5 i (.int .u8 0) .u32 under_slice h32 hi hz g ys.length cap cur hg n (by omega) (by omega) (by omega) (by rw [hb]; omega) (by rw [hsz]; rfl)
          (by rw [zero_cells]; exact cel_one _) hroom (by rw [hsz, hcs]; omega)
        refine ⟨_, _, _, hr, ?_, ?_, ?_⟩
        · show World.ownsRow _ _ _ _ _ _ _
          rw [hlr]
          refine ⟨hlen, .inr ⟨g, cap, _, rfl, Nat.zero_le _, setRow_heap w g cur _ _ _ hg, hroom, hcm, ?_, ?_⟩⟩
          · simp only [List.size_toArray, List.length_append, List.length_take, List.length_drop, Array.length_toList, zero_cells, cel_length, List.length_replicate]
            rw [hcs, hsz]
            omega
          · simp only [zero_cells, hsz]
            rw [htake, ← hcn, show (ys.length + n) * 1 = (cel (ys ++ List.replicate n 0)).length from hlen.symm]
            exact List.take_left
        · exact ⟨rfl, rfl, rfl, by simp, fun k _ hk => setRow_other w g k _ (fun e => hk (by simp [Bl, Value.ownBlock, e]))⟩
        · intro k hk; exact .inl hk
      · have hold : (Builtin.firstCells i.size ys.length (.slice (some ⟨g, 0, none⟩) ys.length cap)).run Tryz.prog w.drew = .ok (cel ys).toArray w.drew :=
          run_firstCells_some (P := Tryz.prog) w.drew i.size ys.length ⟨g, 0, none⟩ ys.length cap (cel ys) (by rw [hsz, cel_length]; omega) (fun j u hj => h.cells (g := g) rfl j u hj)
        have hr := Lib.run_append_grow_zeros (P := Tryz.prog) w 22 35 22 5 i (.int .u8 0) .u32 .u32 under_slice h32 hi hz (some ⟨g, 0, none⟩) ys.length cap (cel ys) hold n (by omega) (by omega) (by omega) (by omega) (by rw [hb]; omega)
          (growslice_fits (by omega) (by rw [hb]; omega))
        exact ⟨_, _, _, hr, grown cap (by omega) _⟩

end Go.Proofs.YtppkpfkoggnbmaaGreatDoor.Cs.Ka

/- A program that lines are taken into, as it lies in the world. No program is walked here. -/
namespace Go.Proofs.YtppkpfkoggnbmaaGreatDoor.Cs.Ka
open Go.RowKit Es Go.Maps Go.MapKept
open Ia (sb cst sb_size sb_get sb_append)
set_option linter.unusedVariables false
set_option linter.unusedSimpArgs false

/-- Gaps as cells. -/
def cgs : List Gp → List Value
  | [] => []
  | y :: ys => y.cells ++ cgs ys
theorem cgs_app (xs ys : List Gp) : cgs (xs ++ ys) = cgs xs ++ cgs ys := by
  induction xs with
  | nil => rfl
  | cons r xs ih => simp [cgs, ih]
theorem cgs_length (xs : List Gp) : (cgs xs).length = xs.length * 11 := by
  induction xs with
  | nil => rfl
  | cons r xs ih => simp [cgs, ih]; omega
theorem cgs_get (xs : List Gp) (i j : Nat) (h : i < xs.length) (hj : j < 11) : (cgs xs)[i * 11 + j]? = (xs[i].cells)[j]? := by
  induction xs generalizing i with
  | nil => simp at h
  | cons r xs ih =>
    cases i with
    | zero =>
      simp only [cgs, Nat.zero_mul, Nat.zero_add, List.getElem_cons_zero]
      rw [List.getElem?_append_left (by simpa using hj)]
    | succ i =>
      simp only [cgs, List.getElem_cons_succ]
      rw [List.getElem?_append_right (by simp; omega), ← ih i (by simpa using h)]
      congr 1
      simp
      omega
theorem cgs_one (xs : List Gp) : ∀ v ∈ cgs xs, v.oneCell' = true := by
  induction xs with
  | nil => simp [cgs]
  | cons r xs ih =>
    intro v hv
    simp only [cgs, List.mem_append, Gp.cells, List.mem_cons, List.mem_nil_iff, or_false] at hv
    rcases hv with (rfl | rfl | rfl | rfl | rfl | rfl | rfl | rfl | rfl | rfl | rfl) | hv
    all_goals first | rfl | exact ih v hv
def Rg (w : World) (v : Value) (xs : List Gp) : Prop := w.ownsRow 0 62 11 v xs.length (cgs xs)
theorem under_gaps : Tryz.prog.underlying 53 = some (.slice 62) := by kernel_rfl
theorem gap_info : (Tryz.prog.info? 62).map (fun i => (i.zero, i.size, i.bytes)) = some (some (.agg #[.int .i64 0, .int .i64 0, .int .i64 0, .int .i64 0, .int .i64 0, .int .i64 0, .int .u32 0, .int .i64 0, .string ⟨#[]⟩, .int .u8 0, .int .i64 0]), 11, 96) := by kernel_rfl
theorem rg_slice {w : World} {u : Value} {xs : List Gp} (h : Rg w u xs) : ∃ A c, u = .slice A xs.length c := by
  rcases own_shape h with ⟨rfl, h0⟩ | ⟨r, cap, rfl, _⟩
  · exact ⟨none, 0, by rw [h0]⟩
  · exact ⟨_, _, rfl⟩
theorem run_appg (w : World) (v : Value) (xs : List Gp) (x : Gp) (h : Rg w v xs) (hl : xs.length ≤ 1000000) :
    ∃ r' cap' w', (Builtin.append_ #[53, 53] 53 #[v, .slice (some ⟨w.heap.size, 0, none⟩) 1 1]).run Tryz.prog (w.alloc (.cells x.cells.toArray 62)) = .ok (.slice (some ⟨r', 0, none⟩) (xs.length + 1) cap') w' ∧
      Hid (Rg w' (.slice (some ⟨r', 0, none⟩) (xs.length + 1) cap') (xs ++ [x]) ∧ Step (Bl v) (Bl (.slice (some ⟨r', 0, none⟩) (xs.length + 1) cap')) w w') := by
  obtain ⟨i, hi, hz, hsz, hb⟩ := info_parts gap_info
  obtain ⟨r', cap', w', hrun, ho, hst⟩ := Ia.run_app under_gaps hi hz hsz hb rfl (by omega) (by omega) w v xs.length (cgs xs) x.cells h hl rfl (by
    intro v hv
    exact cgs_one [x] v (by simp only [cgs, List.append_nil]; exact hv))
  refine ⟨r', cap', w', hrun, ?_, hst⟩
  show w'.ownsRow _ _ _ _ _ _
  rw [List.length_append, cgs_app, show cgs [x] = x.cells by simp [cgs]]
  exact ho

/-! ### labels in a map -/
theorem ts_str : Tryz.prog.underlying 9 = some .string := by kernel_rfl
theorem ts_int : Tryz.prog.underlying 3 = some (.int .i64) := by kernel_rfl
theorem ts_map : Tryz.prog.underlying 52 = some (.map 9 3) := by kernel_rfl
theorem ts_zero (w : World) : (zeroValue 3).run Tryz.prog w = .ok (.int .i64 0) w := by kernel_rfl
/-- Block m is a map of these labels. -/
structure Pm (W : World) (m : Nat) (pl : List (Tx × Nat)) (D : DataW Unit) : Prop where
  owns : W.ownsMap Tryz.prog 9 (plainElem Tryz.prog 3) m pl.length D
  has : ∀ l : Tx, Maps.has D (.string l) = (lk pl l).isSome
  at_ : ∀ (l : Tx) n, lk pl l = some n → D.atKey (.string l) (.lit (.int .i64 0)) = .lit (.int .i64 n)
theorem Pm.made (w : World) : Pm (w.alloc (.map #[] 0)) w.heap.size [] (.map []) := ⟨World.ownsMap_made w _ _ _, fun l => rfl, fun l n h => by cases h⟩
theorem Pm.keep {W W' : World} {m : Nat} {pl : List (Tx × Nat)} {D : DataW Unit} (h : Pm W m pl D) (hb : W'.heap[m]? = W.heap[m]?) : Pm W' m pl D := by
  obtain ⟨es, clock, h1, h2⟩ := h.owns
  exact ⟨⟨es, clock, hb.trans h1, h2⟩, h.has, h.at_⟩
theorem Pm.lt {W : World} {m : Nat} {pl : List (Tx × Nat)} {D : DataW Unit} (h : Pm W m pl D) : m < W.heap.size := h.owns.lt
theorem key_of (l : Tx) (hl : l.length ≤ 1000000) : keyOf Tryz.prog 9 (.string (sb l)) = some (.string l) := WideMaps.keyOf_string_mk ts_str (by rw [sb_size]; simp only [maxLen]; omega)
/-- a label that isn't there yet -/
theorem Pm.put {W W' : World} {m : Nat} {pl : List (Tx × Nat)} {D : DataW Unit} (h : Pm W m pl D) (l : Tx) (n : Nat) (hw : W'.ownsMap Tryz.prog 9 (plainElem Tryz.prog 3) m (pl.length + 1) (D.put (.string l) (.lit (.int .i64 n)))) :
    Pm W' m ((l, n) :: pl) (D.put (.string l) (.lit (.int .i64 n))) := by
  have hm := h.owns.isMap
  refine ⟨hw, fun k => ?_, fun k j hk => ?_⟩
  · by_cases e : l = k
    · subst e
      rw [has_put_same hm (by trivial)]
      simp [lk]
    · rw [has_put_other (fun x => e (by injection x with x; exact x.symm)), h.has]
      simp [lk, e]
  · by_cases e : l = k
    · subst e
      rw [atKey_put_same hm (by trivial)]
      simp [lk] at hk
      rw [hk]
    · rw [atKey_put_other (fun x => e (by injection x with x; exact x.symm))]
      simp [lk, e] at hk
      exact h.at_ k j hk

/-! ### all of it -/
/-- the blocks that it is made of -/
def Ft (g m : Nat) (vc vg : Value) : Nat → Prop := fun k => k = g ∨ k = m ∨ Bl vc k ∨ Bl vg k
/-- At block g lies a program that has come to s. -/
structure Pg (W : World) (g m : Nat) (s : St) (vc vg : Value) (D : DataW Unit) : Prop where
  box : Es.Bk W g 55 [vc, .map (some m), vg]
  code : R8 W vc s.code
  gaps : Rg W vg s.gp
  pm : Pm W m s.pl D
  gm : g ≠ m
  cg : ¬ Bl vc g
  gg : ¬ Bl vg g
  cm : ¬ Bl vc m
  hm : ¬ Bl vg m
  cv : Apart (Bl vc) (Bl vg)
  byt : Byt s.code
  lo : ∀ k, Ft g m vc vg k → 13 ≤ k
theorem ft_lo {W : World} {g m : Nat} {s : St} {vc vg : Value} {D : DataW Unit} (h : Pg W g m s vc vg D) : Lo W.heap.size (Ft g m vc vg) := by
  intro k hk
  rcases hk with rfl | rfl | hk | hk
  · exact h.box.lt
  · exact h.pm.lt
  · exact own_lo h.code k hk
  · exact own_lo h.gaps k hk
theorem Pg.below {W W' : World} {g m : Nat} {s : St} {vc vg : Value} {D : DataW Unit} (h : Pg W g m s vc vg D) (b : Below W.heap.size W W') : Pg W' g m s vc vg D :=
  ⟨h.box.below b (Nat.le_refl _), own_below h.code b, own_below h.gaps b, h.pm.keep (b.block m h.pm.lt), h.gm, h.cg, h.gg, h.cm, h.hm, h.cv, h.byt, h.lo⟩
theorem Pg.cells {W : World} {g m : Nat} {s : St} {vc vg : Value} {D : DataW Unit} (h : Pg W g m s vc vg D) :
    W.cell? ⟨g, 0, none⟩ = some vc ∧ W.cell? ⟨g, 1, none⟩ = some (.map (some m)) ∧ W.cell? ⟨g, 2, none⟩ = some vg ∧ (∀ i, W.frozen? ⟨g, i, none⟩ = false) ∧ g < W.heap.size :=
  ⟨h.box.cell 0 _ rfl, h.box.cell 1 _ rfl, h.box.cell 2 _ rfl, h.box.free, h.box.lt⟩
theorem not_grown {W : World} {v v' : Value} {k : Nat} {W' : World} (hS : Step (Bl v) (Bl v') W W') (h : ¬ Bl v k) (hl : k < W.heap.size) : ¬ Bl v' k := fun x => by
  rcases hS.grow k x with y | y
  · exact h y
  · omega
theorem lo_step {W W' : World} {g m : Nat} {s : St} {vc vg : Value} {D : DataW Unit} (h : Pg W g m s vc vg D) {S' : Nat → Prop} (k : Step (Ft g m vc vg) S' W W') : ∀ i, S' i → 13 ≤ i := fun i hi => by
  have h1 := h.lo g (.inl rfl)
  have h2 := h.box.lt
  rcases k.grow i hi with x | x
  · exact h.lo i x
  · omega
/-- bytes behind the code, and the slice stored -/
theorem Pg.put0 {W W' : World} {g m : Nat} {s : St} {vc vc' vg : Value} {D : DataW Unit} (h : Pg W g m s vc vg D) {c' : List Int} (hR : R8 W' vc' c') (hS : Step (Bl vc) (Bl vc') W W') (hb : Byt c') :
    Pg (W'.setCell ⟨g, 0, none⟩ vc') g m ⟨c', s.pl, s.gp⟩ vc' vg D ∧ Step (Ft g m vc vg) (Ft g m vc' vg) W (W'.setCell ⟨g, 0, none⟩ vc') := by
  have hgl := h.box.lt
  have hml := h.pm.lt
  have n1 := not_grown hS h.cg hgl
  have hmb : (W'.setCell ⟨g, 0, none⟩ vc').heap[m]? = W.heap[m]? := by
    rw [Below.heap_setCell _ _ _ _ (Ne.symm h.gm)]
    exact hS.mods.block m hml h.cm
  suffices hst : Step (Ft g m vc vg) (Ft g m vc' vg) W (W'.setCell ⟨g, 0, none⟩ vc') from
    ⟨⟨(h.box.mods hS.mods h.cg).set 0 _, Ia.own_set hR n1 0 _, Ia.own_set (own_mods h.gaps hS.mods h.cv) h.gg 0 _, h.pm.keep hmb, h.gm, n1, h.gg, not_grown hS h.cm hml, h.hm, hS.apart h.cv (own_lo h.gaps), hb, lo_step h hst⟩, hst⟩
  refine ⟨?_, ?_⟩
  · exact (hS.mods.mono (T := Ft g m vc vg) (fun k _ hk => .inr (.inr (.inl hk)))).set _ (.inl (.inl rfl))
  · intro k hk
    rcases hk with rfl | rfl | hk | hk
    · exact .inl (.inl rfl)
    · exact .inl (.inr (.inl rfl))
    · rcases hS.grow k hk with x | x
      · exact .inl (.inr (.inr (.inl x)))
      · exact .inr x
    · exact .inl (.inr (.inr (.inr hk)))
/-- a gap more, and the slice stored -/
theorem Pg.put2 {W W' : World} {g m : Nat} {s : St} {vc vg vg' : Value} {D : DataW Unit} (h : Pg W g m s vc vg D) {gp' : List Gp} (hR : Rg W' vg' gp') (hS : Step (Bl vg) (Bl vg') W W') :
    Pg (W'.setCell ⟨g, 2, none⟩ vg') g m ⟨s.code, s.pl, gp'⟩ vc vg' D ∧ Step (Ft g m vc vg) (Ft g m vc vg') W (W'.setCell ⟨g, 2, none⟩ vg') := by
  have hgl := h.box.lt
  have hml := h.pm.lt
  have n1 := not_grown hS h.gg hgl
  have hmb : (W'.setCell ⟨g, 2, none⟩ vg').heap[m]? = W.heap[m]? := by
    rw [Below.heap_setCell _ _ _ _ (Ne.symm h.gm)]
    exact hS.mods.block m hml h.hm
  suffices hst : Step (Ft g m vc vg) (Ft g m vc vg') W (W'.setCell ⟨g, 2, none⟩ vg') from
    ⟨⟨(h.box.mods hS.mods h.gg).set 2 _, Ia.own_set (own_mods h.code hS.mods h.cv.symm) h.cg 2 _, Ia.own_set hR n1 2 _, h.pm.keep hmb, h.gm, h.cg, n1, h.cm, not_grown hS h.hm hml, (hS.apart h.cv.symm (own_lo h.code)).symm, h.byt, lo_step h hst⟩, hst⟩
  refine ⟨?_, ?_⟩
  · exact (hS.mods.mono (T := Ft g m vc vg) (fun k _ hk => .inr (.inr (.inr hk)))).set _ (.inl (.inl rfl))
  · intro k hk
    rcases hk with rfl | rfl | hk | hk
    · exact .inl (.inl rfl)
    · exact .inl (.inr (.inl rfl))
    · exact .inl (.inr (.inr (.inl hk)))
    · rcases hS.grow k hk with x | x
      · exact .inl (.inr (.inr (.inr x)))
      · exact .inr x
/-- a label more -/
theorem Pg.put1 {W W' : World} {g m : Nat} {s : St} {vc vg : Value} {D : DataW Unit} (h : Pg W g m s vc vg D) (l : Tx) (n : Nat) (hw : W'.ownsMap Tryz.prog 9 (plainElem Tryz.prog 3) m (s.pl.length + 1) (D.put (.string l) (.lit (.int .i64 n)))) (hg : W.grownBy W' (some m)) :
    Pg W' g m ⟨s.code, (l, n) :: s.pl, s.gp⟩ vc vg (D.put (.string l) (.lit (.int .i64 n))) ∧ Step (Ft g m vc vg) (Ft g m vc vg) W W' := by
  have hM : Mods (fun k => k = m) W W' := Mods.of_grown hg (fun k e => by injection e with e; exact e.symm)
  refine ⟨⟨h.box.mods hM h.gm, own_mods h.code hM (fun k e hk => h.cm (e ▸ hk)), own_mods h.gaps hM (fun k e hk => h.hm (e ▸ hk)), h.pm.put l n hw, h.gm, h.cg, h.gg, h.cm, h.hm, h.cv, h.byt, h.lo⟩, hM.mono (fun k _ hk => .inr (.inl hk)), fun k hk => .inl hk⟩

/-- what a call answers that does something with a program -/
def PgO (W : World) (g m : Nat) (vc vg : Value) : Option St → Ending → World → Prop
  | none, e, w' => e = .returned (.bool false) ∧ Mods (Ft g m vc vg) W w'
  | some s, e, w' => e = .returned (.bool true) ∧ ∃ vc' vg' D', Pg w' g m s vc' vg' D' ∧ Step (Ft g m vc vg) (Ft g m vc' vg') W w'
theorem Step.ft_trans {S S' S'' : Nat → Prop} {w w' w'' : World} (h : Step S S' w w') (k : Step S' S'' w' w'') : Step S S'' w w'' := h.trans k
theorem Step.mods_trans {S S' : Nat → Prop} {w w' w'' : World} (h : Step S S' w w') (k : Mods S' w' w'') : Mods S w w'' :=
  h.mods.trans k (fun i hi hs => by rcases h.grow i hs with x | x; · exact x
                                    · omega)
theorem mods_of_below {S : Nat → Prop} {w w' : World} (b : Below w.heap.size w w') : Mods S w w' := Mods.of_below b

theorem cell_keep {W W' : World} {b o : Nat} (h : W'.heap[b]? = W.heap[b]?) : W'.cell? ⟨b, o, none⟩ = W.cell? ⟨b, o, none⟩ := by
  unfold World.cell?
  simp only [h]
theorem gt_mods {S : Nat → Prop} {W W' : World} (h : Gt W) (k : Mods S W W') (hS : ∀ i, S i → 13 ≤ i) : Gt W' := by
  have hk : ∀ b, b < 13 → (b < W.heap.size) → W'.heap[b]? = W.heap[b]? := fun b hb hl => k.block b hl (fun x => by have := hS b x; omega)
  obtain ⟨n, hm⟩ := h.ml
  have hml := World.block_lt_of_cell? _ _ hm
  have tb : ∀ {n : String} {q : IntKind} {zs : List Int} {b : Nat}, Tryz.prog.globalNamed n = some b → b < 13 → Lib.TabIs Tryz.prog W n q zs → Lib.TabIs Tryz.prog W' n q zs := by
    intro n q zs b hg hb ht
    unfold Lib.TabIs World.var? at *
    rw [hg] at ht ⊢
    simp only [Option.bind_some] at ht ⊢
    cases hc : W.heap[b]? with
    | none => rw [hc] at ht; cases ht
    | some o => rw [hk b hb (lt_of_heap hc), ← ht]
  refine ⟨⟨n, ?_⟩, tb (b := 4) (by kernel_rfl) (by decide) h.sp, tb (b := 7) (by kernel_rfl) (by decide) h.pw⟩
  rw [← hm]
  exact cell_keep (hk _ (by decide) hml)

end Go.Proofs.YtppkpfkoggnbmaaGreatDoor.Cs.Ka

/- Contracts of package asm: labels, and directives. -/
namespace Go.Proofs.YtppkpfkoggnbmaaGreatDoor.Cs.Ka
open Go.RowKit Es Go.Maps Go.MapKept
open Ia (sb cst sb_size sb_get sb_append)
set_option linter.unusedVariables false
set_option linter.unusedSimpArgs false

theorem PgO.no {W w' : World} {g m : Nat} {vc vg : Value} (h : Mods (Ft g m vc vg) W w') : PgO W g m vc vg none (.returned (.bool false)) w' := ⟨rfl, h⟩
theorem PgO.yes {W w' : World} {g m : Nat} {vc vg vc' vg' : Value} {s : St} {D : DataW Unit} (h : Pg w' g m s vc' vg' D) (k : Step (Ft g m vc vg) (Ft g m vc' vg') W w') : PgO W g m vc vg (some s) (.returned (.bool true)) w' := ⟨rfl, _, _, _, h, k⟩

set_option maxHeartbeats 6400000 in
set_option maxRecDepth 100000 in
theorem label_any (W : World) (g m : Nat) (s : St) (vc vg : Value) (D : DataW Unit) (l : Tx) (hP : Pg W g m s vc vg D) (hl : l.length ≤ 1000000) (hc : s.code.length ≤ 1000000) (hp : s.pl.length ≤ 1000000) :
    Calls Tryz.prog 43 #[.pointer (some ⟨g, 0, none⟩), .string (sb l)] W (PgO W g m vc vg (labF s l)) := by
  have H1 := Lib.hid (fun V => register_any l V)
  have H2 := Lib.hid (fun V => isName_any l V hl)
  have HE : Hid (labF s l = if (rgn l).2 = true ∨ isnm l = false then none else if (lk s.pl l).isSome = true then none else some ⟨s.code, (l, s.code.length) :: s.pl, s.gp⟩) := rfl
  generalize labF s l = res at *
  generalize rgn l = q at *
  obtain ⟨rg, is⟩ := q
  simp only at HE
  cases is
  · generalize isnm l = nm at *
    cases nm
    · have HR : Hid (res = none) := by show _ = _; rw [HE.out]; rfl
      go_enter Tryz.func43, Tryz.ntmps43
      go_wp2_with (first
        | (go_at_call 73; refine (H1.out _).mono ?_; rintro e w' ⟨rfl, rfl⟩)
        | (go_at_call 74; refine (H2.out _).mono ?_; rintro e w' ⟨rfl, rfl⟩)
        | fail)
      go_ret
      rw [HR.out]
      exact PgO.no (Mods.refl _ _)
    · have hkey := key_of l hl
      have HK := Lib.hid hkey
      have hhas := hP.pm.has l
      obtain ⟨y0, y1, y2, yf, yl⟩ := hP.cells
      have HO := Lib.hid hP.pm.owns
      have HP := Lib.hid hP
      have hpl : s.pl.length < 1000001 := by omega
      clear hkey hP
      cases hlk : lk s.pl l with
      | some j =>
        have HR : Hid (res = none) := by show _ = _; rw [HE.out, hlk]; rfl
        have h8 : Maps.has D (.string l) = true := by rw [hhas, hlk]; rfl
        clear HE hlk hhas
        go_enter Tryz.func43, Tryz.ntmps43
        go_wp2_with (first
          | (go_at_call 73; refine (H1.out _).mono ?_; rintro e w' ⟨rfl, rfl⟩)
          | (go_at_call 74; refine (H2.out _).mono ?_; rintro e w' ⟨rfl, rfl⟩)
          | (at_lookup; refine wpList_lookup_own_ok_int W rfl _ _ 52 rfl 9 3 .i64 (string_keyed ts_str) ts_map ts_int (ts_zero W) m s.pl.length D rfl HO.out _ _ rfl HK.out ?_; intro c hat hwc; clear hat hwc)
          | fail)
        go_ret
        rw [HR.out]
        exact PgO.no (Mods.refl _ _)
      | none =>
        have HR : Hid (res = some ⟨s.code, (l, s.code.length) :: s.pl, s.gp⟩) := by show _ = _; rw [HE.out, hlk]; rfl
        have h8 : Maps.has D (.string l) = false := by rw [hhas, hlk]; rfl
        clear HE hlk hhas
        obtain ⟨A, c0, rfl⟩ := HP.out.code.shape
        go_enter Tryz.func43, Tryz.ntmps43
        go_upto_region 7 with (first
          | (go_at_call 73; refine (H1.out _).mono ?_; rintro e w' ⟨rfl, rfl⟩)
          | (go_at_call 74; refine (H2.out _).mono ?_; rintro e w' ⟨rfl, rfl⟩)
          | (at_lookup; refine wpList_lookup_own_ok_int W rfl _ _ 52 rfl 9 3 .i64 (string_keyed ts_str) ts_map ts_int (ts_zero W) m s.pl.length D rfl HO.out _ _ rfl HK.out ?_; intro c hat hwc; clear hat hwc)
          | fail)
        go_still_tail 10, (by kernel_rfl)
        change wpList _ _ _ _ _ W.drew
        have HO2 : Hid (W.drew.ownsMap Tryz.prog 9 (plainElem Tryz.prog 3) m s.pl.length D) := HO.out.drew
        go_wp2_with (first
          | (at_mapUpdate; refine wpList_mapUpdate_own W.drew rfl _ _ _ 52 rfl 9 3 (string_keyed ts_str) ts_map (plainElem Tryz.prog 3) m s.pl.length D rfl HO2.out (by simp only [maxLen]; omega) _ _ (.string l) rfl rfl HK.out (.lit (.int .i64 s.code.length)) [] (plainElem_int ts_int (by simp [Lit.wf, IntKind.min, IntKind.max, IntKind.bits, IntKind.signed]; omega)) ?_; intro w1 hown1 hgrow1)
          | fail)
        go_ret
        rw [HR.out]
        obtain ⟨h1, h2⟩ := HP.out.put1 l s.code.length hown1 ⟨hgrow1.os, hgrow1.tape, hgrow1.output, hgrow1.size, hgrow1.block⟩
        exact PgO.yes h1 h2
  · have HR : Hid (res = none) := by show _ = _; rw [HE.out]; simp
    go_enter Tryz.func43, Tryz.ntmps43
    go_wp2_with (first
      | (go_at_call 73; refine (H1.out _).mono ?_; rintro e w' ⟨rfl, rfl⟩)
      | fail)
    go_ret
    rw [HR.out]
    exact PgO.no (Mods.refl _ _)

end Go.Proofs.YtppkpfkoggnbmaaGreatDoor.Cs.Ka

/- Contracts of package asm: directives. -/
namespace Go.Proofs.YtppkpfkoggnbmaaGreatDoor.Cs.Ka
open Go.RowKit Es Go.Maps Go.MapKept
open Ia (sb cst sb_size sb_get sb_append)
set_option linter.unusedVariables false
set_option linter.unusedSimpArgs false

theorem trm_le (l : Tx) : (trm l).length ≤ l.length := by
  unfold trm Lib.trimSpace
  have h1 : (l.dropWhile Lib.isSp).length ≤ l.length := (List.dropWhile_suffix _).length_le
  have h2 : ((l.dropWhile Lib.isSp).reverse.dropWhile Lib.isSp).length ≤ (l.dropWhile Lib.isSp).reverse.length := (List.dropWhile_suffix _).length_le
  simp only [List.length_reverse] at h2 ⊢
  omega

set_option maxHeartbeats 6400000 in
set_option maxRecDepth 100000 in
theorem space_any (W : World) (g m : Nat) (s : St) (vc vg : Value) (D : DataW Unit) (t : Tx) (hP : Pg W g m s vc vg D) (hl : t.length ≤ 1000000) (ha : Asc t) (hc : s.code.length ≤ 1000000) (hg : Gt W) :
    Calls Tryz.prog 76 #[.pointer (some ⟨g, 0, none⟩), .string (sb t)] W (PgO W g m vc vg (wcode s (spcF s.code t))) := by
  have H1 := Lib.hid (fun V h => trim_any t V hl ha h)
  have H2 := Lib.hid (fun V => number_any (trm t) V (by have := trm_le t; omega))
  have hb := numb_rg (trm t)
  have HE : Hid (wcode s (spcF s.code t) = wcode s (if (numb (trm t)).2 = true ∧ (numb (trm t)).1 ≤ 4096 then some (s.code ++ List.replicate (numb (trm t)).1.toNat 0) else none)) := rfl
  have HG := Lib.hid hg
  clear hg ha
  generalize wcode s (spcF s.code t) = res at *
  generalize trm t = t' at *
  generalize numb t' = q at *
  obtain ⟨x, is⟩ := q
  obtain ⟨x0, x1⟩ := hb
  simp only at HE x0 x1
  have HP := Lib.hid hP
  clear hP
  by_cases hok : is = true ∧ x ≤ 4096
  · obtain ⟨rfl, hx⟩ := hok
    rw [if_pos ⟨rfl, hx⟩] at HE
    have hR := fun V (h : Pg V g m s vc vg D) => run_app0 V vc s.code x.toNat h.code (by omega)
    rw [show ((x.toNat : Nat) : Int) = x by omega] at hR
    have HRU := Lib.hid hR
    clear hR
    go_enter Tryz.func76, Tryz.ntmps76
    go_wp2_with (first
      | (go_at_call 42; refine (H1.out _ HG.out).mono ?_; rintro e w1 ⟨rfl, hb⟩; have HP1 := Lib.hid (HP.out.below hb); have HB1 := Lib.hid hb; clear hb; obtain ⟨y0, y1, y2, yf, yl⟩ := HP1.out.cells; obtain ⟨A2, c2, w2, hrun, hres⟩ := HRU.out w1 HP1.out; have HRun := Lib.hid hrun; clear hrun; have hbox := HP1.out.box.mods hres.out.2.mods HP1.out.cg; have z0 := hbox.cell 0 _ rfl; have zf := hbox.free; have zl := hbox.lt; clear hbox)
      | (go_at_call 101; refine (H2.out _).mono ?_; rintro e w' ⟨rfl, rfl⟩)
      | (at_builtin; refine Lib.wpList_append_run _ rfl _ _ _ _ rfl _ _ rfl rfl _ _ HRun.out ?_)
      | fail)
    go_ret
    rw [HE.out]
    obtain ⟨h1, h2⟩ := HP1.out.put0 hres.out.1 hres.out.2 (HP1.out.byt.app (fun y hy => by simp at hy; omega))
    exact PgO.yes h1 ((Step.of_below HB1.out).trans h2)
  · rw [if_neg hok] at HE
    have hok' : is = false ∨ (is = true ∧ 4096 < x) := by
      cases is
      · exact .inl rfl
      · exact .inr ⟨rfl, by have : ¬ x ≤ 4096 := fun h => hok ⟨rfl, h⟩; omega⟩
    clear hok
    rcases hok' with rfl | ⟨rfl, hx⟩
    all_goals
      go_enter Tryz.func76, Tryz.ntmps76
      go_wp2_with (first
        | (go_at_call 42; refine (H1.out _ HG.out).mono ?_; rintro e w1 ⟨rfl, hb⟩; have HB1 := Lib.hid hb; clear hb)
        | (go_at_call 101; refine (H2.out _).mono ?_; rintro e w' ⟨rfl, rfl⟩)
        | fail)
      go_ret
      rw [HE.out]
      exact PgO.no (Mods.of_below HB1.out)

end Go.Proofs.YtppkpfkoggnbmaaGreatDoor.Cs.Ka

/- Contracts of package asm: numbers that are written down. -/
namespace Go.Proofs.YtppkpfkoggnbmaaGreatDoor.Cs.Ka
open Go.RowKit Es Go.Maps Go.MapKept
open Ia (sb cst sb_size sb_get sb_append cst_get)
set_option linter.unusedVariables false
set_option linter.unusedSimpArgs false

theorem numsF_cons (k : Nat) (c : List Int) (t : Tx) (l : List Tx) : numsF k c (t :: l) = if (numb (trm t)).2 = true then numsF k (c ++ low (numb (trm t)).1 k) l else none := rfl
/-- a program, and texts in a row beside it -/
structure Pt (W0 : World) (g m : Nat) (vc0 vg : Value) (D : DataW Unit) (b : Nat) (xs : List Tx) (s : St) (vc : Value) (W : World) : Prop where
  pg : Pg W g m s vc vg D
  st : Step (Ft g m vc0 vg) (Ft g m vc vg) W0 W
  row : Es.Bk W b 9 (cst xs)
  far : ¬ Ft g m vc vg b
theorem Pt.below {W0 W W' : World} {g m b : Nat} {vc0 vg vc : Value} {D : DataW Unit} {xs : List Tx} {s : St} (h : Pt W0 g m vc0 vg D b xs s vc W) (hb : Below W.heap.size W W') : Pt W0 g m vc0 vg D b xs s vc W' :=
  ⟨h.pg.below hb, h.st.trans (Step.of_below hb), h.row.below hb (Nat.le_refl _), h.far⟩
theorem Pt.put {W0 W W' : World} {g m b : Nat} {vc0 vg vc vc' : Value} {D : DataW Unit} {xs : List Tx} {s : St} (h : Pt W0 g m vc0 vg D b xs s vc W) {c' : List Int} (hR : R8 W' vc' c') (hS : Step (Bl vc) (Bl vc') W W') (hb : Byt c') :
    Pt W0 g m vc0 vg D b xs ⟨c', s.pl, s.gp⟩ vc' (W'.setCell ⟨g, 0, none⟩ vc') := by
  obtain ⟨h1, h2⟩ := h.pg.put0 hR hS hb
  have hf : ¬ Ft g m vc' vg b := fun x => by
    rcases h2.grow b x with y | y
    · exact h.far y
    · have := h.row.lt; omega
  exact ⟨h1, h.st.trans h2, h.row.mods h2.mods h.far, hf⟩

theorem u8w (y : Int) : IntKind.u8.wrap y = y % 256 := by simp [IntKind.wrap, IntKind.bits, IntKind.signed]
theorem u8_0 (x : Int) : x / 256 ^ 0 % 256 = IntKind.u8.wrap x := by rw [u8w]; simp
theorem u8_1 (x : Int) : x / 256 ^ 1 % 256 = IntKind.u8.wrap (x / 256) := by rw [u8w]; simp
theorem u8_2 (x : Int) : x / 256 ^ 2 % 256 = IntKind.u8.wrap (x / 65536) := by rw [u8w]; simp
theorem u8_3 (x : Int) : x / 256 ^ 3 % 256 = IntKind.u8.wrap (x / 16777216) := by rw [u8w]; simp
/-- one byte behind the code, at a region that draws -/
theorem app1d {W : World} {g m : Nat} {s : St} {vc vg : Value} {D : DataW Unit} (h : Pg W g m s vc vg D) (q : Int) (hq : 0 ≤ q ∧ q < 256) (hl : s.code.length ≤ 10000000) :
    ∃ A' c' w', (Builtin.append_ #[22, 22] 22 #[vc, .slice (some ⟨W.heap.size, 0, none⟩) 1 1]).run Tryz.prog (W.alloc (.cells #[.int .u8 q] 5)).drew = .ok (.slice A' (s.code.length + 1) c') w' ∧
      Hid (R8 w' (.slice A' (s.code.length + 1) c') (s.code ++ [q]) ∧ Step (Bl vc) (Bl (.slice A' (s.code.length + 1) c')) W w') := by
  have hb : Below W.heap.size W (W.alloc (.cells #[.int .u8 q] 5)).drew := (Es.al1 W _).drew
  obtain ⟨A', c', w', hrun, hR, hS⟩ := run_app8 (W.alloc (.cells #[.int .u8 q] 5)).drew vc s.code [q] (some ⟨W.heap.size, 0, none⟩) 1 1 (own_below h.code hb) (((R8.lit W [q] 1 rfl (by omega)).by rfl (Byt.cons hq Byt.nil)).drew) (by omega)
  exact ⟨A', c', w', hrun, hR, (Step.of_below hb).trans hS⟩

set_option maxHeartbeats 6400000 in
set_option maxRecDepth 100000 in
theorem numbers_any (W : World) (g m : Nat) (s : St) (vc vg : Value) (D : DataW Unit) (t : Tx) (sz : Nat) (hz : sz = 1 ∨ sz = 2 ∨ sz = 4) (hP : Pg W g m s vc vg D) (hl : t.length ≤ 65536) (ha : ∀ p ∈ spl 44 t, Asc p ∧ p.length ≤ 65536) (hsl : (spl 44 t).length ≤ 65537) (hc : s.code.length ≤ 1000000) (hg : Gt W) :
    Calls Tryz.prog 77 #[.pointer (some ⟨g, 0, none⟩), .string (sb t), .int .i64 sz] W (PgO W g m vc vg (wcode s (numsF sz s.code (spl 44 t)))) := by
  have H1 := Lib.hid (fun V h => split_any 44 t V (by omega) h)
  have HE : Hid (wcode s (numsF sz s.code (spl 44 t)) = wcode s (numsF sz s.code (spl 44 t))) := rfl
  have HA := Lib.hid ha
  have HT := Lib.hid (Pt.below (W0 := W) (xs := spl 44 t) (b := W.heap.size) (W := W.alloc (.cells (cst (spl 44 t)).toArray 9)) ⟨hP.below (Es.al1 _ _), Step.of_below (Es.al1 _ _), Es.Bk.new W _ _, fun x => by have := ft_lo hP _ x; omega⟩ (Below.refl _ _))
  have HG := Lib.hid hg
  have HL := Lib.hid hP.lo
  have HG1 := Lib.hid (hg.below (Es.al1 W (.cells (cst (spl 44 t)).toArray 9)))
  clear hP hg ha
  generalize hres : numsF sz s.code (spl 44 t) = res at HE ⊢
  have HRes := Lib.hid hres
  clear hres
  generalize spl 44 t = xs at *
  go_enter Tryz.func77, Tryz.ntmps77
  go_wp2_with (first
    | (go_at_call 20; refine (H1.out _ HG.out).mono ?_; rintro e w1 ⟨rfl, hw⟩; rw [hw]; clear hw)
    | fail)
  generalize W.alloc (.cells (cst xs).toArray 9) = W1 at *
  go_loopw [15] (fun i wr => ∃ (k : Nat) (c' : List Int) (vc' : Value), k ≤ xs.length ∧ i = .int .i64 k ∧ c'.length ≤ s.code.length + 4 * k ∧ Pt W g m vc vg D W.heap.size xs ⟨c', s.pl, s.gp⟩ vc' wr ∧ numsF sz c' (xs.drop k) = res) (fun i _ => xs.length - (intOf i).toNat)
  case atStart => exact ⟨0, s.code, vc, Nat.zero_le _, rfl, by omega, HT.out, HRes.out⟩
  case round =>
    clear HT HRes HG1
    obtain ⟨k, c', vc', hk, rfl, hcl, hT, hR⟩ := hrel
    have HG1 := Lib.hid (gt_mods HG.out hT.st.mods (fun i hi => HL.out i hi))
    have HT := Lib.hid hT
    by_cases hlt : k < xs.length
    · have hrow := hT.row.cell k _ (cst_get xs k hlt)
      have hxd : xs.drop k = xs.getD k [] :: xs.drop (k + 1) := by rw [List.drop_eq_getElem_cons hlt]; simp [List.getD, hlt]
      rw [hxd, numsF_cons] at hR
      obtain ⟨hpa, hpl⟩ := HA.out (xs.getD k []) (by simp [List.getD, hlt])
      have H2 := Lib.hid (fun V h => trim_any (xs.getD k []) V (by omega) hpa h)
      have H3 := Lib.hid (fun V => number_any (trm (xs.getD k [])) V (by have := trm_le (xs.getD k []); omega))
      have hb := numb_rg (trm (xs.getD k []))
      clear hT hxd hpa hpl
      generalize trm (xs.getD k []) = t' at *
      generalize xs.getD k [] = p at *
      generalize numb t' = q at *
      obtain ⟨x, is⟩ := q
      obtain ⟨x0, x1⟩ := hb
      simp only at hR x0 x1
      cases is
      · rw [if_neg (by simp)] at hR
        have HR := Lib.hid hR
        clear hR
        go_wp2_with (first
          | (go_at_call 42; refine (H2.out _ HG1.out).mono ?_; rintro e w2 ⟨rfl, hb⟩; have HT2 := Lib.hid (HT.out.below hb); clear hb)
          | (go_at_call 101; refine (H3.out _).mono ?_; rintro e w' ⟨rfl, rfl⟩)
          | fail)
        go_ret
        rw [← HR.out]
        exact PgO.no HT2.out.st.mods
      · rw [if_pos rfl] at hR
        have HR := Lib.hid hR
        clear hR
        go_upto_region 7 with (first
          | (go_at_call 42; refine (H2.out _ HG1.out).mono ?_; rintro e w2 ⟨rfl, hb⟩; have HT2 := Lib.hid (HT.out.below hb); clear hb)
          | (go_at_call 101; refine (H3.out _).mono ?_; rintro e w' ⟨rfl, rfl⟩)
          | fail)
        clear H2 H3 hrow
        go_wp2_with fail
        go_loopw [28] (fun i wr => ∃ (j : Nat) (vj : Value), j ≤ sz ∧ i = .int .i64 j ∧ Pt W g m vc vg D W.heap.size xs ⟨c' ++ low x j, s.pl, s.gp⟩ vj wr) (fun i _ => sz - (intOf i).toNat)
        case atStart => exact ⟨0, vc', Nat.zero_le _, rfl, by rw [show low x 0 = [] from rfl, List.append_nil]; exact HT2.out⟩
        case round =>
          clear HT2 HT HG1
          obtain ⟨j, vj, hj, rfl, hT⟩ := hrel
          by_cases hjl : j < sz
          · obtain ⟨y0, y1, y2, yf, yl⟩ := hT.pg.cells
            have hlj : (c' ++ low x j).length = c'.length + j := by simp [low_length]
            have hbq : 0 ≤ x / 256 ^ j % 256 ∧ x / 256 ^ j % 256 < 256 := by omega
            obtain ⟨A2, c2, w2, hrun, hres⟩ := app1d hT.pg (x / 256 ^ j % 256) hbq (by rw [hlj]; omega)
            have hnew := hT.put (hres.out.1) (by exact hres.out.2) (hT.pg.byt.app (Byt.cons hbq Byt.nil))
            have hb2 := hT.pg.box.mods hres.out.2.mods hT.pg.cg
            have z0 := hb2.cell 0 _ rfl
            have zf := hb2.free
            have HNew : Hid (Pt W g m vc vg D W.heap.size xs ⟨c' ++ low x (j + 1), s.pl, s.gp⟩ (.slice A2 ((c' ++ low x j).length + 1) c2) (w2.setCell ⟨g, 0, none⟩ (.slice A2 ((c' ++ low x j).length + 1) c2))) := Lib.hid (by rw [low_succ, ← List.append_assoc]; exact hnew)
            have HRun := Lib.hid hrun
            have hj4 : j = 0 ∨ j = 1 ∨ j = 2 ∨ j = 3 := by omega
            clear hT hrun hres hnew hb2 hlj
            generalize (c' ++ low x j).length = ln at *
            obtain ⟨b0, b1⟩ := hbq
            have w0 : IntKind.i64.wrap 0 = 0 := by decide
            have w8 : IntKind.i64.wrap 8 = 8 := by decide
            have w16 : IntKind.i64.wrap 16 = 16 := by decide
            have w24 : IntKind.i64.wrap 24 = 24 := by decide
            rcases hj4 with rfl | rfl | rfl | rfl
            all_goals
              first | rw [u8_0] at HRun | rw [u8_1] at HRun | rw [u8_2] at HRun | rw [u8_3] at HRun
              go_upto_region 10 with fail
              go_region_law (refine step_append_run rfl (.tmp 35) (.tmp 41) _ _ rfl _ _ rfl rfl HRun.out ?_)
              all_goals go_wp2_with fail
              all_goals
                go_roundw
                case rel => exact ⟨_, _, hjl, rfl, HNew.out⟩
                case measure => first | (simp [intOf]; done) | (simp [intOf]; omega)
          · obtain rfl : j = sz := by omega
            have HT := Lib.hid hT
            clear hT
            go_wp2_with fail
            go_roundw
            case rel => exact ⟨k + 1, c' ++ low x j, vj, by omega, by go_num, by simp [low_length]; omega, HT.out, HR.out⟩
            case measure => first | (simp [intOf]; done) | (simp [intOf]; omega)
    · have e : xs.drop k = [] := List.drop_eq_nil_of_le (by omega)
      rw [e] at hR
      have HR : Hid (res = some c') := Lib.hid hR.symm
      clear hR e hT
      go_wp2_with fail
      go_ret
      rw [HR.out]
      exact PgO.yes HT.out.pg HT.out.st

end Go.Proofs.YtppkpfkoggnbmaaGreatDoor.Cs.Ka

/- Parts of texts whose signs are below 128. No program in sight. -/
namespace Go.Proofs.YtppkpfkoggnbmaaGreatDoor.Cs.Ka
open Go.RowKit
set_option linter.unusedVariables false
set_option linter.unusedSimpArgs false

/-- a text that may be read -/
structure Okt (t : Tx) : Prop where
  a : Asc t
  l : t.length ≤ 65536
theorem Asc.mono {s t : Tx} (h : Asc t) (hs : ∀ b ∈ s, b ∈ t) : Asc s := fun b hb => h b (hs b hb)
theorem trm_mem (l : Tx) : ∀ b ∈ trm l, b ∈ l := by
  intro b hb
  unfold trm Lib.trimSpace at hb
  rw [List.mem_reverse] at hb
  have h1 := (List.dropWhile_suffix Lib.isSp (l := (l.dropWhile Lib.isSp).reverse)).subset hb
  rw [List.mem_reverse] at h1
  exact (List.dropWhile_suffix Lib.isSp (l := l)).subset h1
theorem Okt.trm {t : Tx} (h : Okt t) : Okt (trm t) := ⟨h.a.mono (trm_mem t), by have := trm_le t; have := h.l; omega⟩
theorem cutc_mem (c : UInt8) (l : Tx) : (∀ b ∈ (cutc c l).1, b ∈ l) ∧ (∀ b ∈ (cutc c l).2.1, b ∈ l) := by
  induction l with
  | nil => simp [cutc]
  | cons x l ih =>
    unfold cutc
    split
    · exact ⟨fun b hb => by simp at hb, fun b hb => List.mem_cons_of_mem _ hb⟩
    · refine ⟨fun b hb => ?_, fun b hb => List.mem_cons_of_mem _ (ih.2 b hb)⟩
      rcases List.mem_cons.1 hb with rfl | hb
      · exact List.mem_cons_self
      · exact List.mem_cons_of_mem _ (ih.1 b hb)
theorem cutc_le' (c : UInt8) (l : Tx) : (cutc c l).1.length ≤ l.length ∧ (cutc c l).2.1.length ≤ l.length := by
  induction l with
  | nil => simp [cutc]
  | cons b l ih =>
    unfold cutc
    split
    · simp
    · simp; omega
theorem Okt.cut1 {t : Tx} (h : Okt t) (c : UInt8) : Okt (cutc c t).1 := ⟨h.a.mono (cutc_mem c t).1, by have := (cutc_le' c t).1; have := h.l; omega⟩
theorem Okt.cut2 {t : Tx} (h : Okt t) (c : UInt8) : Okt (cutc c t).2.1 := ⟨h.a.mono (cutc_mem c t).2, by have := (cutc_le' c t).2; have := h.l; omega⟩
theorem spl_ne (c : UInt8) (t : Tx) : spl c t ≠ [] := by
  cases t with
  | nil => simp [spl]
  | cons b l => unfold spl; split <;> simp
theorem spl_mem (c : UInt8) (t : Tx) : (∀ p ∈ spl c t, (∀ b ∈ p, b ∈ t) ∧ p.length ≤ t.length) ∧ (spl c t).length ≤ t.length + 1 := by
  induction t with
  | nil => simp [spl]
  | cons x l ih =>
    unfold spl
    split
    · refine ⟨fun p hp => ?_, by simp; exact ih.2⟩
      rcases List.mem_cons.1 hp with rfl | hp
      · simp
      · exact ⟨fun b hb => List.mem_cons_of_mem _ ((ih.1 p hp).1 b hb), by have := (ih.1 p hp).2; simp; omega⟩
    · cases hs : spl c l with
      | nil => exact absurd hs (spl_ne c l)
      | cons y ys =>
        rw [hs] at ih
        simp only [List.headD_cons, List.tail_cons]
        refine ⟨fun p hp => ?_, by have := ih.2; simp at this ⊢; omega⟩
        rcases List.mem_cons.1 hp with rfl | hp
        · have h1 := ih.1 y List.mem_cons_self
          refine ⟨fun b hb => ?_, by simp; exact h1.2⟩
          rcases List.mem_cons.1 hb with rfl | hb
          · exact List.mem_cons_self
          · exact List.mem_cons_of_mem _ (h1.1 b hb)
        · have h1 := ih.1 p (List.mem_cons_of_mem _ hp)
          exact ⟨fun b hb => List.mem_cons_of_mem _ (h1.1 b hb), by have := h1.2; simp; omega⟩
theorem Okt.spl {t : Tx} (h : Okt t) (c : UInt8) : (∀ p ∈ spl c t, Okt p) ∧ (spl c t).length ≤ 65537 := by
  obtain ⟨h1, h2⟩ := spl_mem c t
  have := h.l
  exact ⟨fun p hp => ⟨h.a.mono (h1 p hp).1, by have := (h1 p hp).2; omega⟩, by omega⟩

end Go.Proofs.YtppkpfkoggnbmaaGreatDoor.Cs.Ka

/- Contracts of package asm: directives; an operand added. -/
namespace Go.Proofs.YtppkpfkoggnbmaaGreatDoor.Cs.Ka
open Go.RowKit Es Go.Maps Go.MapKept
open Ia (sb cst sb_size sb_get sb_append cst_get)
set_option linter.unusedVariables false
set_option linter.unusedSimpArgs false

/-- what is handed on -/
theorem pgo_ret {W w' : World} {g m : Nat} {vc vg : Value} {r : Option St} {e : Ending} (h : PgO W g m vc vg r e w') : ∃ b : Bool, e = .returned (.bool b) ∧ PgO W g m vc vg r (.returned (.bool b)) w' := by
  cases r with
  | none => obtain ⟨rfl, h⟩ := h; exact ⟨false, rfl, rfl, h⟩
  | some s => obtain ⟨rfl, h⟩ := h; exact ⟨true, rfl, rfl, h⟩

set_option maxHeartbeats 6400000 in
set_option maxRecDepth 100000 in
theorem directive_any (W : World) (g m : Nat) (s : St) (vc vg : Value) (D : DataW Unit) (n t : Tx) (hP : Pg W g m s vc vg D) (ht : Okt t) (hc : s.code.length ≤ 1000000) (hg : Gt W) :
    Calls Tryz.prog 45 #[.pointer (some ⟨g, 0, none⟩), .string (sb n), .string (sb t)] W (PgO W g m vc vg (dirF s n t)) := by
  have hsp := ht.spl 44
  have H1 := Lib.hid (space_any W g m s vc vg D t hP (by have := ht.l; omega) ht.a hc hg)
  have H2 := Lib.hid (fun sz hz => numbers_any W g m s vc vg D t sz hz hP ht.l (fun p hp => ⟨(hsp.1 p hp).a, (hsp.1 p hp).l⟩) hsp.2 hc hg)
  have HE : Hid (dirF s n t = if n = [46, 115, 112, 97, 99, 101] then wcode s (spcF s.code t) else if dsz n = 0 then none else wcode s (numsF (dsz n) s.code (spl 44 t))) := rfl
  have hd : dsz n = if n = [46, 98, 121, 116, 101] then 1 else if n = [46, 119, 111, 114, 100] then 2 else if n = [46, 108, 111, 110, 103] then 4 else 0 := rfl
  have bt : ∀ k : Tx, n = k → (n == k) = true := fun k h => by simpa using h
  have bf : ∀ k : Tx, n ≠ k → (n == k) = false := fun k h => by simpa using h
  have BT := Lib.hid bt
  have BF := Lib.hid bf
  have HMr := Lib.hid (Mods.refl (Ft g m vc vg) W)
  clear bt bf hsp hP hg hc ht
  generalize dirF s n t = res at *
  by_cases h1 : n = [46, 115, 112, 97, 99, 101]
  · have b1 := BT.out _ h1
    rw [if_pos h1] at HE
    clear h1 hd
    generalize wcode s (spcF s.code t) = r at *
    go_enter Tryz.func45, Tryz.ntmps45
    go_wp2_with (first | (go_at_call 76; refine H1.out.mono ?_; intro e w' hr; obtain ⟨b, rfl, hr⟩ := pgo_ret hr; have HR := Lib.hid hr; clear hr) | fail)
    go_ret
    rw [HE.out]
    exact HR.out
  · have b1 := BF.out _ h1
    rw [if_neg h1] at HE
    clear h1
    by_cases h2 : n = [46, 98, 121, 116, 101]
    · have b2 := BT.out _ h2
      rw [if_pos h2] at hd
      rw [hd, if_neg (by decide)] at HE
      have H2 := Lib.hid (H2.out 1 (by omega))
      clear h2 hd
      generalize wcode s (numsF 1 s.code (spl 44 t)) = r at *
      go_enter Tryz.func45, Tryz.ntmps45
      go_wp2_with (first | (go_at_call 77; refine H2.out.mono ?_; intro e w' hr; obtain ⟨b, rfl, hr⟩ := pgo_ret hr; have HR := Lib.hid hr; clear hr) | fail)
      go_ret
      rw [HE.out]
      exact HR.out
    · have b2 := BF.out _ h2
      rw [if_neg h2] at hd
      clear h2
      by_cases h3 : n = [46, 119, 111, 114, 100]
      · have b3 := BT.out _ h3
        rw [if_pos h3] at hd
        rw [hd, if_neg (by decide)] at HE
        have H2 := Lib.hid (H2.out 2 (by omega))
        clear h3 hd
        generalize wcode s (numsF 2 s.code (spl 44 t)) = r at *
        go_enter Tryz.func45, Tryz.ntmps45
        go_wp2_with (first | (go_at_call 77; refine H2.out.mono ?_; intro e w' hr; obtain ⟨b, rfl, hr⟩ := pgo_ret hr; have HR := Lib.hid hr; clear hr) | fail)
        go_ret
        rw [HE.out]
        exact HR.out
      · have b3 := BF.out _ h3
        rw [if_neg h3] at hd
        clear h3
        by_cases h4 : n = [46, 108, 111, 110, 103]
        · have b4 := BT.out _ h4
          rw [if_pos h4] at hd
          rw [hd, if_neg (by decide)] at HE
          have H2 := Lib.hid (H2.out 4 (by omega))
          clear h4 hd
          generalize wcode s (numsF 4 s.code (spl 44 t)) = r at *
          go_enter Tryz.func45, Tryz.ntmps45
          go_wp2_with (first | (go_at_call 77; refine H2.out.mono ?_; intro e w' hr; obtain ⟨b, rfl, hr⟩ := pgo_ret hr; have HR := Lib.hid hr; clear hr) | fail)
          go_ret
          rw [HE.out]
          exact HR.out
        · have b4 := BF.out _ h4
          rw [if_neg h4] at hd
          rw [hd, if_pos rfl] at HE
          clear h4 hd H1 H2
          go_enter Tryz.func45, Tryz.ntmps45
          go_wp2_with fail
          go_ret
          rw [HE.out]
          exact PgO.no HMr.out

end Go.Proofs.YtppkpfkoggnbmaaGreatDoor.Cs.Ka
