/- Contracts of package regs: Load, and what only reads. -/
import Derived.Test.YtgljkadelkglbaaHOps
namespace Go.Proofs.Ytgljkadelkglbaa.Cs
open Go.RowKit Ps Tl

/-- a state that was just laid -/
structure Sb (W : World) (b : Nat) (s : Re) (x : Xs) : Prop where
  bk : Bk W b 28 (s.cells x.l)
  ok : s.Ok
theorem Sb.c_p {W : World} {b : Nat} {s : Re} {x : Xs} (h : Sb W b s x) : W.cell? ⟨b, 16, none⟩ = some (.int .u32 s.p) := h.bk.cell _ _ (Re.at_p h.ok _)
theorem Sb.c_k {W : World} {b : Nat} {s : Re} {x : Xs} (h : Sb W b s x) : W.cell? ⟨b, 17, none⟩ = some (.int .u32 s.k) := h.bk.cell _ _ (Re.at_k h.ok _)
theorem Sb.c_u {W : World} {b : Nat} {s : Re} {x : Xs} (h : Sb W b s x) : W.cell? ⟨b, 18, none⟩ = some (.int .u32 s.u) := h.bk.cell _ _ (Re.at_u h.ok _)
theorem Sb.range {W : World} {b : Nat} {s : Re} {x : Xs} (h : Sb W b s x) : W.rangeAt b 0 (c1 s.r) := h.bk.range 0 _ (Re.drop_r s _)
theorem Sb.new (w : World) {s : Re} (x : Xs) (h : s.Ok) : Sb (w.alloc (.cells (s.cells x.l).toArray 28)) w.heap.size s x := ⟨Bk.new _ _ _, h⟩
theorem arr_of {rs : List Int} (h : rs.length = 16) : (Try.prog.info? 24).map (·.size) = some (c1 rs).length := by rw [arr_size, c1_length, h]

set_option maxHeartbeats 400000 in
theorem load_any (w : World) (g : Nat) (e s : Re) (x : Xs) (ss : List Int) (n : Int) (h : Fi w g e ss n) (hs : s.Ok) :
    Calls Try.prog 22 #[.pointer (some ⟨g, 0, none⟩), sv s x] w fun r w' => r = .returned (.tuple #[]) ∧ Fi w' g s zs 0 ∧ Mods (fun k => k = g) w w' := by
  have HF := Lib.hid h
  clear h
  go_enter Try.func22, Try.ntmps22
  go_upto_region 2 with (refine wl_box rfl _ _ rfl _ rfl ?_)
  have hS := Sb.new w x hs
  have HM := Lib.hid (Mods.refl (fun k => k = g) w |>.alloc (.cells (s.cells x.l).toArray 28))
  have HT := Lib.hid (HF.out.bk.alloc (.cells (s.cells x.l).toArray 28))
  generalize w.alloc (.cells (s.cells x.l).toArray 28) = W at *
  generalize w.heap.size = b at *
  have c16 := hS.c_p
  have c17 := hS.c_k
  have c18 := hS.c_u
  have HR := Lib.hid hS.range
  have HL := Lib.hid hs.len
  obtain ⟨cs, hcs⟩ : ∃ cs, cs = Re.cells ⟨s.r, s.p, s.k, s.u⟩ (c1 zs ++ [.int .i64 0]) := ⟨_, rfl⟩
  have HC := Lib.hid hcs
  have HU := Lib.hid (build_file s.r s.p s.k s.u HL.out)
  rw [← hcs] at HU
  have HE : Hid (cs.length = 36) := by
    show _ = _
    rw [hcs, Re.length (e := ⟨s.r, s.p, s.k, s.u⟩) hs]; rfl
  have HO : Hid (∀ v ∈ cs, v.oneCell' = true) := by
    show ∀ v ∈ cs, _
    rw [hcs]
    refine one_cells (fun v hv => ?_)
    simp only [List.mem_append, List.mem_cons, List.not_mem_nil, or_false] at hv
    rcases hv with hv | rfl
    · exact c1_one _ v hv
    · rfl
  have HG : Hid (W.there g 0 cs.toArray.size) := by
    refine HT.out.there 0 _ ?_
    rw [Re.length HF.out.ok, HF.out.tail, List.size_toArray, HE.out]; exact Nat.le_refl _
  have HI : Hid ((Try.prog.info? 58).map (·.size) = some cs.toArray.size) := by
    show _ = _
    rw [List.size_toArray, HE.out, fi_size]
  have HS := Lib.hid hs
  clear hS hs hcs
  go_wp2_with (first
    | refine wpList_load_mid rfl 24 _ rfl b 0 rfl (c1 s.r) _ HR.out arr_under rfl (arr_of HL.out) ?_
    | refine wl_build rfl 58 _ rfl #[(0, .agg (c1 s.r).toArray), (1, .int .u32 s.p), (2, .int .u32 s.k), (3, .int .u32 s.u)] (by simp [Act.eval]) (.agg cs.toArray) (HU.out _) ?_
    | refine wpList_store_mid rfl 58 _ _ rfl g 0 cs.toArray rfl rfl HG.out HI.out (all_oneCell_toArray HO.out) ?_)
  go_end0
  refine ⟨rfl, ⟨?_, HS.out, zs_len, zs_num⟩, ?_⟩
  · rcases Bk.setCells cs 0 HT.out with k | k
    · have e0 : (e.cells (c1 ss ++ [Value.int .i64 n])).drop (0 + cs.length) = [] := List.drop_eq_nil_of_le (by rw [Re.length HF.out.ok, HF.out.tail, HE.out]; exact Nat.le_refl _)
      rw [e0, List.take_zero, List.nil_append, List.append_nil, HC.out] at k
      rw [HC.out]
      exact k
    · rw [Re.length HF.out.ok, HF.out.tail, HE.out] at k; omega
  · exact mods_setCells _ _ _ HM.out (.inl rfl)

set_option maxHeartbeats 400000 in
theorem isreg_any (n : Int) (w : World) :
    Calls Try.prog 30 #[.int .i64 n] w fun r w' => r = .returned (.bool (decide (0 ≤ n) && decide (n < 16))) ∧ w = w' := by
  by_cases h0 : 0 ≤ n
  · by_cases h1 : n < 16
    · go_enter Try.func30, Try.ntmps30
      go_wp2
      go_ret
      exact ⟨by simp [h0, h1], rfl⟩
    · go_enter Try.func30, Try.ntmps30
      go_wp2
      go_ret
      exact ⟨by simp [h1], rfl⟩
  · go_enter Try.func30, Try.ntmps30
    go_wp2
    go_ret
    exact ⟨by simp; omega, rfl⟩
theorem isreg_in (k : Nat) (hk : k < 16) (w : World) :
    Calls Try.prog 30 #[.int .i64 k] w fun r w' => r = .returned (.bool true) ∧ w = w' :=
  (isreg_any k w).mono fun _ _ h => ⟨h.1.trans (by have : (k : Int) < 16 := by omega
                                                   simp [this]), h.2⟩
theorem isreg_out (n : Int) (hn : n < 0 ∨ 15 < n) (w : World) :
    Calls Try.prog 30 #[.int .i64 n] w fun r w' => r = .returned (.bool false) ∧ w = w' :=
  (isreg_any n w).mono fun _ _ h => ⟨h.1.trans (by
    rcases hn with h | h
    · have : ¬ 0 ≤ n := by omega
      simp [this]
    · have : ¬ n < 16 := by omega
      simp [this]), h.2⟩

set_option maxHeartbeats 400000 in
theorem new_any (w : World) :
    Calls Try.prog 9 #[] w fun r w' => r = .returned (.pointer (some ⟨w.heap.size, 0, none⟩)) ∧ Fi w' w.heap.size Re.nul zs 0 ∧ Below w.heap.size w w' := by
  go_enter Try.func9, Try.ntmps9
  go_wp2
  go_ret
  exact ⟨rfl, ⟨Bk.new _ _ _, Re.nul_ok, zs_len, zs_num⟩, (Below.refl _ _).alloc (Nat.le_refl _) _⟩

set_option maxHeartbeats 400000 in
theorem get_in (w : World) (g : Nat) (e : Re) (ss : List Int) (n : Int) (h : Fi w g e ss n) (k : Nat) (hk : k < 16) :
    Calls Try.prog 25 #[.pointer (some ⟨g, 0, none⟩), .int .i64 k] w fun r w' => r = .returned (.int .u32 (e.r.getD k 0)) ∧ w = w' := by
  have c := h.c_r hk
  generalize e.r.getD k 0 = y at *
  have hk' : (k : Int) < 16 := by omega
  clear h
  go_enter Try.func25, Try.ntmps25
  go_wp2_with (go_at_call 30; refine (isreg_in k hk _).mono ?_; rintro _ w' ⟨rfl, rfl⟩)
  go_ret
  exact ⟨rfl, rfl⟩
set_option maxHeartbeats 400000 in
theorem get_out (w : World) (g : Nat) (k : Int) (hk : k < 0 ∨ 15 < k) :
    Calls Try.prog 25 #[.pointer (some ⟨g, 0, none⟩), .int .i64 k] w fun r w' => r = .returned (.int .u32 0) ∧ w = w' := by
  have HK := Lib.hid hk
  clear hk
  go_enter Try.func25, Try.ntmps25
  go_wp2_with (go_at_call 30; refine (isreg_out k HK.out _).mono ?_; rintro _ w' ⟨rfl, rfl⟩)
  go_ret
  exact ⟨rfl, rfl⟩
set_option maxHeartbeats 400000 in
theorem get_nil (w : World) (k : Int) :
    Calls Try.prog 25 #[.pointer none, .int .i64 k] w fun r w' => r = .returned (.int .u32 0) ∧ w = w' := by
  go_enter Try.func25, Try.ntmps25
  go_wp2
  go_ret
  exact ⟨rfl, rfl⟩
set_option maxHeartbeats 400000 in
theorem psl_any (w : World) (g : Nat) (e : Re) (ss : List Int) (n : Int) (h : Fi w g e ss n) :
    Calls Try.prog 26 #[.pointer (some ⟨g, 0, none⟩)] w fun r w' => r = .returned (.int .u32 e.p) ∧ w = w' := by
  have c := h.c_p
  clear h
  go_enter Try.func26, Try.ntmps26
  go_wp2
  go_ret
  exact ⟨rfl, rfl⟩
set_option maxHeartbeats 400000 in
theorem psl_nil (w : World) :
    Calls Try.prog 26 #[.pointer none] w fun r w' => r = .returned (.int .u32 0) ∧ w = w' := by
  go_enter Try.func26, Try.ntmps26
  go_wp2
  go_ret
  exact ⟨rfl, rfl⟩
set_option maxHeartbeats 400000 in
theorem steps_any (w : World) (g : Nat) (e : Re) (ss : List Int) (n : Int) (h : Fi w g e ss n) :
    Calls Try.prog 28 #[.pointer (some ⟨g, 0, none⟩)] w fun r w' => r = .returned (.int .i64 n) ∧ w = w' := by
  have c := h.c_n
  clear h
  go_enter Try.func28, Try.ntmps28
  go_wp2
  go_ret
  exact ⟨rfl, rfl⟩
set_option maxHeartbeats 400000 in
theorem steps_nil (w : World) :
    Calls Try.prog 28 #[.pointer none] w fun r w' => r = .returned (.int .i64 0) ∧ w = w' := by
  go_enter Try.func28, Try.ntmps28
  go_wp2
  go_ret
  exact ⟨rfl, rfl⟩

/-- where the end of a stack is kept, besides and at all -/
def pb (u : Bool) : Nat := if u then 18 else 17
def pe (p : Int) (u : Bool) : Nat := if u = bi p 24 then 14 else pb u
theorem pb_lt (u : Bool) : pb u < 19 := by cases u <;> simp [pb]
theorem pe_lt (p : Int) (u : Bool) : pe p u < 19 := by
  unfold pe
  split
  · omega
  · exact pb_lt u
/-- the number at a place; another one there -/
def Re.at (e : Re) (i : Nat) : Int := if i < 16 then e.r.getD i 0 else if i = 16 then e.p else if i = 17 then e.k else e.u
def Re.to (e : Re) (i : Nat) (x : Int) : Re := if i < 16 then e.reg i x else if i = 16 then ⟨e.r, x, e.k, e.u⟩ else if i = 17 then ⟨e.r, e.p, x, e.u⟩ else ⟨e.r, e.p, e.k, x⟩
theorem Fi.c_at {w : World} {g : Nat} {e : Re} {ss : List Int} {n : Int} (h : Fi w g e ss n) {i : Nat} (hi : i < 19) : w.cell? ⟨g, i, none⟩ = some (.int .u32 (e.at i)) := by
  unfold Re.at
  split
  · exact h.c_r (by assumption)
  · split
    · subst i; exact h.c_p
    · split
      · subst i; exact h.c_k
      · obtain rfl : i = 18 := by omega
        exact h.c_u
theorem Fi.to {w : World} {g : Nat} {e : Re} {ss : List Int} {n : Int} (h : Fi w g e ss n) {i : Nat} (hi : i < 19) {x : Int} (hx : U x) : Fi (w.setCell ⟨g, i, none⟩ (.int .u32 x)) g (e.to i x) ss n := by
  unfold Re.to
  split
  · exact h.set_r (by assumption) hx
  · split
    · subst i; exact h.set_p hx
    · split
      · subst i; exact h.set_k hx
      · obtain rfl : i = 18 := by omega
        exact h.set_u hx
theorem Re.at_U {e : Re} (h : e.Ok) (i : Nat) : U (e.at i) := by
  unfold Re.at
  split
  · exact h.num i
  · split
    · exact h.p
    · split
      · exact h.k
      · exact h.u

set_option maxHeartbeats 400000 in
theorem beside_any (w : World) (g : Nat) (u : Bool) :
    Calls Try.prog 36 #[.pointer (some ⟨g, 0, none⟩), .bool u] w fun r w' => r = .returned (.pointer (some ⟨g, pb u, none⟩)) ∧ w = w' := by
  cases u
  all_goals
    go_enter Try.func36, Try.ntmps36
    go_wp2
    go_ret
    exact ⟨rfl, rfl⟩
set_option maxHeartbeats 400000 in
theorem end_any (w : World) (g : Nat) (e : Re) (ss : List Int) (n : Int) (h : Fi w g e ss n) (u : Bool) :
    Calls Try.prog 39 #[.pointer (some ⟨g, 0, none⟩), .bool u] w fun r w' => r = .returned (.pointer (some ⟨g, pe e.p u, none⟩)) ∧ w = w' := by
  have c := h.c_p
  have C := Lib.hid (user_any e.p h.ok.p)
  have HE := Lib.hid (show pe e.p u = if u = bi e.p 24 then 14 else pb u from rfl)
  generalize pe e.p u = q at *
  generalize bi e.p 24 = v at *
  generalize e.p = p at *
  clear h
  cases u <;> cases v
  all_goals
    go_enter Try.func39, Try.ntmps39
    go_wp2_with (first | (go_at_call 35; refine (C.out _).mono ?_; rintro _ w' ⟨rfl, rfl⟩) | (go_at_call 36; refine (beside_any _ g _).mono ?_; rintro _ w' ⟨rfl, rfl⟩))
    go_ret
    exact ⟨by rw [HE.out]; rfl, rfl⟩
set_option maxHeartbeats 400000 in
theorem stack_any (w : World) (g : Nat) (e : Re) (ss : List Int) (n : Int) (h : Fi w g e ss n) (u : Bool) :
    Calls Try.prog 27 #[.pointer (some ⟨g, 0, none⟩), .bool u] w fun r w' => r = .returned (.int .u32 (e.at (pe e.p u))) ∧ w = w' := by
  have c := h.c_at (pe_lt e.p u)
  have C := Lib.hid (end_any w g e ss n h u)
  generalize pe e.p u = q at *
  generalize e.at q = y at *
  clear h
  go_enter Try.func27, Try.ntmps27
  go_wp2_with (go_at_call 39; refine C.out.mono ?_; rintro _ w' ⟨rfl, rfl⟩)
  go_ret
  exact ⟨rfl, rfl⟩
set_option maxHeartbeats 400000 in
theorem stack_nil (w : World) (u : Bool) :
    Calls Try.prog 27 #[.pointer none, .bool u] w fun r w' => r = .returned (.int .u32 0) ∧ w = w' := by
  go_enter Try.func27, Try.ntmps27
  go_wp2
  go_ret
  exact ⟨rfl, rfl⟩
end Go.Proofs.Ytgljkadelkglbaa.Cs
