/- Contracts of package mmu: Load in one, Get, Peek. -/
import Derived.Test.YtfpdemlcmfaieaaMLoad2
namespace Go.Proofs.Ytfpdemlcmfaieaa.Cs
open Go.RowKit

/-- An access's bytes, and its fault. -/
def accY (xs : List Int) : Acc → List Int
  | .ok l => gat xs l
  | .bad _ _ _ => []
def fk : Acc → Int
  | .ok _ => 0
  | .bad k _ _ => k
def fa : Acc → Int
  | .ok _ => 0
  | .bad _ va _ => va
def fi : Acc → Int
  | .ok _ => 0
  | .bad _ _ i => i
theorem FlE.eq {a : Acc} {e : Ending} (h : FlE a e) : e = .returned (Value.agg #[Value.int .i64 (fk a), Value.int .u32 (fa a), Value.int .u32 (fi a)]) := by cases a <;> exact h

theorem walk_sum {t : Tabs} {xs : List Int} {u wr keep : Bool} {l : List Run} {rows' : Rows} : ∀ n rows acc va, walk t xs u wr keep rows acc va n = (.ok l, rows') → (l.map Run.n).sum = (acc.map Run.n).sum + n := by
  intro n
  induction n using Nat.strongRecOn with
  | ind n ih =>
    intro rows acc va hw
    by_cases hn : n = 0
    · subst hn; rw [walk_end] at hw; injection hw with h1 _; injection h1 with h1; subst h1; omega
    · cases hp : plE t xs rows va (cnt va n) u wr with
      | bad k i => rw [walk_bad hn hp] at hw; injection hw with h1 _; cases h1
      | ok a =>
        rw [walk_ok hn hp] at hw
        have h1 := cnt_pos va n hn
        have h2 := cnt_le va n
        have := ih (n - cnt va n) (by omega) _ _ _ hw
        simp at this
        omega
theorem gat_sum (xs : List Int) (l : List Run) (h : ∀ x ∈ l, Good xs.length x) : (gat xs l).length = (l.map Run.n).sum := by
  induction l with
  | nil => rfl
  | cons x l ih =>
    have := ih (fun y hy => h y (List.mem_cons_of_mem _ hy))
    obtain ⟨_, ⟨h0, _⟩, h1, _⟩ := h x List.mem_cons_self
    simp only [gat, List.flatMap_cons, List.length_append, List.length_take, List.length_drop, List.map_cons, List.sum_cons] at this ⊢
    omega
theorem accY_len {t : Tabs} {xs : List Int} {u wr keep : Bool} {rows rows' : Rows} {va : Int} {n : Nat} {a : Acc} (hv : U va) (h : walk t xs u wr keep rows [] va n = (a, rows')) : (accY xs a).length ≤ n ∧ (∀ l, a = .ok l → (accY xs a).length = n) := by
  cases a with
  | bad k va i => exact ⟨Nat.zero_le _, fun l e => by cases e⟩
  | ok l =>
    have := gat_sum xs l (walk_good hv h)
    have h2 := walk_sum n rows [] va h
    simp at h2
    exact ⟨by show (gat xs l).length ≤ n; omega, fun _ _ => by show (gat xs l).length = n; omega⟩
theorem byt_accY {xs : List Int} (h : Rm.Byt xs) (a : Acc) : Rm.Byt (accY xs a) := by
  cases a with
  | ok l => exact byt_gat h l
  | bad k va i => intro x hx; simp [accY] at hx

theorem load_any (g rg tg r : Nat) (S : Nat → Prop) (t : Tabs) (rows rows' : Rows) (xs : List Int) (a : Acc) (va n : Int) (u : Bool) (w : World) (h : Ms w g rg r tg S t rows xs) (hv : U va) (hn' : n ≤ 1000000) (hW : walk t xs u false true rows [] va n.toNat = (a, rows')) :
    Calls Try.prog 22 #[(Value.pointer (some ⟨g, 0, none⟩)), .int .u32 va, .int .i64 n, .bool u] w fun e w' => (∃ v, e = .returned (.tuple #[v, (Value.agg #[Value.int .i64 (fk a), Value.int .u32 (fa a), Value.int .u32 (fi a)])]) ∧ R8 w' v (accY xs a) ∧ Tl.Ab w.heap.size (Tl.Bl v)) ∧ ∃ S', Ms w' g rg r tg S' t rows' xs ∧ Tl.Step S S' w w' := by
  cases a with
  | ok l =>
    refine (load_ok g rg tg r S t rows rows' xs l va n u w h hv hn' hW).mono ?_
    rintro e w' ⟨h1, S', hT, hs⟩
    exact ⟨h1, S', h.turn hT hs, hs⟩
  | bad k va' i =>
    refine (load_bad g rg tg r S t rows rows' xs va n k va' i u w h hv hn' hW).mono ?_
    rintro e w' ⟨rfl, S', hT, hs⟩
    exact ⟨⟨_, rfl, R8.nil _, fun k hk => by simp [Tl.Bl, Value.ownBlock] at hk⟩, S', h.turn hT hs, hs⟩

/-- A row of bytes, as it is read. -/
theorem R8.open_ {w : World} {v : Value} {ys : List Int} (h : R8 w v ys) : ∃ A c, v = .slice A ys.length c ∧ Hid (∀ j, j < ys.length → ∃ r, A = some ⟨r, 0, none⟩ ∧ r < w.heap.size ∧ w.cell? ⟨r, j, none⟩ = some (.int .u8 (ys.getD j 0))) := by
  rcases Tl.own_shape h with ⟨rfl, h0⟩ | ⟨r, cap, rfl, hc, hm, hrl, hcs, _⟩
  · exact ⟨none, 0, by rw [h0], fun j hj => by omega⟩
  · exact ⟨_, cap, rfl, fun j hj => ⟨r, rfl, hrl, hcs j _ (Rm.cel_get ys j hj)⟩⟩
theorem R8.src {w : World} {A : Option Addr} {n c : Nat} {ys : List Int} (h : R8 w (.slice A n c) ys) : Rm.Src w A ys := fun h0 => by
  rcases Tl.own_shape h with ⟨_, h1⟩ | ⟨r, cap, e, hc, hm, hrl, hcs, _⟩
  · omega
  · injection e with e1 _ _
    subst e1
    exact ⟨_, rfl, hrl, fun j v hv => by rw [Addr.add_lit]; simpa using hcs j v hv⟩

theorem ms_set {w W : World} {g rg r tg F : Nat} {S S1 : Nat → Prop} {t : Tabs} {rows : Rows} {xs : List Int} {a b c : Value} (h : Ms W g rg r tg S1 t rows xs) (hs : Tl.Step S S1 w W) (hF : w.heap.size ≤ F) (hf : Ft W F) :
    Ms (((W.setCell ⟨F, 0, none⟩ a).setCell ⟨F, 1, none⟩ b).setCell ⟨F, 2, none⟩ c) g rg r tg S1 t rows xs ∧ Tl.Step S S1 w (((W.setCell ⟨F, 0, none⟩ a).setCell ⟨F, 1, none⟩ b).setCell ⟨F, 2, none⟩ c) := by
  have n1 : g ≠ F := by rintro rfl; exact absurd (h.mx.typ.ne hf.typ) (by decide)
  have n2 : rg ≠ F := by rintro rfl; exact absurd ((mem_typ h.mem).1.ne hf.typ) (by decide)
  have n3 : r ≠ F := by rintro rfl; exact absurd ((mem_typ h.mem).2.ne hf.typ) (by decide)
  exact ⟨⟨h.mx.keep (set3 n1) (fun k hk => set3 (by rintro rfl; exact hf.tb h.mx.tb hk)), h.mem.keep (set3 n2) (set3 n3)⟩, ⟨((hs.mods.set _ (.inr hF)).set _ (.inr hF)).set _ (.inr hF), hs.grow⟩⟩
theorem fin3s {w W : World} {g rg r tg F : Nat} {S S1 : Nat → Prop} {t : Tabs} {rows : Rows} {xs : List Int} {a b c : Value} {o : Obj} (h : Ms W g rg r tg S1 t rows xs) (hs : Tl.Step S S1 w W) (hF : w.heap.size ≤ F) (hf : Ft W F) :
    Ms ((((W.setCell ⟨F, 0, none⟩ a).setCell ⟨F, 1, none⟩ b).setCell ⟨F, 2, none⟩ c).alloc o).drew g rg r tg S1 t rows xs ∧ Tl.Step S S1 w ((((W.setCell ⟨F, 0, none⟩ a).setCell ⟨F, 1, none⟩ b).setCell ⟨F, 2, none⟩ c).alloc o).drew := by
  obtain ⟨h1, h2⟩ := ms_set (a := a) (b := b) (c := c) h hs hF hf
  exact ⟨h1.below (by go_grown), h2.trans (Tl.Step.of_below (by go_grown))⟩

set_option maxRecDepth 100000 in
set_option maxHeartbeats 1000000 in
theorem get_any (g rg tg r : Nat) (S : Nat → Prop) (t : Tabs) (rows rows' : Rows) (xs : List Int) (a : Acc) (va z : Int) (u : Bool) (w : World) (h : Ms w g rg r tg S t rows xs) (hv : U va) (hW : walk t xs u false true rows [] va (min z 4).toNat = (a, rows')) :
    Calls Try.prog 31 #[(Value.pointer (some ⟨g, 0, none⟩)), .int .u32 va, .int .i64 z, .bool u] w fun e w' => e = .returned (.tuple #[.int .u32 (Rm.num (accY xs a)), (Value.agg #[Value.int .i64 (fk a), Value.int .u32 (fa a), Value.int .u32 (fi a)])]) ∧ ∃ S', Ms w' g rg r tg S' t rows' xs ∧ Tl.Step S S' w w' := by
  have H := Lib.hid h
  have HV := Lib.hid hv
  have HF := Lib.hid (new_flt w)
  have HY := Lib.hid (accY_len hv hW).1
  have HB := Lib.hid (byt_accY h.mem.byt a)
  have key : ∀ m : Int, m ≤ 4 → min z 4 = m → Calls Try.prog 22 #[(Value.pointer (some ⟨g, 0, none⟩)), .int .u32 va, .int .i64 m, .bool u] (w.alloc (.cells #[.int .i64 0, .int .u32 0, .int .u32 0] 50)) fun e w' => (∃ v, e = .returned (.tuple #[v, (Value.agg #[Value.int .i64 (fk a), Value.int .u32 (fa a), Value.int .u32 (fi a)])]) ∧ R8 w' v (accY xs a) ∧ Tl.Ab (w.alloc (.cells #[.int .i64 0, .int .u32 0, .int .u32 0] 50)).heap.size (Tl.Bl v)) ∧ ∃ S', Ms w' g rg r tg S' t rows' xs ∧ Tl.Step S S' (w.alloc (.cells #[.int .i64 0, .int .u32 0, .int .u32 0] 50)) w' := by
    intro m hm e
    rw [e] at hW
    exact load_any g rg tg r S t rows rows' xs a va m u _ (h.below (by go_grown)) hv (by omega) hW
  have HK := Lib.hid key
  clear h hv hW key
  have hk : Hid (∃ m : Int, m ≤ 4 ∧ min z 4 = m) := ⟨_, by omega, rfl⟩
  rcases Int.lt_trichotomy z 4 with hz | hz | hz
  all_goals
    go_enter Try.func31, Try.ntmps31
    go_wp2_with fail
    refine (HK.out _ (by omega) (by omega)).mono ?_
    rintro e w1 ⟨⟨v, rfl, hr, hab⟩, S1, hMs, hs⟩
    have hF1 := Ft.mods HF.out hs.mods (Ft.tb HF.out (H.out.mx.tb.below (by go_grown)))
    have hzF := hF1.lt
    have HMs := Lib.hid hMs
    have HS := Lib.hid ((Tl.Step.of_below (S := S) (w := w) (by go_grown)).trans hs)
    have HFt := Lib.hid hF1
    obtain ⟨A, c, rfl, HC⟩ := hr.open_
    have hyl := HY.out
    generalize hyn : (accY xs a).length = yn at HC hyl
    have HYN := Lib.hid hyn
    generalize hys : accY xs a = ys at HB HC HYN
    have HYS := Lib.hid hys
    clear hr hab hMs hs hF1 hyn hys
    go_wp2
    go_loop [12, 26] (fun x i => ∃ k : Nat, k ≤ yn ∧ i = .int .i64 k ∧ x = .int .u32 (Rm.val ys 0 k)) (fun _ i => yn - (intOf i).toNat)
    case atStart => exact ⟨0, Nat.zero_le _, rfl, rfl⟩
    case round =>
      obtain ⟨k, hk, rfl, rfl⟩ := hrel
      by_cases hlt : k < yn
      · have hb := Rm.val_bound ys 0 HB.out k (by rw [HYN.out]; omega)
        obtain ⟨b, rfl, hbl, hcl⟩ := HC.out k hlt
        have hx := HB.out.at_ k
        have hk4 : k < 4 := by omega
        have ho := Rm.or_byte _ _ k hk4 hb hx
        have hvs := Rm.val_succ ys 0 k (by rw [HYN.out]; omega)
        rw [Nat.zero_add] at hvs
        rw [← hvs] at ho
        have HO := Lib.hid ho
        generalize hv1 : Rm.val ys 0 (k + 1) = v1 at HO
        have HV1 := Lib.hid hv1
        clear hv1
        generalize Rm.val ys 0 k = v0 at *
        generalize ys.getD k 0 = y at *
        clear ho hvs
        go_wp2
        go_round
        case rel =>
          exact ⟨k + 1, by omega, by go_num, by rw [HV1.out, ← HO.out, Int.emod_eq_of_lt hx.1 (by omega)]⟩
        case measure => simp [intOf]; omega
      · obtain rfl : k = yn := by omega
        have HE : Hid (Rm.val ys 0 k = Rm.num ys) := by show _ = _; rw [Rm.val, List.drop_zero, ← HYN.out, List.take_length]
        rw [HE.out]
        obtain ⟨c0, c1, c2, f0, f1, f2⟩ := HFt.out.cells
        go_wp2
        go_region
        go_wp2
        refine bodyPost_ret (v := .tuple #[.int .u32 (Rm.num ys), (Value.agg #[Value.int .i64 (fk a), Value.int .u32 (fa a), Value.int .u32 (fi a)])]) (by simp [results, Try.results31, go_sem, c0, c1, c2, hzF]) rfl ⟨by rw [HYS.out], S1, ?_⟩
        exact fin3s HMs.out HS.out (Nat.le_refl _) HFt.out

theorem plR_false (t : Tabs) (xs : List Int) (rows : Rows) (va : Int) (u wr : Bool) : plR t xs rows va u wr false = rows := by
  unfold plR enR
  split
  · rfl
  · split
    · simp
    · rfl
theorem cnt_one (va : Int) : cnt va 1 = 1 := by unfold cnt; omega
theorem walk_one_ok {t : Tabs} {xs : List Int} {u wr keep : Bool} {rows : Rows} {va a : Int} (h : plE t xs rows va 1 u wr = .ok a) : walk t xs u wr keep rows [] va 1 = (.ok [⟨va, a, 1⟩], plR t xs rows va u wr keep) := by
  have c := cnt_one va
  rw [walk_ok (by omega) (by rw [c]; exact h), c, walk_end]
  rfl
theorem walk_one_bad {t : Tabs} {xs : List Int} {u wr keep : Bool} {rows : Rows} {va k i : Int} (h : plE t xs rows va 1 u wr = .bad k i) : walk t xs u wr keep rows [] va 1 = (.bad k va i, plR t xs rows va u wr keep) := by
  have c := cnt_one va
  rw [walk_bad (by omega) (by rw [c]; exact h)]

set_option maxRecDepth 100000 in
set_option maxHeartbeats 1000000 in
theorem peek_bad (g rg tg r : Nat) (S : Nat → Prop) (t : Tabs) (rows : Rows) (xs : List Int) (va k i : Int) (u : Bool) (w : World) (h : Ms w g rg r tg S t rows xs) (hv : U va) (hP : plE t xs rows va 1 u false = .bad k i) :
    Calls Try.prog 23 #[(Value.pointer (some ⟨g, 0, none⟩)), .int .u32 va, .bool u] w fun e w' => e = .returned (.tuple #[.int .u8 0, (Value.agg #[Value.int .i64 k, Value.int .u32 va, Value.int .u32 i])]) ∧ ∃ S', Ms w' g rg r tg S' t rows xs ∧ Tl.Step S S' w w' := by
  have H := Lib.hid h
  have HV := Lib.hid hv
  have HF := Lib.hid (new_flt w)
  have HW := Lib.hid (walk_one_bad (keep := false) hP)
  have hk := (plE_bad hP).1
  have hk' : (k != 0) = true := by simp; omega
  rw [plR_false] at HW
  clear h hv hP hk
  go_enter Try.func23, Try.ntmps23
  go_wp2_with fail
  refine (runs_any g rg tg r S t rows xs va 1 u false true _ (H.out.mx.below (by go_grown)) (H.out.mem.below_ (by go_grown)) HV.out (by omega)).mono ?_
  rintro e w1 ⟨hE, S1, hT, hs⟩
  have e1 : (1 : Int).toNat = 1 := rfl
  simp only [Bool.not_true, e1, HW.out] at hE hT
  have hF1 := Ft.mods HF.out hs.mods (Ft.tb HF.out (H.out.mx.tb.below (by go_grown)))
  obtain ⟨c0, c1, c2, f0, f1, f2⟩ := hF1.cells
  have hz := hF1.lt
  have HMs := Lib.hid ((H.out.below (by go_grown)).turn hT hs)
  have HS := Lib.hid ((Tl.Step.of_below (S := S) (w := w) (by go_grown)).trans hs)
  have HFt := Lib.hid hF1
  clear hT hs hF1 e1
  obtain rfl := hE
  go_wp2
  go_region
  go_wp2
  refine bodyPost_ret (v := .tuple #[.int .u8 0, (Value.agg #[Value.int .i64 k, Value.int .u32 va, Value.int .u32 i])]) (by simp [results, Try.results23, go_sem, c0, c1, c2, hz]) rfl ⟨rfl, S1, ?_⟩
  exact fin3s HMs.out HS.out (Nat.le_refl _) HFt.out

set_option maxRecDepth 100000 in
set_option maxHeartbeats 1000000 in
theorem peek_ok (g rg tg r : Nat) (S : Nat → Prop) (t : Tabs) (rows : Rows) (xs : List Int) (va a : Int) (u : Bool) (w : World) (h : Ms w g rg r tg S t rows xs) (hv : U va) (hP : plE t xs rows va 1 u false = .ok a) :
    Calls Try.prog 23 #[(Value.pointer (some ⟨g, 0, none⟩)), .int .u32 va, .bool u] w fun e w' => e = .returned (.tuple #[.int .u8 (xs.getD a.toNat 0), (Value.agg #[Value.int .i64 0, Value.int .u32 0, Value.int .u32 0])]) ∧ ∃ S', Ms w' g rg r tg S' t rows xs ∧ Tl.Step S S' w w' := by
  have H := Lib.hid h
  have HV := Lib.hid hv
  have HF := Lib.hid (new_flt w)
  have HW := Lib.hid (walk_one_ok (keep := false) hP)
  rw [plR_false] at HW
  obtain ⟨hfit, ⟨a0, a1⟩⟩ := plE_ok hv hP
  have HN : Hid (a = a.toNat) := by show _ = _; omega
  have HFt0 : Hid (a.toNat + 1 ≤ xs.length) := by show _ ≤ _; omega
  have HX := Lib.hid (Rm.val1 xs a.toNat HFt0.out)
  have hxb := h.mem.byt.at_ a.toNat
  generalize hp : a.toNat = p at HN HFt0 HX hxb ⊢
  generalize hx : xs.getD p 0 = x at HX hxb ⊢
  clear h hv hP hp hx hfit
  obtain ⟨b0, b1⟩ := hxb
  go_enter Try.func23, Try.ntmps23
  go_wp2_with fail
  refine (runs_any g rg tg r S t rows xs va 1 u false true _ (H.out.mx.below (by go_grown)) (H.out.mem.below_ (by go_grown)) HV.out (by omega)).mono ?_
  rintro e w1 ⟨hE, S1, hT, hs⟩
  have e1 : (1 : Int).toNat = 1 := rfl
  simp only [Bool.not_true, e1, HW.out] at hE hT
  have hF1 := Ft.mods HF.out hs.mods (Ft.tb HF.out (H.out.mx.tb.below (by go_grown)))
  have HMs := Lib.hid ((H.out.below (by go_grown)).turn hT hs)
  have HS := Lib.hid ((Tl.Step.of_below (S := S) (w := w) (by go_grown)).trans hs)
  have HFt := Lib.hid hF1
  obtain ⟨v, rfl, hr, hab⟩ := hE
  obtain ⟨b, cap, rfl, hb, x0, x1, x2⟩ := hr.at_ (k := 0) (x := ⟨va, a, 1⟩) rfl
  simp only [Nat.zero_mul, Nat.zero_add, List.length_cons, List.length_nil] at x1 ⊢
  have c0 := HMs.out.mx.c0
  have hg := HMs.out.mx.glt
  clear hT hs hF1 e1 hr hab x0 x2
  go_wp2_with fail
  have d0 : (w1.alloc (.cells #[.int .i64 0, .int .u32 0, .int .u32 0] 50)).cell? ⟨g, 0, none⟩ = some (Value.pointer (some ⟨rg, 0, none⟩)) := by rw [World.cell?_alloc_lt _ _ _ hg]; exact c0
  have d1 : (w1.alloc (.cells #[.int .i64 0, .int .u32 0, .int .u32 0] 50)).cell? ⟨b, 1, none⟩ = some (.int .u32 a) := by rw [World.cell?_alloc_lt _ _ _ hb]; exact x1
  go_region_held3 (fun w' => w'.cell? ⟨g, 0, none⟩ = some (Value.pointer (some ⟨rg, 0, none⟩)) ∧ w'.cell? ⟨b, 1, none⟩ = some (.int .u32 a))
    (first | go_keep | exact ⟨d0, d1⟩)
    (first | (go_at_call 35; refine (Rm.get_at rg r xs a p 1 HN.out _ (HMs.out.mem.below_ (by go_grown)) 1 rfl (by omega) HFt0.out).mono ?_; rintro e w5 ⟨rfl, rfl⟩))
  rw [HX.out]
  obtain ⟨c0, c1, c2, f0, f1, f2⟩ := HFt.out.cells
  have hzF := HFt.out.lt
  go_wp2
  refine bodyPost_ret (v := .tuple #[.int .u8 x, (Value.agg #[Value.int .i64 0, Value.int .u32 0, Value.int .u32 0])]) (by simp [results, Try.results23, go_sem, c0, c1, c2, hzF]) rfl ⟨rfl, S1, ?_⟩
  exact fin3s HMs.out HS.out (Nat.le_refl _) HFt.out

end Go.Proofs.Ytfpdemlcmfaieaa.Cs
