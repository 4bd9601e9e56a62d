/- Contracts of the document's translation: Load; Size, Bytes. -/
import Derived.Test.YtfpdemlcmfaieaaRMark
namespace Go.Proofs.Ytfpdemlcmfaieaa.Cs
open Go.RowKit

theorem walk_fit {t : Tabs} {xs : List Int} {u wr keep : Bool} (hb : Rm.Byt xs) : ∀ n rows acc va, U va → Tl.Fit rows → Tl.Fit (walk t xs u wr keep rows acc va n).2 := by
  intro n
  induction n using Nat.strongRecOn with
  | ind n ih =>
    intro rows acc va hv hf
    by_cases hn : n = 0
    · subst hn; rw [walk_end]; exact hf
    · have hf2 : Tl.Fit (plR t xs rows va u wr keep) := plR_fit hv hb hf
      cases hq : plE t xs rows va (cnt va n) u wr with
      | bad k i => rw [walk_bad hn hq]; exact hf2
      | ok a =>
        rw [walk_ok hn hq]
        have := cnt_pos va n hn
        exact ih (n - cnt va n) (by omega) _ _ _ (nxt_U _ _) hf2
/-- Where an access's bytes lie, one by one. -/
def plc : Acc → List Int
  | .ok l => flat l
  | .bad _ _ _ => []
theorem rng_gat (xs : List Int) (a : Int) (n : Nat) (h0 : 0 ≤ a) (h : a + n ≤ xs.length) : (rng a n).map (fun p => xs.getD p.toNat 0) = (xs.drop a.toNat).take n := by
  apply List.ext_getElem
  · rw [List.length_map, rng_length, List.length_take, List.length_drop]; omega
  · intro i h1 h2
    rw [List.length_map, rng_length] at h1
    simp only [rng, List.map_map, List.getElem_map, List.getElem_range, Function.comp, List.getElem_take, List.getElem_drop]
    rw [show (a + (i : Int)).toNat = a.toNat + i by omega]
    simp [List.getD, show a.toNat + i < xs.length by omega]
theorem flat_gat (xs : List Int) (l : List Run) (h : ∀ x ∈ l, Good xs.length x) : (flat l).map (fun p => xs.getD p.toNat 0) = gat xs l := by
  induction l with
  | nil => rfl
  | cons x l ih =>
    obtain ⟨_, ⟨h0, _⟩, h1, _, _⟩ := h x List.mem_cons_self
    have h2 := ih (fun y hy => h y (List.mem_cons_of_mem _ hy))
    simp only [flat, gat, List.flatMap_cons, List.map_append] at h2 ⊢
    rw [rng_gat xs x.pa x.n h0 h1, h2]
theorem flat_in (m : Nat) (l : List Run) (h : ∀ x ∈ l, Good m x) : ∀ p ∈ flat l, 0 ≤ p ∧ p < m := by
  intro p hp
  simp only [flat, List.mem_flatMap, rng, List.mem_map, List.mem_range] at hp
  obtain ⟨x, hx, i, hi, rfl⟩ := hp
  obtain ⟨_, ⟨h0, _⟩, h1, _, _⟩ := h x hx
  omega
theorem plc_in {t : Tabs} {xs : List Int} {u wr keep : Bool} {rows rows' : Rows} {va : Int} {n : Nat} {a : Acc} (hv : U va) (h : walk t xs u wr keep rows [] va n = (a, rows')) : (∀ p ∈ plc a, 0 ≤ p ∧ p < xs.length) ∧ (plc a).map (fun p => xs.getD p.toNat 0) = accY xs a ∧ (plc a).length ≤ n := by
  cases a with
  | bad k v i => exact ⟨fun p hp => by simp [plc] at hp, rfl, Nat.zero_le _⟩
  | ok l =>
    have hg := walk_good hv h
    have hs := walk_sum n rows [] va h
    have hl := flat_length l
    simp at hs
    exact ⟨flat_in _ l hg, flat_gat xs l hg, by show (flat l).length ≤ n; omega⟩
theorem PcE.one {w w' : World} {T : Nat → Prop} {a : Acc} {e : Ending} (h : PcE w T a e w') : ∃ v, e = .returned (.tuple #[v, (Value.agg #[Value.int .i64 (fk a), Value.int .u32 (fa a), Value.int .u32 (fi a)])]) ∧ Tl.R1 w' v (plc a) ∧ Tl.Ab w.heap.size (Tl.Bl v) ∧ Tl.Apart T (Tl.Bl v) := by
  cases a with
  | ok l => exact h
  | bad k va i => exact ⟨_, h, ⟨by simp [Tl.c1, plc], .inl ⟨rfl, rfl⟩⟩, fun k hk => by simp [Tl.Bl, Value.ownBlock] at hk, fun k _ hk => by simp [Tl.Bl, Value.ownBlock] at hk⟩

/-- The state of Load's loop. -/
structure Lr (w : World) (h rh hr th : Nat) (T0 T : Nat → Prop) (t : Tabs) (pl : Bool) (xs : List Int) (rows : Rows) (f : Nat) (K V I : Int) (v vb : Value) (ps ys : List Int) (W : World) : Prop where
  list : Tl.R1 W v ps
  row : R8 W vb ys
  ab : Tl.Ab w.heap.size (Tl.Bl vb)
  rs : Rs W h rh hr th T t pl rows xs
  st : Tl.Step T0 T w W
  ft : Ft W w.heap.size
  fv : Fv W f K V I
  rlt : hr < w.heap.size
section
variable {w W W' : World} {h rh hr th f : Nat} {T0 T : Nat → Prop} {t : Tabs} {pl : Bool} {xs ys zs : List Int} {rows : Rows} {v vb vb' : Value} {ps : List Int} {K V I : Int}
theorem Lr.below (c : Lr w h rh hr th T0 T t pl xs rows f K V I v vb ps ys W) (b : Below W.heap.size W W') : Lr w h rh hr th T0 T t pl xs rows f K V I v vb ps ys W' :=
  ⟨Tl.own_below c.list b, Tl.own_below c.row b, c.ab, c.rs.below b, c.st.trans (Tl.Step.of_below b), c.ft.below b, c.fv.below b, c.rlt⟩
theorem Lr.app (c : Lr w h rh hr th T0 T t pl xs rows f K V I v vb ps ys W) (hr' : R8 W' vb' zs) (s : Tl.Step (Tl.Bl vb) (Tl.Bl vb') W W') : Lr w h rh hr th T0 T t pl xs rows f K V I v vb' ps zs W' := by
  have ty := fun i (e : Tl.Bl vb i) => R8.typ c.row e
  refine ⟨Tl.own_mods c.list s.mods (fun i e e' => absurd ((ty i e).ne (own_typ c.list e')) (by decide)), hr', fun i e => ?_, ⟨c.rs.mx.mods s.mods (fun e => absurd ((ty _ e).ne c.rs.mx.typ) (by decide)) (fun i e e' => rf_not c.rs.mx.rf (ty i e) (by decide) (by decide) e'), c.rs.mem.mods s.mods (fun e => absurd ((ty _ e).ne c.rs.mem.typ.1) (by decide)) (fun e => by have := c.ab _ e; have := c.rlt; omega)⟩, ⟨c.st.mods.trans s.mods (fun i hi e => by have := c.ab i e; omega), c.st.grow⟩, c.ft.mods s.mods (fun e => absurd ((ty _ e).ne c.ft.typ) (by decide)), (s.mods.block _ c.fv.lt (fun e => absurd ((ty _ e).ne c.fv.typ) (by decide))).trans c.fv, c.rlt⟩
  rcases s.grow i e with e | e
  · exact c.ab i e
  · have := c.st.mods.size; omega
end
/-- A number of the list, as it is read. -/
theorem R1.at_ {w : World} {v : Value} {l : List Int} (h : Tl.R1 w v l) {k : Nat} (hk : k < l.length) : ∃ b cap, v = .slice (some ⟨b, 0, none⟩) l.length cap ∧ b < w.heap.size ∧ w.cell? ⟨b, k, none⟩ = some (.int .u32 (l.getD k 0)) := by
  rcases Tl.own_shape h with ⟨_, h0⟩ | ⟨b, cap, rfl, _, _, hb, hc, _⟩
  · omega
  · exact ⟨b, cap, rfl, hb, hc _ _ (Tl.c1_get l k hk)⟩

set_option maxRecDepth 100000 in
set_option maxHeartbeats 2000000 in
theorem rload_any (h rh hr th : Nat) (T : Nat → Prop) (t : Tabs) (pl : Bool) (rows rows' : Rows) (xs : List Int) (va n : Int) (u : Bool) (a : Acc) (w : World) (x0 : Rs w h rh hr th T t pl rows xs) (hv : U va) (hn' : n ≤ 100000) (hW : walk t xs u false (true && !pl) rows [] va n.toNat = (a, rows')) :
    Calls Try.prog 40 #[(Value.pointer (some ⟨h, 0, none⟩)), .int .u32 va, .int .i64 n, .bool u] w fun e w' => (∃ v, e = .returned (.tuple #[v, (Value.agg #[Value.int .i64 (fk a), Value.int .u32 (fa a), Value.int .u32 (fi a)])]) ∧ R8 w' v (accY xs a) ∧ Tl.Ab w.heap.size (Tl.Bl v)) ∧ ∃ T', Rs w' h rh hr th T' t pl rows' xs ∧ Tl.Step T T' w w' := by
  have H := Lib.hid x0
  have HV := Lib.hid hv
  have HF := Lib.hid (new_flt w)
  have HW := Lib.hid hW
  obtain ⟨p1, p2, p3⟩ := plc_in hv hW
  have HP1 := Lib.hid p1
  have HP2 := Lib.hid p2
  have HP3 := Lib.hid p3
  clear x0 hv hW p1 p2 p3
  go_enter Try.func40, Try.ntmps40
  go_wp2_with fail
  refine (places_any h rh hr th T t pl rows rows' xs va n u false a _ (H.out.below (by go_grown)) HV.out hn' HW.out).mono ?_
  rintro e w1 ⟨T1, hE, hT, hs⟩
  obtain ⟨v, rfl, hr1, hab, hap⟩ := hE.one
  obtain ⟨A, cp, rfl⟩ := R1.shape hr1
  have hF1 := Ft.mods HF.out hs.mods (rf_not (H.out.mx.rf.below (by go_grown)) (Ft.typ HF.out) (by decide) (by decide))
  have hfit : Tl.Fit rows' := by
    have := walk_fit H.out.mem.byt n.toNat rows [] va HV.out H.out.mx.fit (t := t) (u := u) (wr := false) (keep := (true && !pl))
    rw [HW.out] at this
    exact this
  have HL : Hid (Lr w h rh hr th T T1 t pl xs rows' w1.heap.size (fk a) (fa a) (fi a) (.slice A (plc a).length cp) (.slice none 0 0) (plc a) (((plc a).take 0).map (fun p => xs.getD p.toNat 0)) (w1.alloc (.cells #[.int .i64 (fk a), .int .u32 (fa a), .int .u32 (fi a)] 50))) :=
    ⟨Tl.own_below hr1 (by go_grown), R8.nil _, fun k hk => by simp [Tl.Bl, Value.ownBlock] at hk, ((H.out.below (by go_grown)).turn hT hfit hs).below (by go_grown), ((Tl.Step.of_below (S := T) (w := w) (by go_grown)).trans hs).trans (Tl.Step.of_below (by go_grown)), hF1.below (by go_grown), Fv.new, H.out.mem.rlt⟩
  obtain ⟨ln, hln⟩ : ∃ ln, (plc a).length = ln := ⟨_, rfl⟩
  have hp3 := HP3.out
  rw [hln] at HL hp3 ⊢
  have HLN := Lib.hid hln
  have hl0 : (fun p : Int => xs.getD p.toNat 0) = fun p => xs.getD p.toNat 0 := rfl
  clear hr1 hab hap hT hs hF1 hfit hE hln hl0
  generalize hK : fk a = K at *
  generalize hV : fa a = V at *
  generalize hI : fi a = I at *
  have HKK := Lib.hid hK
  have HKV := Lib.hid hV
  have HKI := Lib.hid hI
  clear hK hV hI
  go_wp2
  go_loopw [12, 25] (fun vb i W => ∃ k : Nat, k ≤ ln ∧ i = .int .i64 k ∧ Lr w h rh hr th T T1 t pl xs rows' w1.heap.size K V I (.slice A ln cp) vb (plc a) (((plc a).take k).map (fun p => xs.getD p.toNat 0)) W) (fun _ i _ => ln - (intOf i).toNat)
  case atStart => exact ⟨0, Nat.zero_le _, rfl, HL.out⟩
  case round =>
    clear HL
    obtain ⟨k, hk, rfl, hL⟩ := hrel
    by_cases hlt : k < ln
    · obtain ⟨zs, hzs⟩ : ∃ zs, ((plc a).take k).map (fun p => xs.getD p.toNat 0) = zs := ⟨_, rfl⟩
      have hzl : zs.length = k := by rw [← hzs, List.length_map, List.length_take, HLN.out]; omega
      have hrow := hL.row
      rw [hzs] at hrow
      obtain ⟨B, bc, rfl⟩ := hrow.shape
      obtain ⟨b, cap, e, hb, x1⟩ := R1.at_ hL.list (k := k) (by rw [HLN.out]; exact hlt)
      have e1 : A = some ⟨b, 0, none⟩ := by injection e
      subst e1
      have hpm : (plc a).getD k 0 ∈ plc a := by
        simp only [List.getD, List.getElem?_eq_getElem (show k < (plc a).length by rw [HLN.out]; exact hlt), Option.getD_some]
        exact List.getElem_mem _
      obtain ⟨q0, q1⟩ := HP1.out _ hpm
      have hxl := hL.rs.mem.len
      obtain ⟨p, hp⟩ : ∃ p : Nat, (plc a).getD k 0 = p := ⟨((plc a).getD k 0).toNat, by omega⟩
      rw [hp] at x1 q0 q1
      have hcB := hL.rs.mem.byte (i := p) (by omega)
      have hc0 := hL.rs.mx.c0
      have hcS := hL.rs.mem.cell
      have hg1 := hL.rs.mx.glt
      have hg2 := hL.rs.mem.glt
      have hg3 := hL.rs.mem.rlt
      have HTk : Hid (((plc a).take (k + 1)).map (fun p => xs.getD p.toNat 0) = zs ++ [xs.getD p 0]) := by
        show _ = _
        have hk2 : k < (plc a).length := by rw [HLN.out]; exact hlt
        rw [List.take_succ_eq_append_getElem hk2, List.map_append, hzs]
        have : (plc a)[k] = (p : Int) := by rw [← hp]; simp [List.getD, hk2]
        simp [this]
      obtain ⟨v6, w6, hrun, H6⟩ := run_app8 (wr.alloc (.cells #[.int .u8 (xs.getD p 0)] 5)) (.slice B zs.length bc) zs [xs.getD p 0] ⟨wr.heap.size, 0, none⟩ 1 1 (Tl.own_below hrow (by go_grown)) (Rm.Src.of_row (by simpa [Rm.cel] using heap_alloc_new wr (.cells #[.int .u8 (xs.getD p 0)] 5))) rfl (by omega)
      have HN : Hid (Lr w h rh hr th T T1 t pl xs rows' w1.heap.size K V I (.slice (some ⟨b, 0, none⟩) ln cp) v6 (plc a) (zs ++ [xs.getD p 0]) w6) := (hL.below (by go_grown)).app H6.out.1 H6.out.2
      have HRun := Lib.hid hrun
      generalize xs.getD p 0 = y at *
      generalize hxn : xs.length = xn at *
      rw [hzl] at HRun ⊢
      clear hL hrow e hpm hp hrun H6 hzs hxn
      go_wp2_with (at_builtin; refine Tl.wpList_append_run _ rfl _ _ _ _ rfl _ _ rfl rfl HRun.out ?_)
      go_roundw
      case rel => exact ⟨k + 1, by omega, by go_num, by rw [HTk.out]; exact HN.out⟩
      case measure => simp [intOf]; omega
    · obtain rfl : k = ln := by omega
      have HA : Hid (((plc a).take k).map (fun p => xs.getD p.toNat 0) = accY xs a) := by show _ = _; rw [List.take_of_length_le (by rw [HLN.out]; exact Nat.le_refl _), HP2.out]
      rw [HA.out] at hL
      have HL := Lib.hid hL
      obtain ⟨B, bc, rfl⟩ := hL.row.shape
      obtain ⟨c0, c1, c2, f0, f1, f2⟩ := hL.ft.cells
      obtain ⟨d0, d1, d2, _, _, _⟩ := hL.fv.cells
      have hz1 := hL.ft.lt
      have hz2 := hL.fv.lt
      generalize (accY xs a).length = yl at HL ⊢
      clear hL
      go_wp2
      go_region
      go_wp2
      refine bodyPost_ret (v := .tuple #[.slice B yl bc, .agg #[.int .i64 K, .int .u32 V, .int .u32 I]]) (by simp [results, Try.results40, go_sem, c0, c1, c2]) rfl ?_
      have s3 : ∀ i, i ≠ w.heap.size → ((((wr.setCell ⟨w.heap.size, 0, none⟩ (.int .i64 K)).setCell ⟨w.heap.size, 1, none⟩ (.int .u32 V)).setCell ⟨w.heap.size, 2, none⟩ (.int .u32 I)).drew).heap[i]? = wr.heap[i]? := fun i hi => set3 hi
      refine ⟨⟨_, by rw [HKK.out, HKV.out, HKI.out], Tl.own_keep HL.out.row (fun i hi => s3 i (by rintro rfl; exact absurd ((R8.typ HL.out.row hi).ne HL.out.ft.typ) (by decide))), HL.out.ab⟩, T1, ⟨HL.out.rs.mx.keep (s3 _ (by rintro rfl; exact absurd (HL.out.rs.mx.typ.ne HL.out.ft.typ) (by decide))) (fun k hk => s3 k (by rintro rfl; exact rf_not HL.out.rs.mx.rf HL.out.ft.typ (by decide) (by decide) hk)), HL.out.rs.mem.keep (s3 _ (by rintro rfl; exact absurd (HL.out.rs.mem.typ.1.ne HL.out.ft.typ) (by decide))) (s3 _ (by rintro rfl; exact absurd (HL.out.rs.mem.typ.2.ne HL.out.ft.typ) (by decide)))⟩, ⟨(((HL.out.st.mods.set _ (.inr (Nat.le_refl _))).set _ (.inr (Nat.le_refl _))).set _ (.inr (Nat.le_refl _))).drew, HL.out.st.grow⟩⟩

theorem rsize_any (z : Int) (m : Int) (hm : max 0 (min z 4) = m) (w : World) :
    Calls Try.prog 41 #[.int .i64 z] w fun e w' => e = .returned (.int .i64 m) ∧ w = w' := by
  by_cases h1 : z < 0
  · obtain rfl : m = 0 := by omega
    clear hm
    go_enter Try.func41, Try.ntmps41
    go_wp2
    go_ret
    exact ⟨rfl, rfl⟩
  · by_cases h2 : 4 < z
    · obtain rfl : m = 4 := by omega
      clear hm
      go_enter Try.func41, Try.ntmps41
      go_wp2
      go_ret
      exact ⟨rfl, rfl⟩
    · obtain rfl : m = z := by omega
      clear hm
      go_enter Try.func41, Try.ntmps41
      go_wp2
      go_ret
      exact ⟨rfl, rfl⟩

set_option maxHeartbeats 1000000 in
theorem rbytes_any (x z : Int) (n : Nat) (hx : U x) (hn : max 0 (min z 4) = n) (w : World) :
    Calls Try.prog 43 #[.int .u32 x, .int .i64 z] w fun e w' => ∃ v, e = .returned v ∧ R8 w' v (Rm.low x n) ∧ Tl.Ab w.heap.size (Tl.Bl v) ∧ Below w.heap.size w w' := by
  have HX := Lib.hid hx
  have HN := Lib.hid hn
  clear hx hn
  go_enter Try.func43, Try.ntmps43
  go_wp2
  go_loopw [5, 0, 6] (fun v y i W => ∃ k : Nat, k ≤ n ∧ i = .int .i64 k ∧ y = .int .u32 (x / 256 ^ k) ∧ R8 W v (Rm.low x k) ∧ Tl.Ab w.heap.size (Tl.Bl v) ∧ Below w.heap.size w W) (fun _ _ i _ => n - (intOf i).toNat)
  case atStart => exact ⟨0, Nat.zero_le _, rfl, by simp, R8.nil _, fun k hk => by simp [Tl.Bl, Value.ownBlock] at hk, Below.refl _ _⟩
  case round =>
    obtain ⟨k, hk, rfl, rfl, hR, hA, hB⟩ := hrel
    have hn4 : n ≤ 4 := by have := HN.out; omega
    obtain ⟨B, bc, rfl⟩ := hR.shape
    rw [Rm.low_length] at hR hA ⊢
    by_cases hlt : k < n
    · have g1 : (k : Int) < z := by have := HN.out; omega
      have g2 : (k : Int) < 4 := by omega
      have hy : U (x / 256 ^ k) := by
        have hp0 : (0 : Int) < 256 ^ k := Int.pow_pos (by omega)
        exact ⟨Int.ediv_nonneg HX.out.1 (by omega), Int.lt_of_le_of_lt (Int.ediv_le_self _ HX.out.1) HX.out.2⟩
      obtain ⟨y0, y1⟩ := hy
      have HL : Hid (Rm.low x (k + 1) = Rm.low x k ++ [x / 256 ^ k % 256]) := low_succ x k
      have HD : Hid (x / 256 ^ (k + 1) = x / 256 ^ k / 256) := by
        show _ = _
        rw [Int.pow_succ, Int.ediv_ediv_of_nonneg (Int.pow_nonneg (by omega))]
      generalize x / 256 ^ k = y at *
      obtain ⟨v6, w6, hrun, H6⟩ := run_app8 (wr.alloc (.cells #[.int .u8 (y % 256)] 5)) (.slice B k bc) (Rm.low x k) [y % 256] ⟨wr.heap.size, 0, none⟩ 1 1 (Tl.own_below hR (by go_grown)) (Rm.Src.of_row (by simpa [Rm.cel] using heap_alloc_new wr (.cells #[.int .u8 (y % 256)] 5))) rfl (by rw [Rm.low_length]; omega)
      have HRun := Lib.hid hrun
      have hz := hB.size
      have HN6 : Hid (R8 w6 v6 (Rm.low x (k + 1)) ∧ Tl.Ab w.heap.size (Tl.Bl v6) ∧ Below w.heap.size w w6) := by
        rw [HL.out]
        refine ⟨H6.out.1, H6.out.2.ab hA (by simp; omega), H6.out.2.below (by go_grown) hA (by simp; omega)⟩
      clear hR hA hB hrun H6
      go_wp2_with (at_builtin; refine Tl.wpList_append_run _ rfl _ _ _ _ rfl _ _ rfl rfl HRun.out ?_)
      go_roundw
      case rel => exact ⟨k + 1, by omega, by go_num, by rw [HD.out], HN6.out.1, HN6.out.2.1, HN6.out.2.2⟩
      case measure => simp [intOf]; omega
    · obtain rfl : k = n := by omega
      have hc : ¬ (k : Int) < z ∨ ((k : Int) < z ∧ ¬ (k : Int) < 4) := by have := HN.out; omega
      rcases hc with g1 | ⟨g1, g2⟩
      · go_wp2
        go_ret
        exact ⟨_, rfl, hR, hA, hB⟩
      · go_wp2
        go_ret
        exact ⟨_, rfl, hR, hA, hB⟩

end Go.Proofs.Ytfpdemlcmfaieaa.Cs
