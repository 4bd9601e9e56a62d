/- Contracts of the document's translation: Places. -/
import Derived.Test.YtfpdemlcmfaieaaRFind
namespace Go.Proofs.Ytfpdemlcmfaieaa.Cs
open Go.RowKit

/-- Where each byte of a run lies, and of runs. -/
def rng (a : Int) (n : Nat) : List Int := (List.range n).map fun (i : Nat) => a + (i : Int)
def flat (l : List Run) : List Int := l.flatMap fun x => rng x.pa x.n
theorem rng_succ (a : Int) (n : Nat) : rng a (n + 1) = rng a n ++ [a + n] := by simp [rng, List.range_succ]
theorem rng_length (a : Int) (n : Nat) : (rng a n).length = n := by simp [rng]
theorem flat_app (l : List Run) (x : Run) : flat (l ++ [x]) = flat l ++ rng x.pa x.n := by simp [flat]
theorem flat_length (l : List Run) : (flat l).length = (l.map Run.n).sum := by
  induction l with
  | nil => rfl
  | cons x l ih => simp only [flat, List.flatMap_cons, List.length_append, rng_length, List.map_cons, List.sum_cons] at ih ⊢; omega

/-- Numbers that were gathered, beside the document's. -/
structure Lc (w : World) (h rh hr th : Nat) (T0 T : Nat → Prop) (t : Tabs) (pl : Bool) (xs : List Int) (rows : Rows) (v : Value) (ps : List Int) (W : World) : Prop where
  row : Tl.R1 W v ps
  ab : Tl.Ab w.heap.size (Tl.Bl v)
  ap : Tl.Apart T (Tl.Bl v)
  rs : Rs W h rh hr th T t pl rows xs
  st : Tl.Step T0 T w W
  ft : Ft W w.heap.size
section
variable {w W W' : World} {h rh hr th : Nat} {T0 T T1 : Nat → Prop} {t : Tabs} {pl : Bool} {xs : List Int} {rows rows' : Rows} {v v' : Value} {ps qs : List Int}
theorem Lc.below (c : Lc w h rh hr th T0 T t pl xs rows v ps W) (b : Below W.heap.size W W') : Lc w h rh hr th T0 T t pl xs rows v ps W' :=
  ⟨Tl.own_below c.row b, c.ab, c.ap, c.rs.below b, c.st.trans (Tl.Step.of_below b), c.ft.below b⟩
/-- The buffer has turned. -/
theorem Lc.turn (c : Lc w h rh hr th T0 T t pl xs rows v ps W) (hb : Tl.Rf W' th T1 rows') (hf : Tl.Fit rows') (s : Tl.Step T T1 W W') : Lc w h rh hr th T0 T1 t pl xs rows' v ps W' :=
  ⟨Tl.own_mods c.row s.mods c.ap, c.ab, s.apart c.ap (Tl.own_lo c.row), c.rs.turn hb hf s, c.st.trans s, c.ft.mods s.mods (rf_not c.rs.mx.rf c.ft.typ (by decide) (by decide))⟩
/-- One more was gathered. -/
theorem Lc.app (c : Lc w h rh hr th T0 T t pl xs rows v ps W) (hr' : Tl.R1 W' v' qs) (s : Tl.Step (Tl.Bl v) (Tl.Bl v') W W') : Lc w h rh hr th T0 T t pl xs rows v' qs W' := by
  have ty := fun i (e : Tl.Bl v i) => own_typ c.row e
  refine ⟨hr', fun i e => ?_, (s.apart c.ap.symm c.rs.mx.rf.lo).symm, ⟨c.rs.mx.mods s.mods (fun e => absurd ((ty _ e).ne c.rs.mx.typ) (by decide)) c.ap.symm, c.rs.mem.mods s.mods (fun e => absurd ((ty _ e).ne c.rs.mem.typ.1) (by decide)) (fun e => absurd ((ty _ e).ne c.rs.mem.typ.2) (by decide))⟩, ⟨c.st.mods.trans s.mods (fun i hi e => by have := c.ab i e; omega), c.st.grow⟩, c.ft.mods s.mods (fun e => absurd ((ty _ e).ne c.ft.typ) (by decide))⟩
  rcases s.grow i e with e | e
  · exact c.ab i e
  · have := c.st.mods.size; omega
end
theorem R1.shape {w : World} {v : Value} {l : List Int} (h : Tl.R1 w v l) : ∃ A c, v = .slice A l.length c := by
  rcases Tl.own_shape h with ⟨rfl, h0⟩ | ⟨r, cap, rfl, _⟩
  · exact ⟨none, 0, by rw [h0]⟩
  · exact ⟨_, cap, rfl⟩

/-- What Places answers. -/
def PcE (w : World) (T : Nat → Prop) (a : Acc) (e : Ending) (w' : World) : Prop :=
  match a with
  | .ok l => ∃ v, e = .returned (.tuple #[v, (Value.agg #[Value.int .i64 0, Value.int .u32 0, Value.int .u32 0])]) ∧ Tl.R1 w' v (flat l) ∧ Tl.Ab w.heap.size (Tl.Bl v) ∧ Tl.Apart T (Tl.Bl v)
  | .bad k va i => e = .returned (.tuple #[.slice none 0 0, (Value.agg #[Value.int .i64 k, Value.int .u32 va, Value.int .u32 i])])

theorem find_at (h rh hr th : Nat) (T : Nat → Prop) (t : Tabs) (pl : Bool) (rows : Rows) (xs : List Int) (va m : Int) (n : Nat) (u wr keep : Bool) (w : World) (hm : m = n) (x0 : Rs w h rh hr th T t pl rows xs) (hv : U va) :
    Calls Try.prog 45 #[(Value.pointer (some ⟨h, 0, none⟩)), .int .u32 va, .int .i64 m, .bool u, .bool wr, .bool keep] w (FnP t xs rows th T va n u wr (keep && !pl) w) := by
  subst hm
  exact find_any h rh hr th T t pl rows xs va n u wr keep w x0 hv
theorem k_low {va : Int} {z : Int} (h : U va) (hz : 0 < z) (h1 : z < 512 - va % 512) : (cnt va z.toNat : Int) = z := by obtain ⟨h0, _⟩ := h; unfold cnt; omega

set_option maxRecDepth 100000 in
set_option maxHeartbeats 2000000 in
theorem places_any (h rh hr th : Nat) (T : Nat → Prop) (t : Tabs) (pl : Bool) (rows rows' : Rows) (xs : List Int) (va n : Int) (u wt : Bool) (a : Acc) (w : World) (x0 : Rs w h rh hr th T t pl rows xs) (hv : U va) (hn' : n ≤ 100000) (hW : walk t xs u wt (true && !pl) rows [] va n.toNat = (a, rows')) :
    Calls Try.prog 44 #[(Value.pointer (some ⟨h, 0, none⟩)), .int .u32 va, .int .i64 n, .bool u, .bool wt] w fun e w' => ∃ T', PcE w T' a e w' ∧ Tl.Rf w' th T' rows' ∧ Tl.Step T T' w w' := by
  have hg := x0.mx.glt
  have HL : Hid (Lc w h rh hr th T T t pl xs rows (.slice none 0 0) (flat []) (w.alloc (.cells #[.int .i64 0, .int .u32 0, .int .u32 0] 50))) :=
    ⟨⟨by simp [Tl.c1, flat], .inl ⟨rfl, rfl⟩⟩, fun k hk => by simp [Tl.Bl, Value.ownBlock] at hk, fun k _ hk => by simp [Tl.Bl, Value.ownBlock] at hk, x0.below (by go_grown), Tl.Step.of_below (by go_grown), new_flt w⟩
  have HW := Lib.hid hW
  have HV := Lib.hid hv
  clear x0 hv hW
  go_enter Try.func44, Try.ntmps44
  go_wp2
  go_loopw [12, 1, 2] (fun v b z W => ∃ (va' n' : Int), b = .int .u32 va' ∧ z = .int .i64 n' ∧ n' ≤ n ∧ U va' ∧ ∃ T1 l rows1, walk t xs u wt (true && !pl) rows1 l va' n'.toNat = (a, rows') ∧ (flat l).length + n'.toNat ≤ n.toNat ∧ Lc w h rh hr th T T1 t pl xs rows1 v (flat l) W) (fun _ _ z _ => (intOf z).toNat)
  case atStart => exact ⟨va, n, rfl, rfl, Int.le_refl _, HV.out, T, [], rows, HW.out, by simp [flat], HL.out⟩
  case round =>
    clear HL HW HV
    obtain ⟨va, z, rfl, rfl, hz', hv, T1, l, rows, hW, hlen, hL⟩ := hrel
    obtain ⟨A, cp, rfl⟩ := R1.shape hL.row
    have HL := Lib.hid hL
    have HW := Lib.hid hW
    have HV := Lib.hid hv
    have HLen := Lib.hid hlen
    obtain ⟨v0, v1⟩ := hv
    clear hL hW hlen
    by_cases hz : 0 < z
    · by_cases hk : z < 512 - va % 512
      · have HC : Hid ((cnt va z.toNat : Int) = z) := k_low HV.out hz hk
        go_wp2_with fail
        refine (find_at h rh hr th T1 t pl rows xs va (z) (cnt va z.toNat) u wt true _ HC.out.symm HL.out.rs HV.out).mono ?_
        rintro e w1 ⟨⟨T2, hT, hs⟩, hP⟩
        have hL1 := HL.out.turn hT (plR_fit HV.out HL.out.rs.mem.byt HL.out.rs.mx.fit) hs
        have hzF := hL1.ft.lt
        have HL1 := Lib.hid hL1
        clear hT hs hL1
        cases hpl : plE t xs rows va ((cnt va z.toNat : Nat) : Int) u wt with
        | bad k i =>
          rw [hpl] at hP
          subst hP
          have HE : Hid (a = .bad k va i ∧ rows' = plR t xs rows va u wt (true && !pl)) := by
            have e1 := HW.out
            rw [walk_bad (by omega) hpl] at e1
            injection e1 with e1 e2
            exact ⟨e1.symm, e2.symm⟩
          have hk1 := (plE_bad hpl).1
          have hk' : (k != 0) = true := by simp; omega
          obtain ⟨c0, c1, c2, f0, f1, f2⟩ := HL1.out.ft.cells
          clear hpl hk1
          go_wp2
          go_region
          go_wp2
          refine bodyPost_ret (v := .tuple #[.slice none 0 0, (Value.agg #[Value.int .i64 k, Value.int .u32 va, Value.int .u32 i])]) (by simp [results, Try.results44, go_sem, c0, c1, c2, hzF]) rfl ?_
          rw [HE.out.1, HE.out.2]
          obtain ⟨T', a1, a2⟩ := fin3f (F := w.heap.size) (a := .int .i64 k) (b := .int .u32 va) (c := .int .u32 i) HL1.out.rs.mx.rf HL1.out.st (Nat.le_refl _) (rf_not HL1.out.rs.mx.rf HL1.out.ft.typ (by decide) (by decide))
          exact ⟨T', rfl, a1.below (by go_grown), a2.trans (Tl.Step.of_below (by go_grown))⟩
        | ok p =>
          rw [hpl] at hP
          subst hP
          obtain ⟨c, hc⟩ : ∃ c, cnt va z.toNat = c := ⟨_, rfl⟩
          have hcz : (c : Int) = z := by rw [← hc]; exact HC.out
          obtain ⟨hfit, ⟨p0, p1⟩⟩ := plE_ok HV.out hpl
          rw [hc] at hfit
          have hxl := HL1.out.rs.mem.len
          have HE : Hid (walk t xs u wt (true && !pl) (plR t xs rows va u wt (true && !pl)) (l ++ [⟨va, p, c⟩]) (nxt va z.toNat) (z.toNat - c) = (a, rows')) := by
            have e1 := HW.out
            rw [walk_ok (by omega) hpl, hc] at e1
            exact e1
          have HX : Hid (nxt va z.toNat = (va + (z)) % 4294967296) := by show _ = _; rw [nxt, HC.out]
          have hcp : 0 < c ∧ c ≤ z.toNat := by
            have h1 := cnt_pos va z.toNat (by omega)
            have h2 := cnt_le va z.toNat
            omega
          have HLa : Hid (Lc w h rh hr th T T2 t pl xs (plR t xs rows va u wt (true && !pl)) (.slice A (flat l).length cp) (flat l ++ rng p 0) (w1.alloc (.cells #[.int .i64 0, .int .u32 0, .int .u32 0] 50))) := by
            rw [show flat l ++ rng p 0 = flat l by simp [rng]]
            exact HL1.out.below (by go_grown)
          have HPl := Lib.hid hpl
          have hfl := HLen.out
          generalize hfn : (flat l).length = fl at HLa hfl
          have HFN := Lib.hid hfn
          clear hpl hc hfn HL1
          go_wp2
          go_loopw [12, 16] (fun v i W => ∃ k : Nat, k ≤ c ∧ i = .int .i64 k ∧ Lc w h rh hr th T T2 t pl xs (plR t xs rows va u wt (true && !pl)) v (flat l ++ rng p k) W) (fun _ i _ => c - (intOf i).toNat)
          case atStart => exact ⟨0, Nat.zero_le _, rfl, HLa.out⟩
          case round =>
            clear HLa
            obtain ⟨k, hkc, rfl, hLk⟩ := hrel
            have HLk := Lib.hid hLk
            obtain ⟨A2, cp2, rfl⟩ := R1.shape hLk.row
            clear hLk
            by_cases hlt : k < c
            · have hll : (flat l ++ rng p k).length = fl + k := by rw [List.length_append, rng_length, HFN.out]
              obtain ⟨r', cap', w3, hrun, H3⟩ := Tl.run_app1 wr (.slice A2 (flat l ++ rng p k).length cp2) (flat l ++ rng p k) (p + k) HLk.out.row (by omega)
              have HN := Lib.hid (HLk.out.app H3.out.1 H3.out.2)
              have HRun := Lib.hid hrun
              have HRs : Hid (flat l ++ rng p k ++ [p + (k : Int)] = flat l ++ rng p (k + 1)) := by show _ = _; rw [rng_succ, List.append_assoc]
              rw [HRs.out] at HN
              rw [hll] at HRun HN ⊢
              clear hrun H3 hll HRs
              go_wp2_with (at_builtin; refine Tl.wpList_append_run _ rfl _ _ _ _ rfl _ _ rfl rfl HRun.out ?_)
              go_roundw
              case rel => exact ⟨k + 1, by omega, by go_num, HN.out⟩
              case measure => simp [intOf]; omega
            · obtain rfl : k = c := by omega
              have HN : Hid (Lc w h rh hr th T T2 t pl xs (plR t xs rows va u wt (true && !pl)) (.slice A2 (flat l ++ rng p k).length cp2) (flat (l ++ [⟨va, p, k⟩])) wr) := by
                rw [flat_app]
                exact HLk.out
              go_wp2
              go_roundw
              case rel => exact ⟨nxt va z.toNat, z - k, congrArg (Value.int .u32) (by have := HX.out; omega), congrArg (Value.int .i64) (by omega), by omega, nxt_U _ _, _, _, _, by rw [show (z - (k : Int)).toNat = z.toNat - k by omega]; exact HE.out, by have e9 := flat_app l ⟨va, p, k⟩; have e8 : (flat (l ++ [⟨va, p, k⟩])).length = fl + k := (by rw [e9, List.length_append, rng_length, HFN.out]); omega, HN.out⟩
              case measure => simp [intOf]; omega
      · have hk2 : ¬ 512 - va % 512 > z := by omega
        have HC : Hid ((cnt va z.toNat : Int) = 512 - va % 512) := cnt_high HV.out hz (by omega)
        go_wp2_with fail
        refine (find_at h rh hr th T1 t pl rows xs va (512 - va % 512) (cnt va z.toNat) u wt true _ HC.out.symm HL.out.rs HV.out).mono ?_
        rintro e w1 ⟨⟨T2, hT, hs⟩, hP⟩
        have hL1 := HL.out.turn hT (plR_fit HV.out HL.out.rs.mem.byt HL.out.rs.mx.fit) hs
        have hzF := hL1.ft.lt
        have HL1 := Lib.hid hL1
        clear hT hs hL1
        cases hpl : plE t xs rows va ((cnt va z.toNat : Nat) : Int) u wt with
        | bad k i =>
          rw [hpl] at hP
          subst hP
          have HE : Hid (a = .bad k va i ∧ rows' = plR t xs rows va u wt (true && !pl)) := by
            have e1 := HW.out
            rw [walk_bad (by omega) hpl] at e1
            injection e1 with e1 e2
            exact ⟨e1.symm, e2.symm⟩
          have hk1 := (plE_bad hpl).1
          have hk' : (k != 0) = true := by simp; omega
          obtain ⟨c0, c1, c2, f0, f1, f2⟩ := HL1.out.ft.cells
          clear hpl hk1
          go_wp2
          go_region
          go_wp2
          refine bodyPost_ret (v := .tuple #[.slice none 0 0, (Value.agg #[Value.int .i64 k, Value.int .u32 va, Value.int .u32 i])]) (by simp [results, Try.results44, go_sem, c0, c1, c2, hzF]) rfl ?_
          rw [HE.out.1, HE.out.2]
          obtain ⟨T', a1, a2⟩ := fin3f (F := w.heap.size) (a := .int .i64 k) (b := .int .u32 va) (c := .int .u32 i) HL1.out.rs.mx.rf HL1.out.st (Nat.le_refl _) (rf_not HL1.out.rs.mx.rf HL1.out.ft.typ (by decide) (by decide))
          exact ⟨T', rfl, a1.below (by go_grown), a2.trans (Tl.Step.of_below (by go_grown))⟩
        | ok p =>
          rw [hpl] at hP
          subst hP
          obtain ⟨c, hc⟩ : ∃ c, cnt va z.toNat = c := ⟨_, rfl⟩
          have hcz : (c : Int) = 512 - va % 512 := by rw [← hc]; exact HC.out
          obtain ⟨hfit, ⟨p0, p1⟩⟩ := plE_ok HV.out hpl
          rw [hc] at hfit
          have hxl := HL1.out.rs.mem.len
          have HE : Hid (walk t xs u wt (true && !pl) (plR t xs rows va u wt (true && !pl)) (l ++ [⟨va, p, c⟩]) (nxt va z.toNat) (z.toNat - c) = (a, rows')) := by
            have e1 := HW.out
            rw [walk_ok (by omega) hpl, hc] at e1
            exact e1
          have HX : Hid (nxt va z.toNat = (va + (512 - va % 512)) % 4294967296) := by show _ = _; rw [nxt, HC.out]
          have hcp : 0 < c ∧ c ≤ z.toNat := by
            have h1 := cnt_pos va z.toNat (by omega)
            have h2 := cnt_le va z.toNat
            omega
          have HLa : Hid (Lc w h rh hr th T T2 t pl xs (plR t xs rows va u wt (true && !pl)) (.slice A (flat l).length cp) (flat l ++ rng p 0) (w1.alloc (.cells #[.int .i64 0, .int .u32 0, .int .u32 0] 50))) := by
            rw [show flat l ++ rng p 0 = flat l by simp [rng]]
            exact HL1.out.below (by go_grown)
          have HPl := Lib.hid hpl
          have hfl := HLen.out
          generalize hfn : (flat l).length = fl at HLa hfl
          have HFN := Lib.hid hfn
          clear hpl hc hfn HL1
          go_wp2
          go_loopw [12, 16] (fun v i W => ∃ k : Nat, k ≤ c ∧ i = .int .i64 k ∧ Lc w h rh hr th T T2 t pl xs (plR t xs rows va u wt (true && !pl)) v (flat l ++ rng p k) W) (fun _ i _ => c - (intOf i).toNat)
          case atStart => exact ⟨0, Nat.zero_le _, rfl, HLa.out⟩
          case round =>
            clear HLa
            obtain ⟨k, hkc, rfl, hLk⟩ := hrel
            have HLk := Lib.hid hLk
            obtain ⟨A2, cp2, rfl⟩ := R1.shape hLk.row
            clear hLk
            by_cases hlt : k < c
            · have hll : (flat l ++ rng p k).length = fl + k := by rw [List.length_append, rng_length, HFN.out]
              obtain ⟨r', cap', w3, hrun, H3⟩ := Tl.run_app1 wr (.slice A2 (flat l ++ rng p k).length cp2) (flat l ++ rng p k) (p + k) HLk.out.row (by omega)
              have HN := Lib.hid (HLk.out.app H3.out.1 H3.out.2)
              have HRun := Lib.hid hrun
              have HRs : Hid (flat l ++ rng p k ++ [p + (k : Int)] = flat l ++ rng p (k + 1)) := by show _ = _; rw [rng_succ, List.append_assoc]
              rw [HRs.out] at HN
              rw [hll] at HRun HN ⊢
              clear hrun H3 hll HRs
              go_wp2_with (at_builtin; refine Tl.wpList_append_run _ rfl _ _ _ _ rfl _ _ rfl rfl HRun.out ?_)
              go_roundw
              case rel => exact ⟨k + 1, by omega, by go_num, HN.out⟩
              case measure => simp [intOf]; omega
            · obtain rfl : k = c := by omega
              have HN : Hid (Lc w h rh hr th T T2 t pl xs (plR t xs rows va u wt (true && !pl)) (.slice A2 (flat l ++ rng p k).length cp2) (flat (l ++ [⟨va, p, k⟩])) wr) := by
                rw [flat_app]
                exact HLk.out
              go_wp2
              go_roundw
              case rel => exact ⟨nxt va z.toNat, z - k, congrArg (Value.int .u32) (by have := HX.out; omega), congrArg (Value.int .i64) (by omega), by omega, nxt_U _ _, _, _, _, by rw [show (z - (k : Int)).toNat = z.toNat - k by omega]; exact HE.out, by have e9 := flat_app l ⟨va, p, k⟩; have e8 : (flat (l ++ [⟨va, p, k⟩])).length = fl + k := (by rw [e9, List.length_append, rng_length, HFN.out]); omega, HN.out⟩
              case measure => simp [intOf]; omega
    · have HE : Hid (a = .ok l ∧ rows' = rows) := by
        have e1 := HW.out
        rw [show z.toNat = 0 by omega, walk_end] at e1
        injection e1 with e1 e2
        exact ⟨e1.symm, e2.symm⟩
      obtain ⟨c0, c1, c2, f0, f1, f2⟩ := HL.out.ft.cells
      go_wp2
      refine bodyPost_ret (v := .tuple #[.slice A (flat l).length cp, (Value.agg #[Value.int .i64 0, Value.int .u32 0, Value.int .u32 0])]) (by simp [results, Try.results44, go_sem, c0, c1, c2]) rfl ?_
      rw [HE.out.1, HE.out.2]
      have hF : ¬ Tl.Bl (.slice A (flat l).length cp) w.heap.size := fun e => absurd ((own_typ HL.out.row e).ne HL.out.ft.typ) (by decide)
      exact ⟨T1, ⟨_, rfl, Tl.own_keep HL.out.row (fun i hi => set3 (by rintro rfl; exact hF hi)), HL.out.ab, HL.out.ap⟩, HL.out.rs.mx.rf.keep (fun k hk => set3 (by rintro rfl; exact rf_not HL.out.rs.mx.rf HL.out.ft.typ (by decide) (by decide) hk)), ⟨((HL.out.st.mods.set _ (.inr (Nat.le_refl _))).set _ (.inr (Nat.le_refl _))).set _ (.inr (Nat.le_refl _)), HL.out.st.grow⟩⟩

end Go.Proofs.Ytfpdemlcmfaieaa.Cs
