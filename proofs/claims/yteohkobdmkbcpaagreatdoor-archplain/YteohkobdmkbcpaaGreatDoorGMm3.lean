import Derived.Test.YteohkobdmkbcpaaGreatDoorGMm2
import Derived.Deep.Slices

/- Contracts of package mmu: Store. -/
namespace Go.Proofs.YteohkobdmkbcpaaGreatDoor.Mm
open Go.RowKit

/-- All runs' pages are marked. -/
def mks (t : Tabs) : List Run → List Int × Rows → List Int × Rows
  | [], o => o
  | x :: l, o => mks t l (mkMem t o.1 o.2 x.va, mkRows t o.2 x.va)
/-- All runs' bytes are put. -/
def pts : List Run → List Int → List Int → List Int
  | [], xs, _ => xs
  | x :: l, xs, ys => pts l (splice xs x.pa.toNat (ys.take x.n)) (ys.drop x.n)
theorem drop_at {l : List Run} {k : Nat} {x : Run} (h : l[k]? = some x) : l.drop k = x :: l.drop (k + 1) := by
  have hk := (List.getElem?_eq_some_iff.1 h).1
  rw [List.drop_eq_getElem_cons hk, (List.getElem?_eq_some_iff.1 h).2]

/-- A slice that is read: bytes, room, and none of the blocks that turn. -/
structure Sl (W : World) (T : Nat → Prop) (A : Option Addr) (c : Nat) (ys : List Int) : Prop where
  src : Rm.Src W A ys
  byt : Rm.Byt ys
  cap : ys.length ≤ c
  max : c ≤ 9223372036854775807
  far : 0 < ys.length → ∀ ad, A = some ad → ¬ T ad.block ∧ ad.block < W.heap.size
section
variable {W W' : World} {T T' : Nat → Prop} {A : Option Addr} {c : Nat} {ys : List Int}
theorem Sl.mods (h : Sl W T A c ys) (m : Tl.Mods T W W') (hT : ∀ k, T' k → T k ∨ W.heap.size ≤ k) : Sl W' T' A c ys :=
  ⟨fun h0 => by
    obtain ⟨ad, e, hl, hc⟩ := h.src h0
    exact ⟨ad, e, Nat.lt_of_lt_of_le hl m.size, fun j v hv => by
      have e2 := m.block ad.block hl (h.far h0 ad e).1
      have := hc j v hv
      unfold World.cell? at this ⊢
      rw [Rm.block_add] at this ⊢
      rw [e2]; exact this⟩,
   h.byt, h.cap, h.max, fun h0 ad e => ⟨fun ht => by
    rcases hT _ ht with x | x
    · exact (h.far h0 ad e).1 x
    · have := (h.far h0 ad e).2; omega, Nat.lt_of_lt_of_le (h.far h0 ad e).2 m.size⟩⟩
theorem Sl.step (h : Sl W T A c ys) (s : Tl.Step T T' W W') : Sl W' T' A c ys := h.mods s.mods s.grow
theorem Sl.take (h : Sl W T A c ys) (n : Nat) : Rm.Src W A (ys.take n) := fun h0 => by
  obtain ⟨ad, e, hl, hc⟩ := h.src (by rw [List.length_take] at h0; omega)
  refine ⟨ad, e, hl, fun j v hv => hc j v ?_⟩
  rw [Rm.cel, List.map_take, List.getElem?_take] at hv
  split at hv
  · exact hv
  · cases hv
theorem Sl.drop {ad : Addr} (h : Sl W T (some ad) c ys) {n : Nat} (hn : n ≤ ys.length) : Sl W T (some (ad.add n)) (c - n) (ys.drop n) := by
  refine ⟨fun h0 => ?_, h.byt.drop n, by have := h.cap; simp; omega, by have := h.max; omega, fun h0 ad' e => ?_⟩
  · obtain ⟨ad', e, hl, hc⟩ := h.src (by simp at h0; omega)
    injection e with e
    subst e
    refine ⟨_, rfl, by rw [Rm.block_add]; exact hl, fun j v hv => ?_⟩
    rw [Deep.add_add]
    refine hc (n + j) v ?_
    rw [Rm.cel, List.map_drop, List.getElem?_drop] at hv
    exact hv
  · injection e with e
    subst e
    rw [Rm.block_add]
    exact h.far (by simp at h0; omega) ad rfl
theorem Sl.none : Sl W T A 0 [] :=
  ⟨fun h0 => absurd h0 (by simp), by intro x hx; simp at hx, by simp, by omega, fun h0 => absurd h0 (by simp)⟩
end

/-- The first loop: pages are marked. -/
structure L1 (w : World) (g rg tg r : Nat) (T0 S : Nat → Prop) (t : Tabs) (xs : List Int) (rows : Rows) (l : List Run) (o : List Int × Rows) (v : Value) (A : Option Addr) (c : Nat) (ys : List Int) (k : Nat) (W : World) : Prop where
  eq : o = mks t (l.drop k) (xs, rows)
  list : R3 W v l
  sl : Sl W (Rg S r) A c ys
  ms : Ms W g rg r tg S t rows xs
  st : Tl.Step T0 (Rg S r) w W
  ft : Ft W w.heap.size
/-- The second one: bytes are put. -/
structure L2 (N : Nat) (w : World) (g rg tg r : Nat) (T0 S : Nat → Prop) (t : Tabs) (xs : List Int) (rows : Rows) (l : List Run) (o : List Int) (v : Value) (A : Option Addr) (c : Nat) (ys : List Int) (k : Nat) (W : World) : Prop where
  eq : o = pts (l.drop k) xs ys
  ln : xs.length = N
  good : ∀ x ∈ l, Good N x
  len : ((l.drop k).map Run.n).sum = ys.length
  list : R3 W v l
  sl : Sl W (Rg S r) A c ys
  ms : Ms W g rg r tg S t rows xs
  st : Tl.Step T0 (Rg S r) w W
  ft : Ft W w.heap.size
section
variable {w W W' : World} {g rg tg r : Nat} {T0 S S' : Nat → Prop} {t : Tabs} {xs xs' : List Int} {rows rows' : Rows} {l : List Run} {o : List Int × Rows} {o' : List Int} {v : Value} {A A' : Option Addr} {c c' : Nat} {ys ys' : List Int} {k N : Nat} {x : Run}
theorem row_rg (h : R3 W v l) (m : Ms W g rg r tg S t rows xs) : Tl.Apart (Rg S r) (Tl.Bl v) := fun k hs hb => by
  rcases hs with hs | rfl
  · exact row_tb h m.mx.tb k hs hb
  · exact (row_mem h m.mem).2 hb
theorem ft_rg {F : Nat} (h : Ft W F) (m : Ms W g rg r tg S t rows xs) : ¬ Rg S r F := fun hs => by
  rcases hs with hs | rfl
  · exact h.tb m.mx.tb hs
  · exact absurd ((mem_typ m.mem).2.ne h.typ) (by decide)
theorem L1.below (h : L1 w g rg tg r T0 S t xs rows l o v A c ys k W) (b : Below W.heap.size W W') : L1 w g rg tg r T0 S t xs rows l o v A c ys k W' :=
  ⟨h.eq, Tl.own_below h.list b, h.sl.step (Tl.Step.of_below b), h.ms.below b, h.st.trans (Tl.Step.of_below b), h.ft.below b⟩
theorem L1.next (h : L1 w g rg tg r T0 S t xs rows l o v A c ys k W) (hx : l[k]? = some x) (hm : Ms W' g rg r tg S' t (mkRows t rows x.va) (mkMem t xs rows x.va)) (s : Tl.Step (Rg S r) (Rg S' r) W W') :
    L1 w g rg tg r T0 S' t (mkMem t xs rows x.va) (mkRows t rows x.va) l o v A c ys (k + 1) W' :=
  ⟨by rw [h.eq, drop_at hx]; rfl, Tl.own_mods h.list s.mods (row_rg h.list h.ms), h.sl.step s, hm, h.st.trans s, h.ft.mods s.mods (ft_rg h.ft h.ms)⟩
theorem L2.below (h : L2 N w g rg tg r T0 S t xs rows l o' v A c ys k W) (b : Below W.heap.size W W') : L2 N w g rg tg r T0 S t xs rows l o' v A c ys k W' :=
  ⟨h.eq, h.ln, h.good, h.len, Tl.own_below h.list b, h.sl.step (Tl.Step.of_below b), h.ms.below b, h.st.trans (Tl.Step.of_below b), h.ft.below b⟩
theorem L2.next (h : L2 N w g rg tg r T0 S t xs rows l o' v A c ys k W) (hx : l[k]? = some x) (hm : Rm.Mem W' rg r (splice xs x.pa.toNat (ys.take x.n))) (hg : W.grownBy W' (some r)) (hA : Sl W (Rg S r) A' c' (ys.drop x.n)) :
    L2 N w g rg tg r T0 S t (splice xs x.pa.toNat (ys.take x.n)) rows l o' v A' c' (ys.drop x.n) (k + 1) W' := by
  obtain ⟨m, s⟩ := h.ms.wrote hm hg
  obtain ⟨_, ⟨p0, _⟩, pf, _⟩ := h.good x (List.mem_of_getElem? hx)
  refine ⟨by rw [h.eq, drop_at hx]; rfl, by rw [length_splice _ _ _ (by rw [List.length_take, h.ln]; omega), h.ln], h.good, ?_, Tl.own_mods h.list s.mods (row_rg h.list h.ms), hA.step s, m, h.st.trans s, h.ft.mods s.mods (ft_rg h.ft h.ms)⟩
  have := h.len
  rw [drop_at hx] at this
  simp at this
  simp
  omega
end

end Go.Proofs.YteohkobdmkbcpaaGreatDoor.Mm

/- Contracts of package mmu: Store. -/
namespace Go.Proofs.YteohkobdmkbcpaaGreatDoor.Mm
open Go.RowKit

theorem run_hi (ad : Addr) (yn c xn : Nat) (h : xn ≤ c) (w : World) : (Instr.slice 22 (.slice (some ad) yn c) none (some (.int .i64 xn)) none).run Tryz.prog w = .ok (.slice (some ad) xn c) w := by
  simp [Instr.slice, Instr.sliceBounds, Instr.sliceBound, asIntOf, run_underlying Rm.under_slice, go_sem]
  intro h'
  omega
theorem run_lo (ad : Addr) (yn c xn : Nat) (h : xn ≤ yn) (w : World) : (Instr.slice 22 (.slice (some ad) yn c) (some (.int .i64 xn)) none none).run Tryz.prog w = .ok (.slice (some (if c = xn then ad else ad.add xn)) (yn - xn) (c - xn)) w := by
  simp [Instr.slice, Instr.sliceBounds, Instr.sliceBound, asIntOf, run_underlying Rm.under_slice, go_sem, h]
  split <;> rfl
theorem Sl.low {W : World} {T : Nat → Prop} {ad : Addr} {c n : Nat} {ys : List Int} (h : Sl W T (some ad) c ys) (hn : n ≤ ys.length) : Sl W T (some (if c = n then ad else ad.add n)) (c - n) (ys.drop n) := by
  split
  · rename_i e
    have h1 := h.cap
    have e2 : ys.drop n = [] := List.drop_eq_nil_of_le (by omega)
    rw [e2, show c - n = 0 by omega]
    exact Sl.none
  · exact h.drop hn
/-- Marks and bytes leave the length. -/
theorem mks_length (t : Tabs) (l : List Run) (o : List Int × Rows) : (mks t l o).1.length = o.1.length := by
  induction l generalizing o with
  | nil => rfl
  | cons x l ih => rw [mks, ih]; exact mkMem_length _ _ _ _

set_option maxRecDepth 100000 in
set_option maxHeartbeats 1000000 in
set_option maxRecDepth 100000 in
theorem store_bad (g rg tg r : Nat) (S : Nat → Prop) (t : Tabs) (rows rows' : Rows) (xs : List Int) (va k va' i : Int) (u : Bool) (A : Option Addr) (m c : Nat) (w : World) (h : Ms w g rg r tg S t rows xs) (hv : U va) (hn' : m ≤ 1000000) (hW : walk t xs u true true rows [] va m = (.bad k va' i, rows')) :
    Calls Tryz.prog 51 #[(Value.pointer (some ⟨g, 0, none⟩)), .int .u32 va, .bool u, .slice A m c] w fun e w' => e = .returned ((Value.agg #[Value.int .i64 k, Value.int .u32 va', Value.int .u32 i])) ∧ ∃ S', Ms w' g rg r tg S' t rows' xs ∧ Tl.Step S S' w w' := by
  have H := Lib.hid h
  have HV := Lib.hid hv
  have HF := Lib.hid (new_flt w)
  have HW := Lib.hid hW
  have hk := (walk_bad_kd _ _ _ _ _ _ _ _ hv hW).1.1
  have hk' : (k != 0) = true := by simp; omega
  clear h hv hW hk
  go_enter Tryz.func51, Tryz.ntmps51
  go_wp2_with fail
  refine (runs_any g rg tg r S t rows xs va m u true false _ (H.out.mx.below (by go_grown)) (H.out.mem.below_ (by go_grown)) HV.out (by omega)).mono ?_
  rintro e w1 ⟨hE, S1, hT, hs⟩
  simp only [Bool.not_false, Int.toNat_natCast, HW.out] at hE hT
  have hF1 := Ft.mods HF.out hs.mods (Ft.tb HF.out (H.out.mx.tb.below (by go_grown)))
  obtain ⟨c0, c1, c2, f0, f1, f2⟩ := hF1.cells
  have hz := hF1.lt
  have HMs := Lib.hid ((H.out.below (by go_grown)).turn hT hs)
  have HS := Lib.hid ((Tl.Step.of_below (S := S) (w := w) (by go_grown)).trans hs)
  have HFt := Lib.hid hF1
  clear hT hs hF1
  obtain rfl := hE
  go_wp2
  refine bodyPost_ret (v := (Value.agg #[Value.int .i64 k, Value.int .u32 va', Value.int .u32 i])) (by simp [results, Tryz.results51, go_sem, c0, c1, c2, hz]) rfl ⟨rfl, S1, ?_⟩
  obtain ⟨a1, a2⟩ := ms_set HMs.out HS.out (Nat.le_refl _) HFt.out
  exact ⟨a1.below (by go_grown), a2.trans (Tl.Step.of_below (by go_grown))⟩

theorem ms_set0 {W : World} {g rg r tg F : Nat} {S1 : Nat → Prop} {t : Tabs} {rows : Rows} {xs : List Int} {a b c : Value} (h : Ms W g rg r tg S1 t rows xs) (hf : Ft W F) :
    Ms (((W.setCell ⟨F, 0, none⟩ a).setCell ⟨F, 1, none⟩ b).setCell ⟨F, 2, none⟩ c) g rg r tg S1 t rows xs := by
  have n1 : g ≠ F := by rintro rfl; exact absurd (h.mx.typ.ne hf.typ) (by decide)
  have n2 : rg ≠ F := by rintro rfl; exact absurd ((mem_typ h.mem).1.ne hf.typ) (by decide)
  have n3 : r ≠ F := by rintro rfl; exact absurd ((mem_typ h.mem).2.ne hf.typ) (by decide)
  exact ⟨h.mx.keep (set3 n1) (fun k hk => set3 (by rintro rfl; exact hf.tb h.mx.tb hk)), h.mem.keep (set3 n2) (set3 n3)⟩
theorem ms_set_rg {w W : World} {g rg r tg F : Nat} {T0 S1 : Nat → Prop} {t : Tabs} {rows : Rows} {xs : List Int} {a b c : Value} (h : Ms W g rg r tg S1 t rows xs) (hs : Tl.Step T0 (Rg S1 r) w W) (hF : w.heap.size ≤ F) (hf : Ft W F) :
    Ms (((W.setCell ⟨F, 0, none⟩ a).setCell ⟨F, 1, none⟩ b).setCell ⟨F, 2, none⟩ c) g rg r tg S1 t rows xs ∧ Tl.Step T0 (Rg S1 r) w (((W.setCell ⟨F, 0, none⟩ a).setCell ⟨F, 1, none⟩ b).setCell ⟨F, 2, none⟩ c) :=
  ⟨ms_set0 h hf, ⟨((hs.mods.set _ (.inr hF)).set _ (.inr hF)).set _ (.inr hF), hs.grow⟩⟩
theorem load_at (g r : Nat) (xs ys : List Int) (a : Int) (p m c : Nat) (A : Option Addr) (hp : a = p) (w : World) (h : Rm.Mem w g r xs) (hs : Rm.Src w A ys) (hm : ys.length = m) (hby : Rm.Byt ys) (hf : p + m ≤ xs.length) :
    Calls Tryz.prog 26 #[(Value.pointer (some ⟨g, 0, none⟩)), .int .u32 a, .slice A m c] w fun e w' => e = .returned (.int .i64 0) ∧ Rm.Mem w' g r (splice xs p ys) ∧ w.grownBy w' (some r) := by
  subst hp
  exact Rm.load_ok g r xs ys p m c A w h hs hm hby hf

set_option maxRecDepth 100000 in
set_option maxHeartbeats 4000000 in
set_option maxRecDepth 100000 in
theorem store_ok (g rg tg r : Nat) (S : Nat → Prop) (t : Tabs) (rows rows' : Rows) (xs ys : List Int) (l : List Run) (va : Int) (u : Bool) (A : Option Addr) (m c : Nat) (w : World) (h : Ms w g rg r tg S t rows xs) (hv : U va) (hm : ys.length = m) (hn' : m ≤ 1000000) (hS : Sl w (Rg S r) A c ys) (hW : walk t xs u true true rows [] va m = (.ok l, rows')) :
    Calls Tryz.prog 51 #[(Value.pointer (some ⟨g, 0, none⟩)), .int .u32 va, .bool u, .slice A m c] w fun e w' => e = .returned ((Value.agg #[Value.int .i64 0, Value.int .u32 0, Value.int .u32 0])) ∧ ∃ S', Ms w' g rg r tg S' t (mks t l (xs, rows')).2 (pts l (mks t l (xs, rows')).1 ys) ∧ Tl.Step (Rg S r) (Rg S' r) w w' := by
  have H := Lib.hid h
  have HV := Lib.hid hv
  have HF := Lib.hid (new_flt w)
  have HW := Lib.hid hW
  have HSl := Lib.hid hS
  have HM := Lib.hid hm
  have HG := Lib.hid (walk_good hv hW)
  have hln := walk_len hW
  have HSum := Lib.hid (walk_sum m rows [] va hW)
  obtain ⟨o, ho⟩ : ∃ o, mks t l (xs, rows') = o := ⟨_, rfl⟩
  rw [ho]
  obtain ⟨o', ho'⟩ : ∃ o', pts l o.1 ys = o' := ⟨_, rfl⟩
  rw [ho']
  have HO := Lib.hid ho
  have HO' := Lib.hid ho'
  clear h hv hW hS hm ho ho'
  go_enter Tryz.func51, Tryz.ntmps51
  go_wp2_with fail
  refine (runs_any g rg tg r S t rows xs va m u true false _ (H.out.mx.below (by go_grown)) (H.out.mem.below_ (by go_grown)) HV.out (by omega)).mono ?_
  rintro e w1 ⟨hE, S1, hT, hs⟩
  simp only [Bool.not_false, Int.toNat_natCast, HW.out] at hE hT
  have hF1 := Ft.mods HF.out hs.mods (Ft.tb HF.out (H.out.mx.tb.below (by go_grown)))
  obtain ⟨v, rfl, hr, ha⟩ := hE
  obtain ⟨B, cp, rfl⟩ := hr.shape
  have HL : Hid (L1 w g rg tg r (Rg S r) S1 t xs rows' l o (.slice B l.length cp) A c ys 0 (w1.alloc (.cells #[.int .i64 0, .int .u32 0, .int .u32 0] 100))) := by
    have st : Tl.Step (Rg S r) (Rg S1 r) w w1 := (Tl.Step.of_below (w := w) (by go_grown)).trans (step_rg hs)
    exact L1.below (W := w1) ⟨by rw [← HO.out]; rfl, hr, HSl.out.step st, (H.out.below (by go_grown)).turn hT hs, st, hF1⟩ (by go_grown)
  generalize hL : l.length = ln at HL hln
  have HLn := Lib.hid hL
  clear hT hs hF1 hr ha hL
  go_wp2
  go_loopw [31] (fun i W => ∃ k : Nat, k ≤ ln ∧ i = .int .i64 k ∧ ∃ S1 xs1 rows1, L1 w g rg tg r (Rg S r) S1 t xs1 rows1 l o (.slice B ln cp) A c ys k W) (fun i _ => ln - (intOf i).toNat)
  case atStart => exact ⟨0, Nat.zero_le _, rfl, S1, xs, rows', HL.out⟩
  case round =>
    clear HL
    obtain ⟨k, hk, rfl, S1, xs1, rows1, hL⟩ := hrel
    by_cases hlt : k < ln
    · obtain ⟨x, hx⟩ : ∃ x, l[k]? = some x := ⟨_, List.getElem?_eq_getElem (by rw [HLn.out]; exact hlt)⟩
      have HVx := Lib.hid (HG.out x (List.mem_of_getElem? hx)).1
      obtain ⟨b, cap, e, hb, x0, x1, x2⟩ := hL.list.at_ hx
      have e1 : B = some ⟨b, 0, none⟩ := by injection e
      subst e1
      have HX := Lib.hid hx
      have HL := Lib.hid hL
      clear hL hx e
      go_wp2_with fail
      refine (mark_any g rg r tg S1 t rows1 xs1 x.va _ (HL.out.ms.below (by go_grown)) HVx.out).mono ?_
      rintro e w3 ⟨rfl, S3, hM3, hs3⟩
      have HN := Lib.hid ((HL.out.below (by go_grown)).next HX.out hM3 hs3)
      clear hM3 hs3
      go_wp2
      go_roundw
      case rel => exact ⟨k + 1, by omega, by go_num, _, _, _, HN.out⟩
      case measure => simp [intOf]; omega
    · obtain rfl : k = ln := by omega
      have hd : l.drop k = [] := List.drop_eq_nil_of_le (by rw [HLn.out]; exact Nat.le_refl _)
      have HE : Hid (o = (xs1, rows1)) := by
        show _ = _
        rw [hL.eq, hd]; rfl
      have HL : Hid (L2 xs.length w g rg tg r (Rg S r) S1 t xs1 rows1 l o' (.slice B k cp) A c ys 0 wr) := by
        refine ⟨?_, ?_, HG.out, ?_, hL.list, hL.sl, hL.ms, hL.st, hL.ft⟩
        · rw [← HO'.out, HE.out]; rfl
        · have := mks_length t l (xs, rows')
          rw [HO.out, HE.out] at this
          exact this
        · have := HSum.out
          simp at this
          rw [List.drop_zero, this, HM.out]
      have HR : Hid (rows1 = o.2) := by show _ = _; rw [HE.out]
      clear hL hd HE
      go_wp2
      go_loopw [42, 3] (fun i s W => ∃ j : Nat, j ≤ k ∧ i = .int .i64 j ∧ ∃ A1 c1 ys1 xs2, s = .slice A1 ys1.length c1 ∧ L2 xs.length w g rg tg r (Rg S r) S1 t xs2 rows1 l o' (.slice B k cp) A1 c1 ys1 j W) (fun i _ _ => k - (intOf i).toNat)
      case atStart => exact ⟨0, Nat.zero_le _, rfl, A, c, ys, xs1, by rw [HM.out], HL.out⟩
      case round =>
        clear HL
        obtain ⟨j, hj, rfl, A1, c1, ys1, xs2, rfl, hL⟩ := hrel
        by_cases hlt : j < k
        · obtain ⟨x, hx⟩ : ∃ x, l[j]? = some x := ⟨_, List.getElem?_eq_getElem (by rw [HLn.out]; exact hlt)⟩
          obtain ⟨_, ⟨p0, p1⟩, hfit0, hn0, hn1⟩ := HG.out x (List.mem_of_getElem? hx)
          have hsum := hL.len
          rw [drop_at hx, List.map_cons, List.sum_cons] at hsum
          have hny : x.n ≤ ys1.length := by omega
          obtain ⟨ad, rfl, _, _⟩ := hL.sl.src (by omega)
          obtain ⟨b, cap, e, hb, x0, x1, x2⟩ := hL.list.at_ hx
          have e1 : B = some ⟨b, 0, none⟩ := by injection e
          subst e1
          have c0 := hL.ms.mx.c0
          have hg := hL.ms.mx.glt
          have hcc := hL.sl.cap
          have hcm := hL.sl.max
          have HX := Lib.hid hx
          have HL := Lib.hid hL
          have HTk : Hid ((ys1.take x.n).length = x.n) := by show _ = _; rw [List.length_take]; omega
          have HP : Hid (x.pa = x.pa.toNat) := by show _ = _; omega
          have hfit : x.pa.toNat + x.n ≤ xs.length := by omega
          clear hL hx e hsum hfit0
          generalize hpa : x.pa = pa at *
          generalize hxn : x.n = xn at *
          have HPA := Lib.hid hpa
          have HXN := Lib.hid hxn
          generalize hyn : ys1.length = yn at *
          have HYN := Lib.hid hyn
          clear hpa hxn hyn
          have hhi := fun W => run_hi ad yn c1 xn (by omega) W
          go_wp2_with fail
          have HLa := Lib.hid (HL.out.below (W' := wr.alloc (.cells #[.int .u32 x.va, .int .u32 pa, .int .i64 xn] 137)) (by go_grown))
          have hq := heap_alloc_new wr (.cells #[.int .u32 x.va, .int .u32 pa, .int .i64 xn] 137)
          generalize wr.alloc (.cells #[.int .u32 x.va, .int .u32 pa, .int .i64 xn] 137) = W at HLa hq ⊢
          have d0 := HLa.out.ms.mx.c0
          have d1 : W.cell? ⟨wr.heap.size, 1, none⟩ = some (.int .u32 pa) := by rw [cell_of_row W _ 1 _ _ _ hq]; rfl
          have d2 : W.cell? ⟨wr.heap.size, 2, none⟩ = some (.int .i64 xn) := by rw [cell_of_row W _ 2 _ _ _ hq]; rfl
          clear x0 x1 x2 c0 hg HL
          go_still_tail 10, (by kernel_rfl)
          change wpList _ _ _ _ _ W.drew
          have HLd := Lib.hid (HLa.out.below (W' := W.drew) (by go_grown))
          have hqd : W.drew.heap[wr.heap.size]? = some (.cells #[.int .u32 x.va, .int .u32 pa, .int .i64 xn] 137 (0, 0)) := hq
          generalize W.drew = W2 at HLd hqd ⊢
          clear d0 d1 d2 HLa hq
          have HFit : Hid (pa.toNat + xn ≤ xs2.length) := by show _ ≤ _; rw [HLd.out.ln]; omega
          go_wp2_with fail
          refine (load_at rg r xs2 (ys1.take xn) pa pa.toNat xn c1 (some ad) HP.out _ HLd.out.ms.mem (HLd.out.sl.take xn) HTk.out (HLd.out.sl.byt.take xn) HFit.out).mono ?_
          rintro e w5 ⟨rfl, hm5, hg5⟩
          have HL5 := Lib.hid (HLd.out.next (A' := some (if c1 = xn then ad else ad.add xn)) (c' := c1 - xn) HX.out (by rw [HPA.out, HXN.out]; exact hm5) hg5 (by rw [HXN.out]; exact HLd.out.sl.low (by rw [HYN.out]; exact hny)))
          rw [HPA.out, HXN.out] at HL5
          have hq5 := (hg5.block _ (Tl.lt_of_heap hqd) (fun e => by
            injection e with e
            have t1 : Typ W2 wr.heap.size 137 := ⟨_, _, hqd⟩
            rw [e] at t1
            exact absurd (t1.ne (mem_typ HLd.out.ms.mem).2) (by decide))).trans hqd
          have e2 : w5.cell? ⟨wr.heap.size, 2, none⟩ = some (.int .i64 xn) := by rw [cell_of_row w5 wr.heap.size 2 _ _ _ hq5]; rfl
          have HDl : Hid ((ys1.drop xn).length = yn - xn) := by show _ = _; rw [List.length_drop, HYN.out]
          clear hm5 hg5 hq5 hqd HLd
          have hlo := fun W => run_lo ad yn c1 xn hny W
          go_wp2
          go_roundw
          case rel => exact ⟨j + 1, by omega, by go_num, _, _, _, _, by rw [HDl.out], HL5.out⟩
          case measure => simp [intOf]; omega
        · obtain rfl : j = k := by omega
          have HE : Hid (o' = xs2) := by
            have hd : l.drop j = [] := List.drop_eq_nil_of_le (by rw [HLn.out]; exact Nat.le_refl _)
            show _ = _
            rw [hL.eq, hd]; rfl
          have HL := Lib.hid hL
          obtain ⟨c0, c1, c2, f0, f1, f2⟩ := hL.ft.cells
          clear hL
          go_wp2
          refine bodyPost_ret (v := (Value.agg #[Value.int .i64 0, Value.int .u32 0, Value.int .u32 0])) (by simp [results, Tryz.results51, go_sem, c0, c1, c2]) rfl ⟨rfl, S1, ?_⟩
          rw [HE.out, ← HR.out]
          exact ms_set_rg HL.out.ms HL.out.st (Nat.le_refl _) HL.out.ft

end Go.Proofs.YteohkobdmkbcpaaGreatDoor.Mm

/- Contracts of package mmu: Store in one, Put; of none. -/
namespace Go.Proofs.YteohkobdmkbcpaaGreatDoor.Mm
open Go.RowKit

/-- What a write leaves. -/
def stM (t : Tabs) (xs : List Int) (rows : Rows) (ys : List Int) : Acc → List Int
  | .ok l => pts l (mks t l (xs, rows)).1 ys
  | .bad _ _ _ => xs
def stR (t : Tabs) (xs : List Int) (rows : Rows) : Acc → Rows
  | .ok l => (mks t l (xs, rows)).2
  | .bad _ _ _ => rows

theorem store_any (g rg tg r : Nat) (S : Nat → Prop) (t : Tabs) (rows rows' : Rows) (xs ys : List Int) (a : Acc) (va : Int) (u : Bool) (A : Option Addr) (m c : Nat) (w : World) (h : Ms w g rg r tg S t rows xs) (hv : U va) (hm : ys.length = m) (hn' : m ≤ 1000000) (hS : Sl w (Rg S r) A c ys) (hW : walk t xs u true true rows [] va m = (a, rows')) :
    Calls Tryz.prog 51 #[(Value.pointer (some ⟨g, 0, none⟩)), .int .u32 va, .bool u, .slice A m c] w fun e w' => e = .returned (Value.agg #[Value.int .i64 (fk a), Value.int .u32 (fa a), Value.int .u32 (fi a)]) ∧ ∃ S', Ms w' g rg r tg S' t (stR t xs rows' a) (stM t xs rows' ys a) ∧ Tl.Step (Rg S r) (Rg S' r) w w' := by
  cases a with
  | ok l => exact store_ok g rg tg r S t rows rows' xs ys l va u A m c w h hv hm hn' hS hW
  | bad k va' i =>
    refine (store_bad g rg tg r S t rows rows' xs va k va' i u A m c w h hv hn' hW).mono ?_
    rintro e w' ⟨rfl, S', hM, hs⟩
    exact ⟨rfl, S', hM, step_rg hs⟩

theorem new_four (w : World) (x : Int) : Rm.Four ((w.alloc (.cells #[.int .i64 0, .int .u32 0, .int .u32 0] 100)).alloc (.cells #[.int .u8 0, .int .u8 0, .int .u8 0, .int .u8 0] 232)) (w.heap.size + 1) (Rm.laid x 0) := by
  have e : (w.alloc (.cells #[.int .i64 0, .int .u32 0, .int .u32 0] 100)).heap.size = w.heap.size + 1 := by simp
  have := heap_alloc_new (w.alloc (.cells #[.int .i64 0, .int .u32 0, .int .u32 0] 100)) (.cells #[.int .u8 0, .int .u8 0, .int .u8 0, .int .u8 0] 232)
  rw [e] at this
  exact this
theorem four_src {w : World} {b n : Nat} {x : Int} (h : Rm.Four w b (Rm.laid x 4)) (hn : n ≤ 4) : Rm.Src w (some ⟨b, 0, none⟩) (Rm.low x n) := fun _ =>
  ⟨_, rfl, Tl.lt_of_heap h, fun j v hv => by
    have hj : j < n := by
      have := (List.getElem?_eq_some_iff.1 hv).1
      rw [Rm.cel_length, Rm.low_length] at this
      exact this
    rw [Addr.add_lit, Nat.zero_add, h.cell (by rw [Rm.laid_length x 4 (by omega)]; omega), ← hv, Rm.cel_get _ j (by rw [Rm.low_length]; exact hj), Rm.laid_low x 4 j (by omega)]
    simp [Rm.low, List.getD, hj, show j < 4 by omega]⟩

set_option maxRecDepth 100000 in
set_option maxHeartbeats 1000000 in
set_option maxRecDepth 100000 in
theorem put_any (g rg tg r : Nat) (S : Nat → Prop) (t : Tabs) (rows rows' : Rows) (xs : List Int) (a : Acc) (va x z : Int) (n : Nat) (u : Bool) (w : World) (h : Ms w g rg r tg S t rows xs) (hv : U va) (hn : max 0 (min z 4) = n) (hW : walk t xs u true true rows [] va n = (a, rows')) :
    Calls Tryz.prog 251 #[(Value.pointer (some ⟨g, 0, none⟩)), .int .u32 va, .int .u32 x, .int .i64 z, .bool u] w fun e w' => e = .returned (Value.agg #[Value.int .i64 (fk a), Value.int .u32 (fa a), Value.int .u32 (fi a)]) ∧ ∃ S', Ms w' g rg r tg S' t (stR t xs rows' a) (stM t xs rows' (Rm.low x n) a) ∧ Tl.Step (Rg S r) (Rg S' r) w w' := by
  have H := Lib.hid h
  have HV := Lib.hid hv
  have HF := Lib.hid (new_flt w)
  have HW := Lib.hid hW
  have hn4 : n ≤ 4 := by omega
  have HZ := Lib.hid hn
  clear h hv hW
  go_enter Tryz.func251, Tryz.ntmps251
  go_wp2
  go_loopw [13] (fun i wr => ∃ k : Nat, k ≤ 4 ∧ i = .int .i64 k ∧ Rm.Four wr (w.heap.size + 1) (Rm.laid x k) ∧ Below w.heap.size w wr ∧ Ft wr w.heap.size) (fun i _ => 4 - (intOf i).toNat)
  case atStart => exact ⟨0, Nat.zero_le _, rfl, new_four w x, by go_grown, Ft.below HF.out (by go_grown)⟩
  case round =>
    obtain ⟨k, hk, rfl, h4, hb, hF⟩ := hrel
    by_cases hlt : k < 4
    · have hcl := h4.cell (i := k) (by rw [Rm.laid_length x k (by omega)]; omega)
      have hfr := h4.free k
      have H4 := Lib.hid h4
      have HB := Lib.hid hb
      have HFt := Lib.hid hF
      have hz := hF.lt
      clear h4 hb hF hn
      go_wp2
      go_roundw
      case rel =>
        have hs := H4.out.set k (x / 256 ^ k % 256)
        rw [Rm.laid_set x k (by omega), ← Rm.pow_256 k] at hs
        exact ⟨k + 1, by omega, by go_num, hs, HB.out.setCell (by simp) _, (Below.heap_setCell _ _ _ _ (by simp)).trans HFt.out⟩
      case measure => simp [intOf]; omega
    · obtain rfl : k = 4 := by omega
      have H4 := Lib.hid h4
      have HB := Lib.hid hb
      have HFt := Lib.hid hF
      clear h4 hb hF
      have key : Calls Tryz.prog 51 #[(Value.pointer (some ⟨g, 0, none⟩)), .int .u32 va, .bool u, .slice (some ⟨w.heap.size + 1, 0, none⟩) n 4] wr fun e w' => e = .returned (Value.agg #[Value.int .i64 (fk a), Value.int .u32 (fa a), Value.int .u32 (fi a)]) ∧ ∃ S', Ms w' g rg r tg S' t (stR t xs rows' a) (stM t xs rows' (Rm.low x n) a) ∧ Tl.Step (Rg S r) (Rg S' r) wr w' := by
        have hMs := H.out.below HB.out
        refine store_any g rg tg r S t rows rows' xs (Rm.low x n) a va u _ n 4 wr hMs HV.out (Rm.low_length x n) (by omega) ⟨four_src H4.out hn4, Rm.low_byt x n, by rw [Rm.low_length]; exact hn4, by omega, fun _ ad e => ?_⟩ HW.out
        injection e with e
        subst e
        refine ⟨fun hT => ?_, Tl.lt_of_heap H4.out⟩
        have ty : Typ wr (w.heap.size + 1) 232 := ⟨_, _, H4.out⟩
        rcases hT with hT | hT
        · exact tb_not hMs.mx.tb ty (by decide) (by decide) hT
        · subst hT
          exact absurd (ty.ne (mem_typ hMs.mem).2) (by decide)
      have HK := Lib.hid key
      have hE : (z < 0 ∧ n = 0) ∨ (z = 0 ∧ n = 0) ∨ (0 < z ∧ z < 4 ∧ (n : Int) = z) ∨ (z = 4 ∧ n = 4) ∨ (4 < z ∧ n = 4) := by omega
      clear key hn
      rcases hE with ⟨hz, rfl⟩ | ⟨rfl, rfl⟩ | ⟨hz, hz4, hnz⟩ | ⟨rfl, rfl⟩ | ⟨hz, rfl⟩
      · have hz4 : z < 4 := by omega
        go_wp2_with fail
        refine HK.out.mono ?_
        rintro e w5 ⟨rfl, S5, hM5, hs5⟩
        have HFt5 := Lib.hid (HFt.out.mods hs5.mods (ft_rg HFt.out (H.out.below HB.out)))
        have HMs5 := Lib.hid hM5
        have HS5 := Lib.hid ((Tl.Step.of_below (S := Rg S r) HB.out).trans hs5)
        obtain ⟨c0, c1, c2, f0, f1, f2⟩ := HFt5.out.cells
        clear hM5 hs5
        go_wp2
        refine bodyPost_ret (v := (Value.agg #[Value.int .i64 (fk a), Value.int .u32 (fa a), Value.int .u32 (fi a)])) (by simp [results, Tryz.results251, go_sem, c0, c1, c2]) rfl ⟨rfl, S5, ?_⟩
        exact ms_set_rg HMs5.out HS5.out (Nat.le_refl _) HFt5.out
      · go_wp2_with fail
        refine HK.out.mono ?_
        rintro e w5 ⟨rfl, S5, hM5, hs5⟩
        have HFt5 := Lib.hid (HFt.out.mods hs5.mods (ft_rg HFt.out (H.out.below HB.out)))
        have HMs5 := Lib.hid hM5
        have HS5 := Lib.hid ((Tl.Step.of_below (S := Rg S r) HB.out).trans hs5)
        obtain ⟨c0, c1, c2, f0, f1, f2⟩ := HFt5.out.cells
        clear hM5 hs5
        go_wp2
        refine bodyPost_ret (v := (Value.agg #[Value.int .i64 (fk a), Value.int .u32 (fa a), Value.int .u32 (fi a)])) (by simp [results, Tryz.results251, go_sem, c0, c1, c2]) rfl ⟨rfl, S5, ?_⟩
        exact ms_set_rg HMs5.out HS5.out (Nat.le_refl _) HFt5.out
      · obtain rfl := hnz
        have hk1 : (n : Int) ≤ 4 := by omega
        have hk2 : n < 5 := by omega
        have hk3 : ¬ 4 < n := by omega
        go_wp2_with fail
        refine HK.out.mono ?_
        rintro e w5 ⟨rfl, S5, hM5, hs5⟩
        have HFt5 := Lib.hid (HFt.out.mods hs5.mods (ft_rg HFt.out (H.out.below HB.out)))
        have HMs5 := Lib.hid hM5
        have HS5 := Lib.hid ((Tl.Step.of_below (S := Rg S r) HB.out).trans hs5)
        obtain ⟨c0, c1, c2, f0, f1, f2⟩ := HFt5.out.cells
        clear hM5 hs5
        go_wp2
        refine bodyPost_ret (v := (Value.agg #[Value.int .i64 (fk a), Value.int .u32 (fa a), Value.int .u32 (fi a)])) (by simp [results, Tryz.results251, go_sem, c0, c1, c2]) rfl ⟨rfl, S5, ?_⟩
        exact ms_set_rg HMs5.out HS5.out (Nat.le_refl _) HFt5.out
      · go_wp2_with fail
        refine HK.out.mono ?_
        rintro e w5 ⟨rfl, S5, hM5, hs5⟩
        have HFt5 := Lib.hid (HFt.out.mods hs5.mods (ft_rg HFt.out (H.out.below HB.out)))
        have HMs5 := Lib.hid hM5
        have HS5 := Lib.hid ((Tl.Step.of_below (S := Rg S r) HB.out).trans hs5)
        obtain ⟨c0, c1, c2, f0, f1, f2⟩ := HFt5.out.cells
        clear hM5 hs5
        go_wp2
        refine bodyPost_ret (v := (Value.agg #[Value.int .i64 (fk a), Value.int .u32 (fa a), Value.int .u32 (fi a)])) (by simp [results, Tryz.results251, go_sem, c0, c1, c2]) rfl ⟨rfl, S5, ?_⟩
        exact ms_set_rg HMs5.out HS5.out (Nat.le_refl _) HFt5.out
      · go_wp2_with fail
        refine HK.out.mono ?_
        rintro e w5 ⟨rfl, S5, hM5, hs5⟩
        have HFt5 := Lib.hid (HFt.out.mods hs5.mods (ft_rg HFt.out (H.out.below HB.out)))
        have HMs5 := Lib.hid hM5
        have HS5 := Lib.hid ((Tl.Step.of_below (S := Rg S r) HB.out).trans hs5)
        obtain ⟨c0, c1, c2, f0, f1, f2⟩ := HFt5.out.cells
        clear hM5 hs5
        go_wp2
        refine bodyPost_ret (v := (Value.agg #[Value.int .i64 (fk a), Value.int .u32 (fa a), Value.int .u32 (fi a)])) (by simp [results, Tryz.results251, go_sem, c0, c1, c2]) rfl ⟨rfl, S5, ?_⟩
        exact ms_set_rg HMs5.out HS5.out (Nat.le_refl _) HFt5.out

set_option maxHeartbeats 400000 in
set_option maxRecDepth 100000 in
theorem load_nil (va n : Int) (u : Bool) (w : World) :
    Calls Tryz.prog 202 #[.pointer none, .int .u32 va, .int .i64 n, .bool u] w fun e w' => e = .returned (.tuple #[.slice none 0 0, (Value.agg #[Value.int .i64 1, Value.int .u32 va, Value.int .u32 0])]) ∧ Below w.heap.size w w' := by
  go_enter Tryz.func202, Tryz.ntmps202
  go_wp2_with fail
  refine (runs_nil va _ u _ _ _).mono ?_
  rintro e w1 ⟨rfl, hb1⟩
  have hb := Tl.bel2 (a := w) (by go_grown) hb1
  obtain ⟨c0, c1, c2, f0, f1, f2⟩ := Ft.cells (Ft.below (new_flt w) hb1)
  have hz := Ft.lt (Ft.below (new_flt w) hb1)
  clear hb1
  go_wp2
  go_region
  go_wp2
  exact bodyPost_ret (v := .tuple #[.slice none 0 0, (Value.agg #[Value.int .i64 1, Value.int .u32 va, Value.int .u32 0])]) (by simp [results, Tryz.results202, go_sem, c0, c1, c2, hz]) rfl ⟨rfl, by go_grown⟩



set_option maxHeartbeats 400000 in
set_option maxRecDepth 100000 in
theorem store_nil (va : Int) (u : Bool) (A : Option Addr) (m c : Nat) (w : World) :
    Calls Tryz.prog 51 #[.pointer none, .int .u32 va, .bool u, .slice A m c] w fun e w' => e = .returned ((Value.agg #[Value.int .i64 1, Value.int .u32 va, Value.int .u32 0])) ∧ Below w.heap.size w w' := by
  go_enter Tryz.func51, Tryz.ntmps51
  go_wp2_with fail
  refine (runs_nil va _ u _ _ _).mono ?_
  rintro e w1 ⟨rfl, hb1⟩
  have hb := Tl.bel2 (a := w) (by go_grown) hb1
  obtain ⟨c0, c1, c2, f0, f1, f2⟩ := Ft.cells (Ft.below (new_flt w) hb1)
  have hz := Ft.lt (Ft.below (new_flt w) hb1)
  clear hb1
  go_wp2
  exact bodyPost_ret (v := (Value.agg #[Value.int .i64 1, Value.int .u32 va, Value.int .u32 0])) (by simp [results, Tryz.results51, go_sem, c0, c1, c2, hz]) rfl ⟨rfl, by go_grown⟩

end Go.Proofs.YteohkobdmkbcpaaGreatDoor.Mm
