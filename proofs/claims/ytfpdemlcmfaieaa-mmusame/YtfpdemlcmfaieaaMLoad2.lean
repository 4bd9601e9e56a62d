/- Contracts of package mmu: Load. -/
import Derived.Test.YtfpdemlcmfaieaaMLoad
import Derived.Deep.RegionWith
import Derived.Deep.RegionHeld3
namespace Go.Proofs.Ytfpdemlcmfaieaa.Cs
open Go.RowKit

theorem bytes_at (g r : Nat) (xs ys : List Int) (a : Int) (p n : Nat) (ha : a = p) (w : World) (h : Rm.Mem w g r xs) (hf : p + n ≤ xs.length) (hy : (xs.drop p).take n = ys) :
    Calls Try.prog 30 #[(Value.pointer (some ⟨g, 0, none⟩)), .int .u32 a, .int .i64 n] w fun e w' => ∃ b, e = .returned (.tuple #[.slice (some ⟨b, 0, none⟩) n n, .int .i64 0]) ∧ w.heap.size ≤ b ∧ w'.heap[b]? = some (.cells (Rm.cel ys).toArray 5 (0, 0)) ∧ Below w.heap.size w w' := by
  subst ha hy
  refine (Rm.bytes_ok g r xs p n w h hf).mono ?_
  rintro e w' ⟨b, rfl, h1, h2, h3⟩
  have e : ((xs.drop p).take n).length = n := by simp; omega
  exact ⟨b, by rw [e], h1, h2, h3⟩

set_option maxRecDepth 100000 in
set_option maxHeartbeats 1000000 in
theorem load_bad (g rg tg r : Nat) (S : Nat → Prop) (t : Tabs) (rows rows' : Rows) (xs : List Int) (va n k va' i : Int) (u : Bool) (w : World) (h : Ms w g rg r tg S t rows xs) (hv : U va) (hn' : n ≤ 1000000) (hW : walk t xs u false true rows [] va n.toNat = (.bad k va' i, rows')) :
    Calls Try.prog 22 #[(Value.pointer (some ⟨g, 0, none⟩)), .int .u32 va, .int .i64 n, .bool u] w fun e w' => e = .returned (.tuple #[.slice none 0 0, (Value.agg #[Value.int .i64 k, Value.int .u32 va', Value.int .u32 i])]) ∧ ∃ S', Tl.Tb w' tg S' rows' ∧ Tl.Step S S' w w' := by
  have H := Lib.hid h
  have HV := Lib.hid hv
  have HF := Lib.hid (new_flt w)
  have HW := Lib.hid hW
  have hk := (walk_bad_kd _ _ _ _ _ _ _ _ hv hW).1.1
  have hk' : (k != 0) = true := by simp; omega
  clear h hv hW hk
  go_enter Try.func22, Try.ntmps22
  go_wp2_with fail
  refine (runs_any g rg tg r S t rows xs va n u false false _ (H.out.mx.below (by go_grown)) (H.out.mem.below_ (by go_grown)) HV.out hn').mono ?_
  rintro e w1 ⟨hE, S1, hT, hs⟩
  simp only [Bool.not_false, HW.out] at hE hT
  have hF1 := Ft.mods HF.out hs.mods (Ft.tb HF.out (H.out.mx.tb.below (by go_grown)))
  obtain ⟨c0, c1, c2, f0, f1, f2⟩ := hF1.cells
  have hz := hF1.lt
  have HT := Lib.hid hT
  have HS := Lib.hid ((Tl.Step.of_below (S := S) (w := w) (by go_grown)).trans hs)
  have HN := Lib.hid (hF1.tb hT)
  clear hT hs hF1
  obtain rfl := hE
  go_wp2
  go_region
  go_wp2
  refine bodyPost_ret (v := .tuple #[.slice none 0 0, (Value.agg #[Value.int .i64 k, Value.int .u32 va', Value.int .u32 i])]) (by simp [results, Try.results22, go_sem, c0, c1, c2, hz]) rfl ⟨rfl, ?_⟩
  obtain ⟨S', a1, a2⟩ := fin3a (F := w.heap.size) HT.out HS.out (by omega) HN.out
  exact ⟨S', a1.below (by go_grown), a2.trans (Tl.Step.of_below (by go_grown))⟩

set_option maxRecDepth 100000 in
set_option maxHeartbeats 2000000 in
theorem load_ok (g rg tg r : Nat) (S : Nat → Prop) (t : Tabs) (rows rows' : Rows) (xs : List Int) (l : List Run) (va n : Int) (u : Bool) (w : World) (h : Ms w g rg r tg S t rows xs) (hv : U va) (hn' : n ≤ 1000000) (hW : walk t xs u false true rows [] va n.toNat = (.ok l, rows')) :
    Calls Try.prog 22 #[(Value.pointer (some ⟨g, 0, none⟩)), .int .u32 va, .int .i64 n, .bool u] w fun e w' => (∃ v, e = .returned (.tuple #[v, (Value.agg #[Value.int .i64 0, Value.int .u32 0, Value.int .u32 0])]) ∧ R8 w' v (gat xs l) ∧ Tl.Ab w.heap.size (Tl.Bl v)) ∧ ∃ S', Tl.Tb w' tg S' rows' ∧ Tl.Step S S' w w' := by
  have H := Lib.hid h
  have HV := Lib.hid hv
  have HF := Lib.hid (new_flt w)
  have HW := Lib.hid hW
  have HG := Lib.hid (walk_good hv hW)
  have HLen := Lib.hid (walk_len hW)
  clear h hv hW
  go_enter Try.func22, Try.ntmps22
  go_wp2_with fail
  refine (runs_any g rg tg r S t rows xs va n u false false _ (H.out.mx.below (by go_grown)) (H.out.mem.below_ (by go_grown)) HV.out hn').mono ?_
  rintro e w1 ⟨hE, S1, hT, hs⟩
  simp only [Bool.not_false, HW.out] at hE hT
  have hF1 := Ft.mods HF.out hs.mods (Ft.tb HF.out (H.out.mx.tb.below (by go_grown)))
  obtain ⟨v, rfl, hr, ha⟩ := hE
  obtain ⟨A, cp, rfl⟩ := hr.shape
  have HL : Hid (Ll w g rg tg r S S1 t xs rows' l (.slice A l.length cp) (.slice none 0 0) 0 (w1.alloc (.cells #[.int .i64 0, .int .u32 0, .int .u32 0] 50))) := by
    refine Ll.below (W := w1) ⟨hr, fun k hk => ?_, R8.nil _, fun k hk => by simp [Tl.Bl, Value.ownBlock] at hk, Ms.turn (H.out.below (by go_grown)) hT hs, (Tl.Step.of_below (S := S) (w := w) (by go_grown)).trans hs, hF1, H.out.mem.rlt⟩ (by go_grown)
    have := ha k hk
    simp at this
    omega
  have hln := HLen.out
  generalize hL : l.length = ln at HL hln
  have HLn := Lib.hid hL
  clear hT hs hF1 hr ha hL
  go_wp2
  go_loopw [12, 32] (fun vb i W => ∃ k : Nat, k ≤ ln ∧ i = .int .i64 k ∧ Ll w g rg tg r S S1 t xs rows' l (.slice A ln cp) vb k W) (fun _ i _ => ln - (intOf i).toNat)
  case atStart => exact ⟨0, Nat.zero_le _, rfl, HL.out⟩
  case round =>
    clear HL
    obtain ⟨k, hk, rfl, hL⟩ := hrel
    by_cases hlt : k < ln
    · obtain ⟨zs, hzs⟩ : ∃ zs, gat xs (l.take k) = zs := ⟨_, rfl⟩
      have hrow := hL.row
      rw [hzs] at hrow
      obtain ⟨B, bc, rfl⟩ := hrow.shape
      clear hrow
      obtain ⟨x, hx⟩ : ∃ x, l[k]? = some x := ⟨_, List.getElem?_eq_getElem (by rw [HLn.out]; exact hlt)⟩
      have hgx := HG.out x (List.mem_of_getElem? hx)
      obtain ⟨b, cap, e, hb, x0, x1, x2⟩ := hL.list.at_ hx
      have e1 : A = some ⟨b, 0, none⟩ := by injection e
      subst e1
      have c0 := hL.ms.mx.c0
      have hg := hL.ms.mx.glt
      obtain ⟨hv, ⟨p0, p1⟩, hfit, hn0, hn1⟩ := hgx
      obtain ⟨p, hp⟩ : ∃ p : Nat, x.pa = p := ⟨x.pa.toNat, by omega⟩
      have HX := Lib.hid hx
      have HL := Lib.hid hL
      have HG1 := Lib.hid (gat_len xs (l.take k) (fun y hy => HG.out y (List.mem_of_mem_take hy)))
      have HPN : Hid (x.pa.toNat = p) := by show _ = _; omega
      have HFit : Hid (p + x.n ≤ xs.length) := by show _ ≤ _; omega
      have HP := Lib.hid hp
      obtain ⟨ys, hy⟩ : ∃ ys, (xs.drop p).take x.n = ys := ⟨_, rfl⟩
      have HY := Lib.hid hy
      have HYl : Hid (ys.length = x.n) := by show _ = _; rw [← hy]; simp; omega
      have HGN : Hid (gat xs (l.take k) ++ ys = gat xs (l.take k) ++ (xs.drop x.pa.toNat).take x.n) := by show _ = _; rw [HPN.out, hy]
      rw [hzs] at HGN HG1
      have HZ := Lib.hid hzs
      clear hy hzs
      generalize hpa : x.pa = pa at *
      have HPA := Lib.hid hpa
      clear hpa
      generalize hxn : x.n = xn at *
      have HXN := Lib.hid hxn
      clear hxn
      clear hL hv hx e hp
      go_wp2_with fail
      have d0 : (wr.alloc (.cells #[.int .u32 x.va, .int .u32 pa, .int .i64 xn] 101)).cell? ⟨g, 0, none⟩ = some (Value.pointer (some ⟨rg, 0, none⟩)) := by rw [World.cell?_alloc_lt _ _ _ hg]; exact c0
      go_region_held3 (fun w' => w'.cell? ⟨g, 0, none⟩ = some (Value.pointer (some ⟨rg, 0, none⟩)) ∧ w'.cell? ⟨wr.heap.size, 1, none⟩ = some (.int .u32 pa) ∧ w'.cell? ⟨wr.heap.size, 2, none⟩ = some (.int .i64 xn))
        (first | go_keep | exact ⟨(hb5.cell (by simp; omega)).trans (by simpa using d0), (hb5.cell (by simp)).trans (by simp), (hb5.cell (by simp)).trans (by simp)⟩)
        (first | (go_at_call 30; refine (bytes_at rg r xs ys pa p xn HP.out _ (HL.out.ms.mem.below_ (by go_grown)) HFit.out HY.out).mono ?_; rintro e w5 ⟨b5, rfl, h5, h5', hb5⟩))
      have HL5 := Lib.hid ((HL.out.below (by go_grown)).below hb5)
      have hzl : zs.length + xn ≤ 1000000000 := by have := HG1.out; have : (l.take k).length ≤ k := by simp; omega
                                                   omega
      obtain ⟨v6, w6, hrun, H6⟩ := run_app8 w5 (.slice B zs.length bc) zs ys ⟨b5, 0, none⟩ xn xn (HZ.out ▸ HL5.out.row) (Rm.Src.of_row h5') HYl.out hzl
      have HRun := Lib.hid hrun
      have HN : Hid (Ll w g rg tg r S S1 t xs rows' l (.slice (some ⟨b, 0, none⟩) ln cp) v6 (k + 1) w6) := HL5.out.next HX.out (by
        have := H6.out.1
        rw [HGN.out] at this
        rw [HPA.out, HXN.out, HZ.out]
        exact this) H6.out.2
      clear hrun H6 hb5 h5 h5' hzl
      go_wp2_with (at_builtin; refine Tl.wpList_append_run _ rfl _ _ _ _ rfl _ _ rfl rfl HRun.out ?_)
      go_roundw
      case rel => exact ⟨k + 1, by omega, by go_num, HN.out⟩
      case measure => simp [intOf]; omega
    · obtain rfl : k = ln := by omega
      have HL := Lib.hid hL
      obtain ⟨c0, c1, c2, f0, f1, f2⟩ := hL.ft.cells
      have hz := hL.ft.lt
      have HG1 : Hid (gat xs (l.take k) = gat xs l) := by show _ = _; rw [List.take_of_length_le (by rw [HLn.out]; exact Nat.le_refl _)]
      obtain ⟨B, bc, rfl⟩ := hL.row.shape
      generalize (gat xs (l.take k)).length = zl at HL ⊢
      clear hL
      go_wp2
      refine bodyPost_ret (v := .tuple #[.slice B zl bc, (Value.agg #[Value.int .i64 0, Value.int .u32 0, Value.int .u32 0])]) (by simp [results, Try.results22, go_sem, c0, c1, c2]) rfl ⟨⟨_, rfl, ?_, HL.out.ab⟩, ?_⟩
      · have hr := HL.out.row
        rw [HG1.out] at hr
        exact Tl.own_keep hr (fun i hi => set3 (by rintro rfl; exact absurd ((HL.out.row.typ hi).ne HL.out.ft.typ) (by decide)))
      · exact fin3 HL.out.ms.mx.tb HL.out.st (Nat.le_refl _) (HL.out.ft.tb HL.out.ms.mx.tb)

end Go.Proofs.Ytfpdemlcmfaieaa.Cs
