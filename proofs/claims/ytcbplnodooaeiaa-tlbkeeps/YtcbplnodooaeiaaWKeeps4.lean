/- The walk of TlbKeeps. -/
import Derived.Test.YtcbplnodooaeiaaTSrc
namespace Go.Proofs.Ytcbplnodooaeiaa.Cs
open Go.RowKit

set_option maxHeartbeats 400000 in
theorem keeps_long (A : Option Addr) (n c : Nat) (w : World) (hn : 60 < n) :
    Calls Try.prog 5 #[.slice A n c] w fun e w' => e = .returned (.bool true) ∧ Below w.heap.size w w' := by
  have hn' : (60 : Int) < (n : Int) := by omega
  go_enter Try.func5, Try.ntmps5
  go_wp2_with fail
  refine (alive _).mono ?_
  rintro e w1 ⟨rfl, hb1⟩
  go_wp2
  go_ret
  exact ⟨rfl, hb1⟩

theorem putR_mem {xs : Rows} {p x : Int} {r : Int × Int} (h : r ∈ putR xs p x) : r ∈ xs ∨ r = (p, x) := by
  unfold putR at h
  split at h
  · exact List.mem_or_eq_of_mem_set h
  · rcases List.mem_append.1 h with h | h
    · left
      split at h
      · exact List.mem_of_mem_tail h
      · exact h
    · right; simpa using h

/-- One buffer has pages with their successors as entries, the other one has nothing. -/
structure Kp (w : World) (g u : Nat) (xs : Rows) (S T : Nat → Prop) (wr : World) : Prop where
  tb : Tb wr g S xs
  inc : ∀ r ∈ xs, r.2 = (r.1 + 1) % 4294967296
  tu : Tb wr u T []
  ap : Apart S T
  aS : Ab w.heap.size S
  aT : Ab w.heap.size T
  bel : Below w.heap.size w wr
theorem Kp.below {w wr w' : World} {g u : Nat} {xs : Rows} {S T : Nat → Prop} (h : Kp w g u xs S T wr) (hb : Below wr.heap.size wr w') : Kp w g u xs S T w' :=
  ⟨h.tb.below hb, h.inc, h.tu.below hb, h.ap, h.aS, h.aT, bel_trans h.bel hb h.bel.size⟩
theorem Kp.put {w wr w' : World} {g u : Nat} {xs : Rows} {S S' T : Nat → Prop} {p : Int} (h : Kp w g u xs S T wr) (ht : Tb w' g S' (putR xs p ((p + 1) % 4294967296))) (hs : Step S S' wr w') : Kp w g u (putR xs p ((p + 1) % 4294967296)) S' T w' :=
  ⟨ht, fun r hr => by rcases putR_mem hr with hr | rfl; · exact h.inc r hr
                      · rfl, h.tu.mods hs.mods h.ap, hs.apart h.ap h.tu.lo, hs.ab h.aS h.bel.size, h.aT, hs.below h.bel h.aS h.bel.size⟩
theorem Kp.mods {w wr w' : World} {g u b : Nat} {xs : Rows} {S T : Nat → Prop} (h : Kp w g u xs S T wr) (hm : Mods (fun k => k = b) wr w') (hb : w.heap.size ≤ b) (h1 : ¬ S b) (h2 : ¬ T b) : Kp w g u xs S T w' :=
  ⟨h.tb.mods hm (fun k e hk => by subst e; exact h1 hk), h.inc, h.tu.mods hm (fun k e hk => by subst e; exact h2 hk), h.ap, h.aS, h.aT, hm.below h.bel (fun k e => by omega) h.bel.size⟩

theorem nxor (q : Nat) (h : q < 4294967296) : 4294967295 ^^^ q = 4294967295 - q := by
  have e := BitVec.toNat_not (x := BitVec.ofNat 32 q)
  rw [BitVec.not_def, BitVec.toNat_xor, BitVec.toNat_allOnes, BitVec.toNat_ofNat, Nat.mod_eq_of_lt (by omega)] at e
  exact e
theorem over {q : Int} (h : U32 q) : bits .xor .u32 (if IntKind.u32.signed = true then -1 else IntKind.u32.max) q = 4294967295 - q := by
  have e : (if IntKind.u32.signed = true then (-1 : Int) else IntKind.u32.max) = 4294967295 := by decide
  obtain ⟨h0, h1⟩ := h
  rw [e, u32_xor _ _ (by omega) (by omega) h0 h1]
  have := nxor q.toNat (by omega)
  rw [show (4294967295 : Int).toNat = 4294967295 from rfl, this]
  omega

/-- The first k numbers are turned over. -/
def flp (ps : List Int) (k : Nat) : List Int := (ps.take k).map (fun y => 4294967295 - y) ++ ps.drop k
theorem flp_zero (ps : List Int) : flp ps 0 = ps := by simp [flp]
theorem flp_length (ps : List Int) (k : Nat) : (flp ps k).length = ps.length := by simp [flp]; omega
theorem flp_here (ps : List Int) (k : Nat) : (flp ps k).getD k 0 = ps.getD k 0 := by
  simp only [flp, List.getD]
  by_cases h : k < ps.length
  · rw [List.getElem?_append_right (by simp; omega)]
    have : k - ((ps.take k).map (fun y => 4294967295 - y)).length = 0 := by simp; omega
    rw [this]
    simp
  · rw [List.getElem?_eq_none (by simp; omega), List.getElem?_eq_none (by omega)]
theorem flp_succ (ps : List Int) (k : Nat) (h : k < ps.length) : (flp ps k).set k (4294967295 - ps.getD k 0) = flp ps (k + 1) := by
  have ht : ps.take (k + 1) = ps.take k ++ [ps.getD k 0] := by rw [List.take_add_one]; simp [List.getD, h]
  have hd : ps.drop k = ps.getD k 0 :: ps.drop (k + 1) := by
    rw [List.drop_eq_getElem_cons h]
    simp [List.getD, h]
  rw [flp, flp, ht, hd, List.set_append_right _ _ (by simp; omega)]
  have : k - ((ps.take k).map (fun y => 4294967295 - y)).length = 0 := by simp; omega
  rw [this]
  simp
theorem flp_all (ps : List Int) (k j : Nat) (h : ps.length ≤ k) (hj : j < ps.length) : (flp ps k).getD j 0 = 4294967295 - ps.getD j 0 := by
  rw [flp, List.take_of_length_le h, List.drop_of_length_le h]
  simp [List.getD, hj]
structure Fl (w : World) (g u b m cap : Nat) (xs : Rows) (S T : Nat → Prop) (k : Nat) (wr : World) : Prop where
  kp : Kp w g u xs S T wr
  r : R1 wr (.slice (some ⟨b, 0, none⟩) m cap) (flp (pages xs) k)
theorem Fl.cells {w : World} {g u b m cap : Nat} {xs : Rows} {S T : Nat → Prop} {k : Nat} {wr : World} (h : Fl w g u b m cap xs S T k wr) (hm : xs.length = m) {j : Nat} (hj : j < m) : wr.cell? ⟨b, j, none⟩ = some (.int .u32 ((flp (pages xs) k).getD j 0)) ∧ wr.frozen? ⟨b, j, none⟩ = false ∧ b < wr.heap.size := by
  have hl : (flp (pages xs) k).length = m := by rw [flp_length, pages_length, hm]
  have h' : wr.ownsRow 0 30 1 (.slice (some ⟨b, 0, none⟩) m cap) m (c1 (flp (pages xs) k)) := by have := h.r; rw [R1, hl] at this; exact this
  refine ⟨?_, h'.frozenAt j, own_lo h' b rfl⟩
  rw [h'.cellAt j (by omega), c1_get _ _ (by omega)]
theorem Fl.step {w : World} {g u b m cap : Nat} {xs : Rows} {S T : Nat → Prop} {k : Nat} {wr : World} {y : Int} (h : Fl w g u b m cap xs S T k wr) (hm : xs.length = m) (hk : k < m) (hy : y = 4294967295 - (pages xs).getD k 0) (hb : w.heap.size ≤ b) (h1 : ¬ S b) (h2 : ¬ T b) :
    Fl w g u b m cap xs S T (k + 1) (wr.setCell ⟨b, k, none⟩ (.int .u32 y)) := by
  have hl : (flp (pages xs) k).length = m := by rw [flp_length, pages_length, hm]
  have h' : wr.ownsRow 0 30 1 (.slice (some ⟨b, 0, none⟩) m cap) m (c1 (flp (pages xs) k)) := by have := h.r; rw [R1, hl] at this; exact this
  refine ⟨h.kp.mods ((Mods.refl _ _).set _ (.inl rfl)) hb h1 h2, ?_⟩
  have := (h'.stored k (.int .u32 y)).1
  show World.ownsRow _ _ _ _ _ _ _
  rw [flp_length, pages_length, hm, ← flp_succ _ _ (by rw [pages_length]; omega), ← hy]
  have e : c1 ((flp (pages xs) k).set k y) = (c1 (flp (pages xs) k)).set k (.int .u32 y) := by simp [c1, List.map_set]
  rw [e]
  exact this

set_option maxHeartbeats 2000000 in
theorem keeps_short (A : Option Addr) (n c : Nat) (ys : List Int) (w : World) (hs : Src w A n ys) (hn : n ≤ 60) :
    Calls Try.prog 5 #[.slice A n c] w fun e w' => e = .returned (.bool true) ∧ Below w.heap.size w w' := by
  have hn' : ¬ (60 : Int) < (n : Int) := by omega
  have HS := Lib.hid hs
  clear hs
  go_enter Try.func5, Try.ntmps5
  go_wp2_with fail
  refine (alive _).mono ?_
  rintro e' w1 ⟨rfl, hb1⟩
  go_wp2_with fail
  refine (new_any _).mono ?_
  rintro e' w2 ⟨g, S, rfl, hg, hg', h2, hab, hb2⟩
  go_wp2_with fail
  refine (new_any _).mono ?_
  rintro e' w3 ⟨u, T, rfl, hu, hu', h3, hab3, hb3⟩
  have HL : Hid (Kp w g u [] S T w3) :=
    ⟨h2.below hb3, fun r hr => by simp at hr, h3, Apart.of h2.lo hab3, fun k hk => Nat.le_trans hb1.size (hab k hk), fun k hk => Nat.le_trans (Nat.le_trans hb1.size hb2.size) (hab3 k hk), bel_trans (bel_trans hb1 hb2 hb1.size) hb3 (bel_trans hb1 hb2 hb1.size).size⟩
  clear hb1 h2 hab hb2 h3 hab3 hb3 hg hg' hu hu'
  go_wp2
  go_loopw [22] (fun i wr => ∃ k : Nat, k ≤ n ∧ i = .int .i64 k ∧ ∃ xs S T, Kp w g u xs S T wr) (fun i _ => n - (intOf i).toNat)
  case atStart => exact ⟨0, Nat.zero_le _, rfl, _, _, _, HL.out⟩
  case round =>
    clear HL
    obtain ⟨k, hk, rfl, xs, S, T, hL⟩ := hrel
    have HL := Lib.hid hL
    clear hL
    by_cases hlt : k < n
    · obtain ⟨ad, rfl, hx⟩ := HS.out.at_ HL.out.bel hlt
      have HU := Lib.hid (HS.out.num k)
      generalize ys.getD k 0 = p at hx HU
      go_wp2_with fail
      refine (put_any g S xs p _ _ HL.out.tb HU.out ⟨by omega, by omega⟩).mono ?_
      rintro e' w4 ⟨rfl, S4, h4, s4⟩
      have HE := Lib.hid (HL.out.put h4 s4)
      clear h4 s4
      go_wp2
      go_roundw
      case rel => exact ⟨k + 1, by omega, by go_num, _, _, _, HE.out⟩
      case measure => simp [intOf]; omega
    · generalize hm : xs.length = m
      have HM := Lib.hid hm
      have hm8 : m ≤ 8 := by rw [← hm]; exact HL.out.tb.fit.2.1
      go_wp2_with fail
      refine (pages_any g S xs m _ HL.out.tb HM.out).mono ?_
      rintro e' w5 ⟨b, cap, rfl, hb, hr5, hb5⟩
      have HK5 := Lib.hid (HL.out.below hb5)
      have HR5 := Lib.hid hr5
      have hSb : ¬ S b := fun h => by have := HL.out.tb.lo b h; omega
      have hTb : ¬ T b := fun h => by have := HL.out.tu.lo b h; omega
      have hwb : w.heap.size ≤ b := Nat.le_trans HL.out.bel.size hb
      clear hr5 hb5 hm HL
      go_wp2
      have HF : Hid (Fl w g u b m cap xs S T 0 w5) := ⟨HK5.out, by rw [flp_zero]; exact HR5.out⟩
      clear HK5 HR5
      go_loopw [36] (fun i wr => ∃ k : Nat, k ≤ m ∧ i = .int .i64 k ∧ Fl w g u b m cap xs S T k wr) (fun i _ => m - (intOf i).toNat)
      case atStart => exact ⟨0, Nat.zero_le _, rfl, HF.out⟩
      case round =>
        clear HF
        obtain ⟨k2, hk2, rfl, hF⟩ := hrel
        have HF := Lib.hid hF
        clear hF
        by_cases hlt2 : k2 < m
        · obtain ⟨hcl, hfr, hbs⟩ := HF.out.cells HM.out hlt2
          have HY := Lib.hid (flp_here (pages xs) k2)
          have HV : Hid (U32 ((pages xs).getD k2 0)) := by show U32 _; rw [pages_getD]; exact (row_wf HF.out.kp.tb.fit k2).1
          rw [HY.out] at hcl
          generalize hq : (pages xs).getD k2 0 = q at hcl HY HV
          have HQ := Lib.hid hq
          clear hq
          go_wp2
          go_roundw
          case rel => exact ⟨k2 + 1, by omega, by go_num, HF.out.step HM.out hlt2 (by rw [over HV.out, HQ.out]) hwb hSb hTb⟩
          case measure => simp [intOf]; omega
        · obtain rfl : k2 = m := by omega
          go_wp2_with fail
          refine (pages_any g S xs k2 _ HF.out.kp.tb HM.out).mono ?_
          rintro e' w7 ⟨b7, cap7, rfl, hb7, hr7, hbe7⟩
          have HF7 : Hid (Fl w g u b k2 cap xs S T k2 w7) := ⟨HF.out.kp.below hbe7, own_below HF.out.r hbe7⟩
          have HR7 := Lib.hid hr7
          clear hr7 hbe7 HF
          obtain ⟨A7, c7, hsh, HC, _, _⟩ := HR7.out.open_
          injection hsh with e1 e2 e3
          subst e1 e3
          rw [pages_length, HM.out] at HC
          clear e2
          go_wp2
          go_loopw [51] (fun i wr => ∃ k : Nat, k ≤ k2 ∧ i = .int .i64 k ∧ Below w7.heap.size w7 wr) (fun i _ => k2 - (intOf i).toNat)
          case atStart => exact ⟨0, Nat.zero_le _, rfl, Below.refl _ _⟩
          case round =>
            obtain ⟨k3, hk3, rfl, hb⟩ := hrel
            have HB := Lib.hid hb
            clear hb
            by_cases hlt3 : k3 < k2
            · obtain ⟨r, hr, hrl, hq⟩ := HC.out k3 hlt3
              injection hr with hr
              injection hr with hr
              subst hr
              have hq' := (HB.out.cell (p := ⟨b7, k3, none⟩) hrl).trans hq
              have HL := Lib.hid (HB.out.size)
              have HF8 : Hid (Fl w g u b k2 cap xs S T k2 wr) := ⟨HF7.out.kp.below HB.out, own_below HF7.out.r HB.out⟩
              obtain ⟨hcl, hfr, hbs⟩ := HF8.out.cells HM.out hlt3
              rw [flp_all _ _ _ (by rw [pages_length, HM.out]; omega) (by rw [pages_length, HM.out]; omega)] at hcl
              have hU : U32 ((pages xs).getD k3 0) := by rw [pages_getD]; exact (row_wf HF8.out.kp.tb.fit k3).1
              have hin : pos xs ((pages xs).getD k3 0) < xs.length := hav_mem.2 (by
                rw [List.getD, List.getElem?_eq_getElem (by rw [pages_length, HM.out]; exact hlt3)]
                exact List.getElem_mem _)
              have HG1 : Hid (hav xs ((pages xs).getD k3 0) = true) := decide_eq_true hin
              have HG2 : Hid (ent xs ((pages xs).getD k3 0) = ((pages xs).getD k3 0 + 1) % 4294967296) := by
                have := HF8.out.kp.inc _ (row_mem hin)
                rw [row_pos hin] at this
                exact this
              clear hin hq
              generalize (pages xs).getD k3 0 = q at hq' hcl hU HG1 HG2
              have HU := Lib.hid hU
              clear hU
              generalize hz : 4294967295 - q = z at hcl
              have HX : Hid (bits .xor .u32 (if IntKind.u32.signed = true then -1 else IntKind.u32.max) z = q) := by
                show _ = _
                have := HU.out
                rw [← hz, over ⟨by have := this.2; omega, by have := this.1; omega⟩]
                omega
              have HCl := Lib.hid hcl
              clear hz hcl hfr
              go_wp2_with fail
              refine (get_as g S xs q _ true _ HF8.out.kp.tb HG2.out HG1.out).mono ?_
              rintro e' w8 ⟨rfl, hb8⟩
              have hcl := (hb8.cell (p := ⟨b, k3, none⟩) hbs).trans HCl.out
              have hbs8 : b < w8.heap.size := Nat.lt_of_lt_of_le hbs hb8.size
              have HB8 := Lib.hid (bel_trans HB.out hb8 HB.out.size)
              have hxo := HX.out
              clear hb8
              go_wp2
              go_roundw
              case rel => exact ⟨k3 + 1, by omega, by go_num, HB8.out⟩
              case measure => simp [intOf]; omega
            · have HK := Lib.hid (HF7.out.kp.below HB.out)
              have hm8' : (k2 : Int) ≤ 8 := by omega
              go_wp2_with fail
              refine (pages_any u T [] 0 _ HK.out.tu rfl).mono ?_
              rintro e' w9 ⟨b9, cap9, rfl, hb9, hr9, hbe9⟩
              have HB9 := Lib.hid (bel_trans HK.out.bel hbe9 HK.out.bel.size)
              clear hr9 hbe9
              go_wp2
              go_ret
              exact ⟨rfl, HB9.out⟩

theorem keeps_walk (A : Option Addr) (n c : Nat) (zs : List Int) (w : World)
    (h : (A = none ∧ n = 0 ∧ c = 0 ∧ zs = []) ∨ ∃ x : Addr, A = some x ∧ n ≤ c ∧ c ≤ maxLen ∧ zs.length = c ∧ (∀ i, i < zs.length → w.cell? (x.add i) = some (.int .u32 (zs.getD i 0))) ∧ ∀ n ∈ zs, (Lit.int .u32 n).wf = true) :
    Calls Try.prog 5 #[.slice A n c] w fun e w' => e = .returned (.bool true) ∧ Below w.heap.size w w' := by
  obtain ⟨ys, hs⟩ := src_of_row h
  by_cases hn : 60 < n
  · exact keeps_long A n c w hn
  · exact keeps_short A n c ys w hs (by omega)

end Go.Proofs.Ytcbplnodooaeiaa.Cs
