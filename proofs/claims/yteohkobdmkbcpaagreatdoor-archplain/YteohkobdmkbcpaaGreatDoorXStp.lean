/- Contract: a step in which no line is above the level and nothing is raised. -/
import Derived.Test.YteohkobdmkbcpaaGreatDoorXLev
namespace Go.Proofs.YteohkobdmkbcpaaGreatDoor.Cs
open Go.RowKit
set_option linter.unusedVariables false
set_option linter.unusedSimpArgs false

section
variable {w0 : World} {a : Ad} {S0 : Nat → Prop} {c : Mc}
set_option maxHeartbeats 2000000 in
set_option maxRecDepth 100000 in
theorem step_run (F G : Mc → Dg → Option Rz × Mc) (w : World) (h : Ch w0 a S0 c w) (l : Int) (hl : U l) (h0 : c.ha = 0) (hv : lvl c.e.p l = 0) (c' : Mc) (hi : c.inst F G = (none, c'))
    (hF : ∀ x c', c.fet = (x, none, c') → (Tl.Ia.prg x).2 = true → c'.fp = false → Way 63 F (· = (Tl.Ia.prg x).1))
    (hG : ∀ x c', c.fet = (x, none, c') → (Tl.Ia.prg x).2 = true → c'.fp = true → c'.lts (Tl.Ia.prg x).1.cls = true → WayG 61 G (· = (Tl.Ia.prg x).1)) :
    Calls Tryz.prog 13 #[.pointer (some ⟨a.g, 0, none⟩), .int .u32 l] w fun e w' => e = .returned (.tuple #[.int .i64 0, .int .i64 0]) ∧ Ch w0 a S0 c' w' ∧ Mv a w w' := by
  have H := Lib.hid h
  have HI : Hid (∀ W, Ch w0 a S0 c W → Calls Tryz.prog 33 #[.pointer (some ⟨a.g, 0, none⟩)] W fun e w' => e = .returned (.pointer none) ∧ Ch w0 a S0 c' w' ∧ Mv a W w') := Lib.hid fun W hW => by
    refine (inst_any F G W hW hF hG).mono ?_
    rintro e w' ⟨v, rfl, h1, h2, h3⟩
    rw [hi] at h1 h2
    have e : v = .pointer none := h1
    subst e
    exact ⟨rfl, h2, h3⟩
  have HLv := Lib.hid (fun W => level_any c.e.p l h.eok.p hl W)
  rw [hv] at HLv
  have c2 := h.c2
  have c4 := h.c4
  rw [h0] at c4
  obtain ⟨cs, hcs⟩ : ∃ cs, c.e.cells c.xs7.l = cs := ⟨_, rfl⟩
  have hV : c.val = .agg cs.toArray := by rw [Mc.val, Hr.sv, hcs]
  have HSt : Hid (∀ W, Ch w0 a S0 c W → Calls Tryz.prog 12 #[.pointer (some ⟨a.g, 0, none⟩)] W fun e w' => e = .returned (.agg cs.toArray) ∧ Below W.heap.size W w') := Lib.hid fun W hW => by
    rw [← hV]; exact state_any W hW
  have hl26 : cs.length = 26 := by rw [← hcs, Hr.Re.length h.eok]; rfl
  have ho : ∀ v ∈ cs, v.oneCell' = true := by rw [← hcs]; exact Hr.one_cells c.xs7.one
  have hi6 : (Tryz.prog.info? 28).map (·.size) = some cs.length := by rw [hl26, Hr.st_size]
  clear h hl h0 hv hi hF hG hcs hV
  go_enter Tryz.func13, Tryz.ntmps13
  go_upto_region 8 with (first
    | (go_at_call 30; refine (fpsl _ H.out).mono ?_; rintro e w1 ⟨rfl, rfl⟩)
    | (go_at_call 21; refine (HLv.out _).mono ?_; rintro e w1 ⟨rfl, rfl⟩)
    | fail)
  go_wp2_with fail
  refine (HSt.out _ H.out).mono ?_
  rintro e w1 ⟨rfl, hb1⟩
  have HC1 := Lib.hid (nx_below H.out hb1)
  have hle := hb1.size
  clear hb1
  have HO := Lib.hid (all_oneCell_toArray ho)
  have HBN : Hid (Hr.Bk (w1.alloc (.cells #[Value.int .u32 0, Value.int .u32 0, Value.int .u32 0, Value.int .u32 0, Value.int .u32 0, Value.int .u32 0, Value.int .u32 0, Value.int .u32 0, Value.int .u32 0, Value.int .u32 0, Value.int .u32 0, Value.int .u32 0, Value.int .u32 0, Value.int .u32 0, Value.int .u32 0, Value.int .u32 0, Value.int .u32 0, Value.int .u32 0, Value.int .u32 0, Value.int .u32 0, Value.int .u32 0, Value.int .u32 0, Value.int .u32 0, Value.int .u32 0, Value.int .u32 0, Value.int .i64 0] 28)) w1.heap.size 28 [Value.int .u32 0, Value.int .u32 0, Value.int .u32 0, Value.int .u32 0, Value.int .u32 0, Value.int .u32 0, Value.int .u32 0, Value.int .u32 0, Value.int .u32 0, Value.int .u32 0, Value.int .u32 0, Value.int .u32 0, Value.int .u32 0, Value.int .u32 0, Value.int .u32 0, Value.int .u32 0, Value.int .u32 0, Value.int .u32 0, Value.int .u32 0, Value.int .u32 0, Value.int .u32 0, Value.int .u32 0, Value.int .u32 0, Value.int .u32 0, Value.int .u32 0, Value.int .i64 0]) := Lib.hid (Hr.Bk.new _ _ _)
  have HT : Hid ((w1.alloc (.cells #[Value.int .u32 0, Value.int .u32 0, Value.int .u32 0, Value.int .u32 0, Value.int .u32 0, Value.int .u32 0, Value.int .u32 0, Value.int .u32 0, Value.int .u32 0, Value.int .u32 0, Value.int .u32 0, Value.int .u32 0, Value.int .u32 0, Value.int .u32 0, Value.int .u32 0, Value.int .u32 0, Value.int .u32 0, Value.int .u32 0, Value.int .u32 0, Value.int .u32 0, Value.int .u32 0, Value.int .u32 0, Value.int .u32 0, Value.int .u32 0, Value.int .u32 0, Value.int .i64 0] 28)).there w1.heap.size 0 cs.toArray.size) := Lib.hid (HBN.out.there 0 _ (by simp [hl26]))
  have HI6 : Hid ((Tryz.prog.info? 28).map (·.size) = some cs.toArray.size) := Lib.hid (by simpa using hi6)
  have hB : Below w1.heap.size w1 (w1.alloc (.cells #[Value.int .u32 0, Value.int .u32 0, Value.int .u32 0, Value.int .u32 0, Value.int .u32 0, Value.int .u32 0, Value.int .u32 0, Value.int .u32 0, Value.int .u32 0, Value.int .u32 0, Value.int .u32 0, Value.int .u32 0, Value.int .u32 0, Value.int .u32 0, Value.int .u32 0, Value.int .u32 0, Value.int .u32 0, Value.int .u32 0, Value.int .u32 0, Value.int .u32 0, Value.int .u32 0, Value.int .u32 0, Value.int .u32 0, Value.int .u32 0, Value.int .u32 0, Value.int .i64 0] 28)) := by go_grown
  have K2 := Lib.hid (nx_trans HC1.out.2 (nx_below HC1.out.1 hB))
  clear hB hi6 ho HC1 HSt HLv
  go_upto_region 9 with (first
    | (refine wpList_store_mid rfl 28 _ _ rfl w1.heap.size 0 cs.toArray rfl rfl HT.out HI6.out HO.out ?_; generalize w1.alloc (.cells #[Value.int .u32 0, Value.int .u32 0, Value.int .u32 0, Value.int .u32 0, Value.int .u32 0, Value.int .u32 0, Value.int .u32 0, Value.int .u32 0, Value.int .u32 0, Value.int .u32 0, Value.int .u32 0, Value.int .u32 0, Value.int .u32 0, Value.int .u32 0, Value.int .u32 0, Value.int .u32 0, Value.int .u32 0, Value.int .u32 0, Value.int .u32 0, Value.int .u32 0, Value.int .u32 0, Value.int .u32 0, Value.int .u32 0, Value.int .u32 0, Value.int .u32 0, Value.int .i64 0] 28) = W at *)
    | fail)
  have hw1 := K2.out.2.size
  have hms := Hr.mods_setCells (Hr.One w1.heap.size) cs 0 (Tl.Mods.refl (Hr.One w1.heap.size) W) (.inl rfl)
  have hc3 := K2.out.1.own hms H.out hle ⟨_, ⟨_, _, HBN.out⟩, by simp [Mty], by decide⟩
  have hm3 := K2.out.2.own hms hle
  have HC3 := Lib.hid hc3
  have HM3 := Lib.hid hm3
  clear hms hc3 hm3 HBN HT K2 HO HI6
  generalize W.setCells w1.heap.size 0 cs = W3 at *
  generalize Value.agg cs.toArray = bv at *
  go_wp2_with (first
    | (go_at_call 33; refine (HI.out _ HC3.out).mono ?_; rintro e w4 ⟨rfl, h4, m4⟩; have H4 := Lib.hid h4; have M4 := Lib.hid m4; clear h4 m4)
    | fail)
  exact bodyPost_ret (v := .tuple #[.int .i64 0, .int .i64 0]) (by simp [results, Tryz.results13, go_sem]) rfl ⟨rfl, H4.out, HM3.out.trans M4.out⟩
end

end Go.Proofs.YteohkobdmkbcpaaGreatDoor.Cs
