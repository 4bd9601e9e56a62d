/- What each statement of layer 10 asks first; the walks of IsaOf and IsaFinds. -/
import Derived.Test.YtmkfcjpdcaminaaDoorIIsa4
namespace Go.Proofs.YtmkfcjpdcaminaaDoor.Cs
open Go.RowKit

/-- An instruction in a variable, with its operands. -/
structure Bx (W : World) (g : Nat) (x : Oq) (u : Value) : Prop where
  box : Bk W g 25 (x.cells u)
  ops : Ro W u x.ops
theorem Bx.below {W W' : World} {g : Nat} {x : Oq} {u : Value} (h : Bx W g x u) (b : Below W.heap.size W W') : Bx W' g x u := ⟨h.box.below b, own_below h.ops b⟩
theorem Bx.new {B : Nat} {W : World} {x : Oq} {u : Value} (h : Op1 B W x u) : Bx (W.alloc (.cells (x.cells u).toArray 25)) W.heap.size x u := ⟨Bk.new _ _ _, own_below h.1 (al1 _ _)⟩
theorem Bx.cells {W : World} {g : Nat} {x : Oq} {u : Value} (h : Bx W g x u) :
    W.cell? ⟨g, 0, none⟩ = some (.int .i64 x.code) ∧ W.cell? ⟨g, 1, none⟩ = some (.string (sb x.name)) ∧ W.cell? ⟨g, 2, none⟩ = some (.int .i64 x.cls) ∧ W.cell? ⟨g, 3, none⟩ = some (.int .i64 x.alu) ∧ W.cell? ⟨g, 4, none⟩ = some u :=
  ⟨h.box.cell 0 _ rfl, h.box.cell 1 _ rfl, h.box.cell 2 _ rfl, h.box.cell 3 _ rfl, h.box.cell 4 _ rfl⟩

theorem ret_bool {a b : Bool} (h : a = b) : Ending.returned (.bool a) = .returned (.bool b) := by rw [h]
theorem prg_193 : prg 193 = (⟨193, [65, 68, 68, 76, 51], 15, 6, [(114, 4), (114, 4), (119, 4)]⟩, true) := peq_eq (by kernel_rfl)
theorem ops_six : upto 256 (fun k => Nat.ble (opl (shs.getD k (0, 0, [])).2.2).length 6) = true := by kernel_rfl
theorem prg_ops (code : Int) : (prg code).1.ops.length ≤ 6 := by
  unfold prg
  split
  · decide
  · next h =>
    have hc : 0 ≤ code ∧ code < 256 := by
      rcases Classical.em (0 ≤ code ∧ code < 256) with h' | h'
      · exact h'
      · exact absurd (show nm code = [] by unfold nm; rw [if_neg h']) h
    have := upto_at ops_six code.toNat (by omega)
    rwa [Nat.ble_eq] at this

set_option maxHeartbeats 3200000 in
set_option maxRecDepth 20000 in
theorem alive_any (w : World) (hg : Gl w) : Calls Tryd.prog 8 #[] w fun e w' => e = .returned (.bool true) ∧ Below w.heap.size w w' := by
  have HO := Lib.hid (fun W h => of_any 193 W h)
  rw [prg_193] at HO
  have HG := Lib.hid hg
  clear hg
  go_enter Tryd.func8, Tryd.ntmps8
  go_wp2_with (go_at_call 9; refine (HO.out _ HG.out).mono ?_; rintro e w1 ⟨u, rfl, ho, hb⟩; obtain ⟨r, c, rfl, hr⟩ := ro_some ho.1 (by decide); obtain ⟨k0, _⟩ := ro_at ho.1 2 (by decide); have hk : w1.cell? ⟨r, 4, none⟩ = some (.int .u8 119) := k0; have HB := Lib.hid hb; clear k0 hb ho)
  go_ret
  exact ⟨rfl, bel2 HB.out (al1 _ _)⟩

set_option maxHeartbeats 3200000 in
set_option maxRecDepth 20000 in
theorem isaof_walk (code cls : Int) (w : World) (hg : Gl w) : Calls Tryd.prog 3 #[.int .i64 code, .int .i64 cls] w fun e w' => e = .returned (.bool true) ∧ Below w.heap.size w w' := by
  have HA := Lib.hid (fun W h => alive_any W h)
  have HO := Lib.hid (fun W h => of_any code W h)
  have HD := Lib.hid (fun W => dof_any code W)
  rw [code_prg code] at HD
  have HL := Lib.hid (prg_ops code)
  have HS := Lib.hid (fun W => string_any cls W)
  have HG := Lib.hid hg
  clear hg
  generalize prg code = p at *
  obtain ⟨x, b⟩ := p
  simp only at HL
  have HM := Lib.hid (fun u v W h1 h2 => same_any x u v W (by have := HL.out; omega) h1 h2)
  have hbb : (b == b) = true := by simp
  have h3 : (40 ≤ cls ∧ cls ≤ 45 ∧ stg cls = true) ∨ (40 ≤ cls ∧ 45 < cls ∧ stg cls = false) ∨ (cls < 40 ∧ cls ≤ 45 ∧ stg cls = false) := by
    unfold stg
    by_cases h1 : 40 ≤ cls
    · by_cases h2 : cls ≤ 45
      · exact .inl ⟨h1, h2, by simp [h1, h2]⟩
      · exact .inr (.inl ⟨h1, by omega, by simp [h2]⟩)
    · exact .inr (.inr ⟨by omega, by omega, by simp [h1]⟩)
  rcases h3 with ⟨h40, h45, hst⟩ | ⟨h40, h45, hst⟩ | ⟨h40, h45, hst⟩
  all_goals
    rw [hst] at HS
    clear hst
    go_enter Tryd.func3, Tryd.ntmps3
    go_wp2_with (first
      | (go_at_call 8; refine (HA.out _ HG.out).mono ?_; rintro e w1 ⟨rfl, hb⟩; have HB1 := Lib.hid hb; have HG1 := Lib.hid (HG.out.below hb); clear hb)
      | (go_at_call 9; refine (HO.out _ HG1.out).mono ?_; rintro e w2 ⟨u, rfl, ho, hb⟩; obtain ⟨A, c, rfl⟩ := ro_slice ho.1; have HX := Lib.hid (Bx.new ho); have HB2 := Lib.hid (bel2 (bel2 HB1.out hb) (al1 w2 (.cells (x.cells (.slice A x.ops.length c)).toArray 25))); clear ho hb HB1)
      | (go_at_call 10; refine (HD.out _).mono ?_; rintro e w3 ⟨v, rfl, ho, hb⟩; obtain ⟨A', c', rfl⟩ := ro_slice ho.1; have HX2 := Lib.hid ((HX.out.below hb).below (al1 w3 (.cells (x.cells (.slice A' x.ops.length c')).toArray 25))); have HY := Lib.hid (Bx.new ho); have HB3 := Lib.hid (bel2 (bel2 HB2.out hb) (al1 w3 (.cells (x.cells (.slice A' x.ops.length c')).toArray 25))); obtain ⟨x0, x1, x2, x3, x4⟩ := (HX.out.below hb).cells; have hlt := (HX.out.below hb).box.lt; clear ho hb HB2 HX)
      | (go_at_call 11; refine (HM.out _ _ _ HX2.out.ops HY.out.ops).mono ?_; rintro e w4 ⟨rfl, hb⟩; have HB4 := Lib.hid (bel2 HB3.out hb); clear hb)
      | (go_at_call 12; refine (HS.out _).mono ?_; rintro e w5 ⟨rfl, rfl⟩)
      | fail)
    first | (go_ret; exact ⟨rfl, HB4.out⟩) | (go_ret; exact ⟨ret_bool (by simp; omega), HB4.out⟩)

theorem name_ops (n : List UInt8) : (fnd (docs.find? fun x => x.name == n)).1.ops.length ≤ 6 := by
  rcases Classical.em (∃ k : Nat, k < 256 ∧ nm (k : Int) = n ∧ n ≠ []) with ⟨k, hk, h, h0⟩ | h
  · subst h
    rw [name_at k hk h0]
    exact prg_ops _
  · rw [name_not n ?_]
    · decide
    · rcases Classical.em (n = []) with h0 | h0
      · exact .inl h0
      · exact .inr fun k hk e => h ⟨k, hk, e, h0⟩

set_option maxHeartbeats 3200000 in
set_option maxRecDepth 20000 in
theorem isafinds_list (n : List UInt8) (w : World) (hg : Gl w) : Calls Tryd.prog 4 #[.string (sb n)] w fun e w' => e = .returned (.bool true) ∧ Below w.heap.size w w' := by
  have HA := Lib.hid (fun W h => alive_any W h)
  have HO := Lib.hid (fun W h => find_any n W h)
  have HD := Lib.hid (fun W => dfind_any n W)
  have HL := Lib.hid (name_ops n)
  have HG := Lib.hid hg
  clear hg
  generalize fnd (docs.find? fun x => x.name == n) = p at *
  obtain ⟨x, b⟩ := p
  simp only at HL
  have HM := Lib.hid (fun u v W h1 h2 => same_any x u v W (by have := HL.out; omega) h1 h2)
  have hbb : (b == b) = true := by simp
  generalize sb n = s at *
  by_cases hbig : 256 < s.size
  · go_enter Tryd.func4, Tryd.ntmps4
    go_wp2_with (go_at_call 8; refine (HA.out _ HG.out).mono ?_; rintro e w1 ⟨rfl, hb⟩; have HB1 := Lib.hid hb; clear hb)
    go_ret
    exact ⟨rfl, HB1.out⟩
  · have hbig' : s.size ≤ 256 := by omega
    clear hbig
    go_enter Tryd.func4, Tryd.ntmps4
    go_wp2_with (first
      | (go_at_call 8; refine (HA.out _ HG.out).mono ?_; rintro e w1 ⟨rfl, hb⟩; have HB1 := Lib.hid hb; have HG1 := Lib.hid (HG.out.below hb); clear hb)
      | (go_at_call 13; refine (HO.out _ HG1.out).mono ?_; rintro e w2 ⟨u, rfl, ho, hb⟩; obtain ⟨A, c, rfl⟩ := ro_slice ho.1; have HX := Lib.hid (Bx.new ho); have HB2 := Lib.hid (bel2 (bel2 HB1.out hb) (al1 w2 (.cells (x.cells (.slice A x.ops.length c)).toArray 25))); clear ho hb HB1)
      | (go_at_call 14; refine (HD.out _).mono ?_; rintro e w3 ⟨v, rfl, ho, hb⟩; obtain ⟨A', c', rfl⟩ := ro_slice ho.1; have HX2 := Lib.hid ((HX.out.below hb).below (al1 w3 (.cells (x.cells (.slice A' x.ops.length c')).toArray 25))); have HY := Lib.hid (Bx.new ho); have HB3 := Lib.hid (bel2 (bel2 HB2.out hb) (al1 w3 (.cells (x.cells (.slice A' x.ops.length c')).toArray 25))); obtain ⟨x0, x1, x2, x3, x4⟩ := (HX.out.below hb).cells; have hlt := (HX.out.below hb).box.lt; clear ho hb HB2 HX)
      | (go_at_call 11; refine (HM.out _ _ _ HX2.out.ops HY.out.ops).mono ?_; rintro e w4 ⟨rfl, hb⟩; have HB4 := Lib.hid (bel2 HB3.out hb); clear hb)
      | fail)
    go_ret
    exact ⟨rfl, HB4.out⟩
theorem isafinds_walk (s : ByteArray) (w : World) (hg : Gl w) : Calls Tryd.prog 4 #[.string s] w fun e w' => e = .returned (.bool true) ∧ Below w.heap.size w w' := by
  rw [sb_of s]
  exact isafinds_list _ w hg

end Go.Proofs.YtmkfcjpdcaminaaDoor.Cs
