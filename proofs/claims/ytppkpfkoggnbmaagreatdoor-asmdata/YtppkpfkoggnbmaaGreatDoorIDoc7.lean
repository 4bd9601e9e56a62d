/- The document's own reckoning of layer 10: All. -/
import Derived.Test.YtppkpfkoggnbmaaGreatDoorIDoc6
namespace Go.Proofs.YtppkpfkoggnbmaaGreatDoor.Cs.Ia
open Go.RowKit

theorem ix0 : ∀ w, (Instr.index 102 (.agg #[.int .u8 98, .int .u8 119, .int .u8 108]) (.int .i64 0)).run Tryz.prog w = .ok (.int .u8 98) w := fun _ => by kernel_rfl
theorem ix1 : ∀ w, (Instr.index 102 (.agg #[.int .u8 98, .int .u8 119, .int .u8 108]) (.int .i64 1)).run Tryz.prog w = .ok (.int .u8 119) w := fun _ => by kernel_rfl
theorem ix2 : ∀ w, (Instr.index 102 (.agg #[.int .u8 98, .int .u8 119, .int .u8 108]) (.int .i64 2)).run Tryz.prog w = .ok (.int .u8 108) w := fun _ => by kernel_rfl
theorem jx0 : ∀ w, (Instr.index 102 (.agg #[.int .u8 66, .int .u8 87, .int .u8 76]) (.int .i64 0)).run Tryz.prog w = .ok (.int .u8 66) w := fun _ => by kernel_rfl
theorem jx1 : ∀ w, (Instr.index 102 (.agg #[.int .u8 66, .int .u8 87, .int .u8 76]) (.int .i64 1)).run Tryz.prog w = .ok (.int .u8 87) w := fun _ => by kernel_rfl
theorem jx2 : ∀ w, (Instr.index 102 (.agg #[.int .u8 66, .int .u8 87, .int .u8 76]) (.int .i64 2)).run Tryz.prog w = .ok (.int .u8 76) w := fun _ => by kernel_rfl

/-- What All answers. -/
def AllE (w : World) (e : Ending) (w' : World) : Prop := ∃ r c, e = .returned (.slice (some ⟨r, 0, none⟩) 139 c) ∧ Rq w.heap.size w' (.slice (some ⟨r, 0, none⟩) 139 c) docs ∧ Below w.heap.size w w'

set_option maxHeartbeats 3200000 in
set_option maxRecDepth 100000 in
theorem all_any (w : World) : Calls Tryz.prog 35 #[] w (AllE w) := by
  have a0 := ix0
  have a1 := ix1
  have a2 := ix2
  have b0 := jx0
  have b1 := jx1
  have b2 := jx2
  go_enter Tryz.func35, Tryz.ntmps35
  go_wp2_with (go_at_call 59; refine (lines_any _).mono ?_; rintro e w1 ⟨r, rfl, hC⟩)
  have HA := Lib.hid (Al.first hC)
  clear hC
  go_loopw [1, 10] (fun v i wr => ∃ k : Nat, k ≤ 70 ∧ i = .int .i64 k ∧ Al w (.slice (some ⟨r, 0, none⟩) 70 70) lns ((lns.take k).map (rdl 0 0 0)) v wr) (fun _ i _ => 70 - (intOf i).toNat)
  case atStart => exact ⟨0, Nat.zero_le _, rfl, HA.out⟩
  case round =>
    clear HA
    obtain ⟨k, hk, rfl, hA⟩ := hrel
    have HA := Lib.hid hA
    by_cases hlt : k < 70
    · have hkl : k < lns.length := by rw [lns_len]; exact hlt
      have hc := hA.line k hkl
      have HO : Hid (lnb false (lns.getD k []) = true) := all_at lns_ok k hkl
      have HM : Hid ((lns.take (k + 1)).map (rdl 0 0 0) = (lns.take k).map (rdl 0 0 0) ++ [rdl 0 0 0 (lns.getD k [])]) := map_take _ _ _ k hkl
      have hxl : ((lns.take k).map (rdl 0 0 0)).length ≤ 1000000 := by simp; omega
      clear hA hkl
      generalize (lns.take k).map (rdl 0 0 0) = xs at *
      generalize lns.getD k [] = l at *
      go_wp2_with (first
        | (go_at_call 60; refine (read_line false l HO.out 0 (by omega) (by omega) 0 0 (fun h => absurd rfl h) _).mono ?_; rintro e w2 ⟨u, rfl, hU, hB⟩; obtain ⟨r', cap', w3, hrun, HA2⟩ := HA.out.next _ hU hB hxl; rw [← HM.out] at HA2; obtain ⟨A, c, rfl⟩ := ro_slice hU.1; clear hU hB HM HO HA; generalize rdl 0 0 0 l = x at *; generalize xs.length = n at *)
        | (at_builtin; refine wpList_append_run _ rfl _ _ _ _ rfl _ _ rfl rfl hrun ?_))
      go_roundw
      case rel => exact ⟨k + 1, by omega, by go_num, HA2.out⟩
      case measure => first | (simp [intOf]; done) | (simp [intOf]; omega)
    · have e70 : k = 70 := by omega
      subst e70
      have hz := HA.out
      rw [List.take_of_length_le (by rw [lns_len]; omega)] at hz
      have HZ := Lib.hid (show Al w _ lns (szs 0) _ _ from hz)
      clear hz
      clear hA HA hlt hk
      go_wp2
      go_loopw [1, 21] (fun v i wr => ∃ (k : Nat) (L : Value) (ls : List (List UInt8)), k ≤ 3 ∧ i = .int .i64 k ∧ Al w L ls (szs k) v wr) (fun _ i _ => 3 - (intOf i).toNat)
      case atStart => exact ⟨0, _, _, Nat.zero_le _, rfl, HZ.out⟩
      case round =>
        clear HZ
        obtain ⟨i, L, ls, hi, rfl, hA⟩ := hrel
        have HA := Lib.hid hA
        clear hA
        have hi3 : i = 0 ∨ i = 1 ∨ i = 2 ∨ i = 3 := by omega
        clear hi
        rcases hi3 with rfl | rfl | rfl | rfl
        · have hs3 := szs_len 0
          have HR : Hid (szs (0 + 1) = szs 0 ++ szd.map (rdl 128 98 66)) := rfl
          generalize hxs : szs 0 = xs0 at *
          have hx0 : xs0.length ≤ 1000 := by omega
          clear hs3 hxs
          go_wp2_with (go_at_call 61; refine (sized_any _).mono ?_; rintro e w1 ⟨r1, rfl, hC⟩)
          have HA1 := Lib.hid (HA.out.lines hC)
          clear hC HA
          go_loopw [1, 27] (fun v i wr => ∃ k : Nat, k ≤ 23 ∧ i = .int .i64 k ∧ Al w (.slice (some ⟨r1, 0, none⟩) 23 23) szd (xs0 ++ (szd.take k).map (rdl 128 98 66)) v wr) (fun _ i _ => 23 - (intOf i).toNat)
          case atStart => exact ⟨0, Nat.zero_le _, rfl, by have h := HA1.out; simpa using h⟩
          case round =>
            clear HA1
            obtain ⟨k, hk, rfl, hA⟩ := hrel
            have HA := Lib.hid hA
            by_cases hlt : k < 23
            · have hkl : k < szd.length := by rw [szd_len]; exact hlt
              have hc := hA.line k hkl
              have HO : Hid (lnb true (szd.getD k []) = true) := all_at szd_ok k hkl
              have HM : Hid (xs0 ++ (szd.take (k + 1)).map (rdl 128 98 66) = (xs0 ++ (szd.take k).map (rdl 128 98 66)) ++ [rdl 128 98 66 (szd.getD k [])]) := by show _ = _; rw [map_take _ _ [] k hkl, List.append_assoc]
              have hxl : (xs0 ++ (szd.take k).map (rdl 128 98 66)).length ≤ 1000000 := by simp; omega
              clear hA hkl
              generalize (xs0 ++ (szd.take k).map (rdl 128 98 66)) = xs at *
              generalize szd.getD k [] = l at *
              go_wp2_with (first
                | (go_at_call 60; refine (read_line true l HO.out 128 (by omega) (by omega) 98 66 (fun _ => rfl) _).mono ?_; rintro e w2 ⟨u, rfl, hU, hB⟩; obtain ⟨r', cap', w3, hrun, HA2⟩ := HA.out.next _ hU hB hxl; rw [← HM.out] at HA2; obtain ⟨A, c, rfl⟩ := ro_slice hU.1; clear hU hB HM HO HA; generalize rdl 128 98 66 l = x at *; generalize xs.length = n at *)
                | (at_builtin; refine wpList_append_run _ rfl _ _ _ _ rfl _ _ rfl rfl hrun ?_))
              go_roundw
              case rel => exact ⟨k + 1, by omega, by go_num, HA2.out⟩
              case measure => first | (simp [intOf]; done) | (simp [intOf]; omega)
            · have e23 : k = 23 := by omega
              subst e23
              have hz := HA.out
              rw [List.take_of_length_le (by rw [szd_len]; omega), ← HR.out] at hz
              have HZ := Lib.hid hz
              clear hz
              clear hA HA hlt hk HR
              go_wp2
              go_roundw
              case rel => (repeat apply Exists.intro); exact ⟨⟨0 + 1, _, _, by omega, by go_num, HZ.out⟩, rfl⟩
              case measure => first | (simp [intOf]; done) | (simp [intOf]; omega)
        · have hs3 := szs_len 1
          have HR : Hid (szs (1 + 1) = szs 1 ++ szd.map (rdl 160 119 87)) := rfl
          generalize hxs : szs 1 = xs0 at *
          have hx0 : xs0.length ≤ 1000 := by omega
          clear hs3 hxs
          go_wp2_with (go_at_call 61; refine (sized_any _).mono ?_; rintro e w1 ⟨r1, rfl, hC⟩)
          have HA1 := Lib.hid (HA.out.lines hC)
          clear hC HA
          go_loopw [1, 27] (fun v i wr => ∃ k : Nat, k ≤ 23 ∧ i = .int .i64 k ∧ Al w (.slice (some ⟨r1, 0, none⟩) 23 23) szd (xs0 ++ (szd.take k).map (rdl 160 119 87)) v wr) (fun _ i _ => 23 - (intOf i).toNat)
          case atStart => exact ⟨0, Nat.zero_le _, rfl, by have h := HA1.out; simpa using h⟩
          case round =>
            clear HA1
            obtain ⟨k, hk, rfl, hA⟩ := hrel
            have HA := Lib.hid hA
            by_cases hlt : k < 23
            · have hkl : k < szd.length := by rw [szd_len]; exact hlt
              have hc := hA.line k hkl
              have HO : Hid (lnb true (szd.getD k []) = true) := all_at szd_ok k hkl
              have HM : Hid (xs0 ++ (szd.take (k + 1)).map (rdl 160 119 87) = (xs0 ++ (szd.take k).map (rdl 160 119 87)) ++ [rdl 160 119 87 (szd.getD k [])]) := by show _ = _; rw [map_take _ _ [] k hkl, List.append_assoc]
              have hxl : (xs0 ++ (szd.take k).map (rdl 160 119 87)).length ≤ 1000000 := by simp; omega
              clear hA hkl
              generalize (xs0 ++ (szd.take k).map (rdl 160 119 87)) = xs at *
              generalize szd.getD k [] = l at *
              go_wp2_with (first
                | (go_at_call 60; refine (read_line true l HO.out 160 (by omega) (by omega) 119 87 (fun _ => rfl) _).mono ?_; rintro e w2 ⟨u, rfl, hU, hB⟩; obtain ⟨r', cap', w3, hrun, HA2⟩ := HA.out.next _ hU hB hxl; rw [← HM.out] at HA2; obtain ⟨A, c, rfl⟩ := ro_slice hU.1; clear hU hB HM HO HA; generalize rdl 160 119 87 l = x at *; generalize xs.length = n at *)
                | (at_builtin; refine wpList_append_run _ rfl _ _ _ _ rfl _ _ rfl rfl hrun ?_))
              go_roundw
              case rel => exact ⟨k + 1, by omega, by go_num, HA2.out⟩
              case measure => first | (simp [intOf]; done) | (simp [intOf]; omega)
            · have e23 : k = 23 := by omega
              subst e23
              have hz := HA.out
              rw [List.take_of_length_le (by rw [szd_len]; omega), ← HR.out] at hz
              have HZ := Lib.hid hz
              clear hz
              clear hA HA hlt hk HR
              go_wp2
              go_roundw
              case rel => (repeat apply Exists.intro); exact ⟨⟨1 + 1, _, _, by omega, by go_num, HZ.out⟩, rfl⟩
              case measure => first | (simp [intOf]; done) | (simp [intOf]; omega)
        · have hs3 := szs_len 2
          have HR : Hid (szs (2 + 1) = szs 2 ++ szd.map (rdl 192 108 76)) := rfl
          generalize hxs : szs 2 = xs0 at *
          have hx0 : xs0.length ≤ 1000 := by omega
          clear hs3 hxs
          go_wp2_with (go_at_call 61; refine (sized_any _).mono ?_; rintro e w1 ⟨r1, rfl, hC⟩)
          have HA1 := Lib.hid (HA.out.lines hC)
          clear hC HA
          go_loopw [1, 27] (fun v i wr => ∃ k : Nat, k ≤ 23 ∧ i = .int .i64 k ∧ Al w (.slice (some ⟨r1, 0, none⟩) 23 23) szd (xs0 ++ (szd.take k).map (rdl 192 108 76)) v wr) (fun _ i _ => 23 - (intOf i).toNat)
          case atStart => exact ⟨0, Nat.zero_le _, rfl, by have h := HA1.out; simpa using h⟩
          case round =>
            clear HA1
            obtain ⟨k, hk, rfl, hA⟩ := hrel
            have HA := Lib.hid hA
            by_cases hlt : k < 23
            · have hkl : k < szd.length := by rw [szd_len]; exact hlt
              have hc := hA.line k hkl
              have HO : Hid (lnb true (szd.getD k []) = true) := all_at szd_ok k hkl
              have HM : Hid (xs0 ++ (szd.take (k + 1)).map (rdl 192 108 76) = (xs0 ++ (szd.take k).map (rdl 192 108 76)) ++ [rdl 192 108 76 (szd.getD k [])]) := by show _ = _; rw [map_take _ _ [] k hkl, List.append_assoc]
              have hxl : (xs0 ++ (szd.take k).map (rdl 192 108 76)).length ≤ 1000000 := by simp; omega
              clear hA hkl
              generalize (xs0 ++ (szd.take k).map (rdl 192 108 76)) = xs at *
              generalize szd.getD k [] = l at *
              go_wp2_with (first
                | (go_at_call 60; refine (read_line true l HO.out 192 (by omega) (by omega) 108 76 (fun _ => rfl) _).mono ?_; rintro e w2 ⟨u, rfl, hU, hB⟩; obtain ⟨r', cap', w3, hrun, HA2⟩ := HA.out.next _ hU hB hxl; rw [← HM.out] at HA2; obtain ⟨A, c, rfl⟩ := ro_slice hU.1; clear hU hB HM HO HA; generalize rdl 192 108 76 l = x at *; generalize xs.length = n at *)
                | (at_builtin; refine wpList_append_run _ rfl _ _ _ _ rfl _ _ rfl rfl hrun ?_))
              go_roundw
              case rel => exact ⟨k + 1, by omega, by go_num, HA2.out⟩
              case measure => first | (simp [intOf]; done) | (simp [intOf]; omega)
            · have e23 : k = 23 := by omega
              subst e23
              have hz := HA.out
              rw [List.take_of_length_le (by rw [szd_len]; omega), ← HR.out] at hz
              have HZ := Lib.hid hz
              clear hz
              clear hA HA hlt hk HR
              go_wp2
              go_roundw
              case rel => (repeat apply Exists.intro); exact ⟨⟨2 + 1, _, _, by omega, by go_num, HZ.out⟩, rfl⟩
              case measure => first | (simp [intOf]; done) | (simp [intOf]; omega)
        · have HD : Hid (szs 3 = docs) := szs_docs
          have hl : (szs 3).length = 139 := szs_len 3
          rw [HD.out] at HA hl
          have hr := HA.out.row
          have hb := Lib.hid HA.out.bel
          obtain ⟨r', c', rfl⟩ : ∃ r c, u1 = .slice (some ⟨r, 0, none⟩) 139 c := by
            obtain ⟨ys, _, h2, _, _⟩ := hr
            rcases own_shape h2 with ⟨_, h0⟩ | ⟨r, cap, e, _⟩
            · omega
            · exact ⟨r, cap, by rw [e, hl]⟩
          have HQ := Lib.hid hr
          clear hr HA HD hl
          go_wp2
          go_ret
          exact ⟨_, _, rfl, HQ.out, hb.out⟩

end Go.Proofs.YtppkpfkoggnbmaaGreatDoor.Cs.Ia
