/- The walk of RamEnds. -/
import Derived.Test.YtghgdilibbjkeaaRAlive
namespace Go.Proofs.Ytghgdilibbjkeaa.Cs
open Go.RowKit

theorem num_zero (l : List Int) (h : ∀ x ∈ l, x = 0) : num l = 0 := by
  induction l with
  | nil => rfl
  | cons x l ih => simp [num, h x (by simp), ih (fun y hy => h y (by simp [hy]))]
theorem val_zeros (n a k : Nat) : val (List.replicate n 0) a k = 0 :=
  num_zero _ fun _ hx => List.eq_of_mem_replicate (List.mem_of_mem_drop (List.mem_of_mem_take hx))

theorem e_size (g r n : Nat) (k : Int) (hk : (n : Int) = k) (w : World) (h : Mem w g r (List.replicate n 0)) :
    Calls Try.prog 11 #[.pointer (some ⟨g, 0, none⟩)] w fun e w' => e = .returned (.int .i64 k) ∧ w = w' := by
  have := size_any g r _ w h
  simp only [List.length_replicate, hk] at this
  exact this
theorem e_not (g r n : Nat) (k : Int) (hk : (n : Int) = k) (w : World) (h : Mem w g r (List.replicate n 0)) (a x s : Int) (ha : 0 ≤ a) (ha' : a < 4294967296) (hs : k < a + s) :
    Calls Try.prog 12 #[.pointer (some ⟨g, 0, none⟩), .int .u32 a, .int .u32 x, .int .i64 s] w fun e w' => e = .returned (.int .i64 6) ∧ w = w' :=
  put_not g r _ a s x w h ha ha' (by simp only [List.length_replicate]; omega)
theorem e_get (g r n : Nat) (k : Int) (hk : (n : Int) = k) (w : World) (h : Mem w g r (List.replicate n 0)) (a : Int) (ha : 0 ≤ a) (hs : a + 4 ≤ k) :
    Calls Try.prog 13 #[.pointer (some ⟨g, 0, none⟩), .int .u32 a, .int .i64 4] w fun e w' => e = .returned (.tuple #[.int .u32 0, .int .i64 0]) ∧ w = w' := by
  obtain ⟨a, rfl⟩ := Int.eq_ofNat_of_zero_le ha
  have := get_ok g r _ a 4 w h (by omega) (by simp only [List.length_replicate]; omega)
  rw [val_zeros] at this
  exact this
theorem e_put (g r n : Nat) (k : Int) (hk : (n : Int) = k) (w : World) (h : Mem w g r (List.replicate n 0)) (a : Int) (ha : 0 ≤ a) (hs : a + 1 ≤ k) :
    Calls Try.prog 12 #[.pointer (some ⟨g, 0, none⟩), .int .u32 a, .int .u32 1, .int .i64 1] w fun e w' => e = .returned (.int .i64 0) ∧ w.grownBy w' (some r) := by
  obtain ⟨a, rfl⟩ := Int.eq_ofNat_of_zero_le ha
  exact (put_ok g r _ a 1 1 w h (by omega) (by simp only [List.length_replicate]; omega)).mono fun _ _ h => ⟨h.1, h.2.2⟩

set_option maxHeartbeats 400000 in
theorem ends_trivial (s o : Int) (ho : 4 ≤ o ∨ (o ≤ 0 ∧ 4096 < s)) (w : World) :
    Calls Try.prog 4 #[.int .i64 s, .int .i64 o] w fun e w' => e = .returned (.bool true) ∧ Below w.heap.size w w' := by
  rcases ho with h1 | ⟨h1, h2⟩
  · have h1' : 0 < o := by omega
    have h1'' : ¬ o < 4 := by omega
    have h1''' : ¬ o ≤ 0 := by omega
    go_enter Try.func4, Try.ntmps4
    go_wp2_with fail
    refine (ralive _).mono ?_
    rintro e w1 ⟨rfl, hb1⟩
    go_wp2
    go_ret
    exact ⟨rfl, hb1⟩
  · have h1' : ¬ 0 < o := by omega
    go_enter Try.func4, Try.ntmps4
    go_wp2_with fail
    refine (ralive _).mono ?_
    rintro e w1 ⟨rfl, hb1⟩
    go_wp2
    go_ret
    exact ⟨rfl, hb1⟩


set_option maxHeartbeats 400000 in
theorem ends_below (s o : Int) (ho : o ≤ 0) (hs : s < 0) (w : World) :
    Calls Try.prog 4 #[.int .i64 s, .int .i64 o] w fun e w' => e = .returned (.bool true) ∧ Below w.heap.size w w' := by
  have h1 : ¬ 0 < o := by omega
  have h2 : ¬ 4 ≤ o := by omega
  have h3 : ¬ 4096 < s := by omega
  have HK : Hid (((sized s : Nat) : Int) = 0) := by show _ = _; unfold sized; omega
  go_enter Try.func4, Try.ntmps4
  go_wp2_with fail
  refine (ralive _).mono ?_
  rintro e w1 ⟨rfl, hb1⟩
  go_wp2_with fail
  refine (new_any s _).mono ?_
  rintro e w2 ⟨g, r, rfl, hg, hr, hm, hb2⟩
  have HM := Lib.hid hm
  have HB := Lib.hid (bel_trans hb1 hb2)
  clear hm hb1 hb2
  go_wp2_with fail
  refine (e_size g r _ 0 HK.out _ HM.out).mono ?_
  rintro e w' ⟨rfl, rfl⟩
  go_wp2_with fail
  refine (e_not g r _ 0 HK.out _ HM.out _ _ _ (by omega) (by omega) (by omega)).mono ?_
  rintro e w' ⟨rfl, rfl⟩
  go_wp2_with fail
  refine (e_not g r _ 0 HK.out _ HM.out _ _ _ (by omega) (by omega) (by omega)).mono ?_
  rintro e w' ⟨rfl, rfl⟩
  go_wp2
  go_ret
  exact ⟨rfl, HB.out⟩

set_option maxHeartbeats 400000 in
theorem ends_nought (o : Int) (ho : o ≤ 0) (w : World) :
    Calls Try.prog 4 #[.int .i64 0, .int .i64 o] w fun e w' => e = .returned (.bool true) ∧ Below w.heap.size w w' := by
  have h1 : ¬ 0 < o := by omega
  have h2 : ¬ 4 ≤ o := by omega
  have HK : Hid (((sized 0 : Nat) : Int) = 0) := by show _ = _; unfold sized; omega
  go_enter Try.func4, Try.ntmps4
  go_wp2_with fail
  refine (ralive _).mono ?_
  rintro e w1 ⟨rfl, hb1⟩
  go_wp2_with fail
  refine (new_any 0 _).mono ?_
  rintro e w2 ⟨g, r, rfl, hg, hr, hm, hb2⟩
  have HM := Lib.hid hm
  have HB := Lib.hid (bel_trans hb1 hb2)
  clear hm hb1 hb2
  go_wp2_with fail
  refine (e_size g r _ 0 HK.out _ HM.out).mono ?_
  rintro e w' ⟨rfl, rfl⟩
  go_wp2_with fail
  refine (e_not g r _ 0 HK.out _ HM.out _ _ _ (by omega) (by omega) (by omega)).mono ?_
  rintro e w' ⟨rfl, rfl⟩
  go_wp2_with fail
  refine (e_not g r _ 0 HK.out _ HM.out _ _ _ (by omega) (by omega) (by omega)).mono ?_
  rintro e w' ⟨rfl, rfl⟩
  go_wp2
  go_ret
  exact ⟨rfl, HB.out⟩

set_option maxHeartbeats 400000 in
theorem ends_small (s o : Int) (ho : o ≤ 0) (hs : 0 < s) (hs3 : s ≤ 3) (w : World) :
    Calls Try.prog 4 #[.int .i64 s, .int .i64 o] w fun e w' => e = .returned (.bool true) ∧ Below w.heap.size w w' := by
  have h1 : ¬ 0 < o := by omega
  have h2 : ¬ 4 ≤ o := by omega
  have h3 : ¬ 4096 < s := by omega
  have h4 : ¬ 3 < s := by omega
  have h5 : s < 4 := by omega
  have HK : Hid (((sized s : Nat) : Int) = s) := by show _ = _; unfold sized; omega
  go_enter Try.func4, Try.ntmps4
  go_wp2_with fail
  refine (ralive _).mono ?_
  rintro e w1 ⟨rfl, hb1⟩
  go_wp2_with fail
  refine (new_any s _).mono ?_
  rintro e w2 ⟨g, r, rfl, hg, hr, hm, hb2⟩
  have HM := Lib.hid hm
  have HB := Lib.hid (bel_trans hb1 hb2)
  clear hm hb1 hb2
  go_wp2_with fail
  refine (e_size g r _ s HK.out _ HM.out).mono ?_
  rintro e w' ⟨rfl, rfl⟩
  go_wp2_with fail
  refine (e_not g r _ s HK.out _ HM.out _ _ _ (by omega) (by omega) (by omega)).mono ?_
  rintro e w' ⟨rfl, rfl⟩
  go_wp2_with fail
  refine (e_not g r _ s HK.out _ HM.out _ _ _ (by omega) (by omega) (by omega)).mono ?_
  rintro e w' ⟨rfl, rfl⟩
  go_wp2
  go_ret
  exact ⟨rfl, HB.out⟩

set_option maxHeartbeats 400000 in
theorem ends_more (s o : Int) (ho : o ≤ 0) (hs : 3 < s) (hs3 : s ≤ 4096) (w : World) :
    Calls Try.prog 4 #[.int .i64 s, .int .i64 o] w fun e w' => e = .returned (.bool true) ∧ Below w.heap.size w w' := by
  have h1 : ¬ 0 < o := by omega
  have h2 : ¬ 4 ≤ o := by omega
  have h3 : ¬ 4096 < s := by omega
  have h4 : ¬ s < 4 := by omega
  have h5 : 0 < s := by omega
  have HK : Hid (((sized s : Nat) : Int) = s) := by show _ = _; unfold sized; omega
  go_enter Try.func4, Try.ntmps4
  go_wp2_with fail
  refine (ralive _).mono ?_
  rintro e w1 ⟨rfl, hb1⟩
  go_wp2_with fail
  refine (new_any s _).mono ?_
  rintro e w2 ⟨g, r, rfl, hg, hr, hm, hb2⟩
  have HM := Lib.hid hm
  have HB := Lib.hid (bel_trans hb1 hb2)
  have hr' : w.heap.size ≤ r := by have := hb1.size; omega
  clear hm hb1 hb2
  go_wp2_with fail
  refine (e_size g r _ s HK.out _ HM.out).mono ?_
  rintro e w' ⟨rfl, rfl⟩
  go_wp2_with fail
  refine (e_not g r _ s HK.out _ HM.out _ _ _ (by omega) (by omega) (by omega)).mono ?_
  rintro e w' ⟨rfl, rfl⟩
  go_wp2_with fail
  refine (e_not g r _ s HK.out _ HM.out _ _ _ (by omega) (by omega) (by omega)).mono ?_
  rintro e w' ⟨rfl, rfl⟩
  go_wp2_with fail
  refine (e_not g r _ s HK.out _ HM.out _ _ _ (by omega) (by omega) (by omega)).mono ?_
  rintro e w' ⟨rfl, rfl⟩
  go_wp2_with fail
  refine (e_get g r _ s HK.out _ HM.out _ (by omega) (by omega)).mono ?_
  rintro e w' ⟨rfl, rfl⟩
  go_wp2_with fail
  refine (e_put g r _ s HK.out _ HM.out _ (by omega) (by omega)).mono ?_
  rintro e w3 ⟨rfl, hb3⟩
  have HB3 := Lib.hid (below_of_grown HB.out hb3 HB.out.size hr')
  clear hb3
  go_wp2
  go_ret
  exact ⟨rfl, HB3.out⟩

set_option maxHeartbeats 400000 in
theorem ends_over1 (s : Int) (w : World) :
    Calls Try.prog 4 #[.int .i64 s, .int .i64 1] w fun e w' => e = .returned (.bool true) ∧ Below w.heap.size w w' := by
  have HK : Hid (((sized 16777215 : Nat) : Int) = 16777215) := by show _ = _; unfold sized; omega
  go_enter Try.func4, Try.ntmps4
  go_wp2_with fail
  refine (ralive _).mono ?_
  rintro e w1 ⟨rfl, hb1⟩
  go_wp2_with fail
  refine (new_any 16777215 _).mono ?_
  rintro e w2 ⟨g, r, rfl, hg, hr, hm, hb2⟩
  have HM := Lib.hid hm
  have HB := Lib.hid (bel_trans hb1 hb2)
  have hr' : w.heap.size ≤ r := by have := hb1.size; omega
  clear hm hb1 hb2
  go_wp2_with fail
  refine (e_size g r _ 16777215 HK.out _ HM.out).mono ?_
  rintro e w' ⟨rfl, rfl⟩
  go_wp2_with fail
  refine (e_not g r _ 16777215 HK.out _ HM.out _ _ _ (by omega) (by omega) (by omega)).mono ?_
  rintro e w' ⟨rfl, rfl⟩
  go_wp2_with fail
  refine (e_not g r _ 16777215 HK.out _ HM.out _ _ _ (by omega) (by omega) (by omega)).mono ?_
  rintro e w' ⟨rfl, rfl⟩
  go_wp2_with fail
  refine (e_not g r _ 16777215 HK.out _ HM.out _ _ _ (by omega) (by omega) (by omega)).mono ?_
  rintro e w' ⟨rfl, rfl⟩
  go_wp2_with fail
  refine (e_get g r _ 16777215 HK.out _ HM.out _ (by omega) (by omega)).mono ?_
  rintro e w' ⟨rfl, rfl⟩
  go_wp2_with fail
  refine (e_put g r _ 16777215 HK.out _ HM.out _ (by omega) (by omega)).mono ?_
  rintro e w3 ⟨rfl, hb3⟩
  have HB3 := Lib.hid (below_of_grown HB.out hb3 HB.out.size hr')
  clear hb3
  go_wp2
  go_ret
  exact ⟨rfl, HB3.out⟩

set_option maxHeartbeats 400000 in
theorem ends_over2 (s : Int) (w : World) :
    Calls Try.prog 4 #[.int .i64 s, .int .i64 2] w fun e w' => e = .returned (.bool true) ∧ Below w.heap.size w w' := by
  have HK : Hid (((sized 16777216 : Nat) : Int) = 16777216) := by show _ = _; unfold sized; omega
  go_enter Try.func4, Try.ntmps4
  go_wp2_with fail
  refine (ralive _).mono ?_
  rintro e w1 ⟨rfl, hb1⟩
  go_wp2_with fail
  refine (new_any 16777216 _).mono ?_
  rintro e w2 ⟨g, r, rfl, hg, hr, hm, hb2⟩
  have HM := Lib.hid hm
  have HB := Lib.hid (bel_trans hb1 hb2)
  have hr' : w.heap.size ≤ r := by have := hb1.size; omega
  clear hm hb1 hb2
  go_wp2_with fail
  refine (e_size g r _ 16777216 HK.out _ HM.out).mono ?_
  rintro e w' ⟨rfl, rfl⟩
  go_wp2_with fail
  refine (e_not g r _ 16777216 HK.out _ HM.out _ _ _ (by omega) (by omega) (by omega)).mono ?_
  rintro e w' ⟨rfl, rfl⟩
  go_wp2_with fail
  refine (e_not g r _ 16777216 HK.out _ HM.out _ _ _ (by omega) (by omega) (by omega)).mono ?_
  rintro e w' ⟨rfl, rfl⟩
  go_wp2_with fail
  refine (e_not g r _ 16777216 HK.out _ HM.out _ _ _ (by omega) (by omega) (by omega)).mono ?_
  rintro e w' ⟨rfl, rfl⟩
  go_wp2_with fail
  refine (e_get g r _ 16777216 HK.out _ HM.out _ (by omega) (by omega)).mono ?_
  rintro e w' ⟨rfl, rfl⟩
  go_wp2_with fail
  refine (e_put g r _ 16777216 HK.out _ HM.out _ (by omega) (by omega)).mono ?_
  rintro e w3 ⟨rfl, hb3⟩
  have HB3 := Lib.hid (below_of_grown HB.out hb3 HB.out.size hr')
  clear hb3
  go_wp2
  go_ret
  exact ⟨rfl, HB3.out⟩

set_option maxHeartbeats 400000 in
theorem ends_over3 (s : Int) (w : World) :
    Calls Try.prog 4 #[.int .i64 s, .int .i64 3] w fun e w' => e = .returned (.bool true) ∧ Below w.heap.size w w' := by
  have HK : Hid (((sized 16777217 : Nat) : Int) = 16777216) := by show _ = _; unfold sized; omega
  go_enter Try.func4, Try.ntmps4
  go_wp2_with fail
  refine (ralive _).mono ?_
  rintro e w1 ⟨rfl, hb1⟩
  go_wp2_with fail
  refine (new_any 16777217 _).mono ?_
  rintro e w2 ⟨g, r, rfl, hg, hr, hm, hb2⟩
  have HM := Lib.hid hm
  have HB := Lib.hid (bel_trans hb1 hb2)
  have hr' : w.heap.size ≤ r := by have := hb1.size; omega
  clear hm hb1 hb2
  go_wp2_with fail
  refine (e_size g r _ 16777216 HK.out _ HM.out).mono ?_
  rintro e w' ⟨rfl, rfl⟩
  go_wp2_with fail
  refine (e_not g r _ 16777216 HK.out _ HM.out _ _ _ (by omega) (by omega) (by omega)).mono ?_
  rintro e w' ⟨rfl, rfl⟩
  go_wp2_with fail
  refine (e_not g r _ 16777216 HK.out _ HM.out _ _ _ (by omega) (by omega) (by omega)).mono ?_
  rintro e w' ⟨rfl, rfl⟩
  go_wp2_with fail
  refine (e_not g r _ 16777216 HK.out _ HM.out _ _ _ (by omega) (by omega) (by omega)).mono ?_
  rintro e w' ⟨rfl, rfl⟩
  go_wp2_with fail
  refine (e_get g r _ 16777216 HK.out _ HM.out _ (by omega) (by omega)).mono ?_
  rintro e w' ⟨rfl, rfl⟩
  go_wp2_with fail
  refine (e_put g r _ 16777216 HK.out _ HM.out _ (by omega) (by omega)).mono ?_
  rintro e w3 ⟨rfl, hb3⟩
  have HB3 := Lib.hid (below_of_grown HB.out hb3 HB.out.size hr')
  clear hb3
  go_wp2
  go_ret
  exact ⟨rfl, HB3.out⟩

theorem ends_walk (s o : Int) (_ : (Lit.int .i64 s).wf = true) (_ : (Lit.int .i64 o).wf = true) (w : World) :
    Calls Try.prog 4 #[.int .i64 s, .int .i64 o] w fun e w' => e = .returned (.bool true) ∧ Below w.heap.size w w' := by
  by_cases h4 : 4 ≤ o
  · exact ends_trivial s o (.inl h4) w
  · by_cases h0 : o ≤ 0
    · by_cases h1 : 4096 < s
      · exact ends_trivial s o (.inr ⟨h0, h1⟩) w
      · by_cases h2 : s < 0
        · exact ends_below s o h0 h2 w
        · by_cases h3 : s = 0
          · subst h3; exact ends_nought o h0 w
          · by_cases h5 : s ≤ 3
            · exact ends_small s o h0 (by omega) h5 w
            · exact ends_more s o h0 (by omega) (by omega) w
    · have h : o = 1 ∨ o = 2 ∨ o = 3 := by omega
      rcases h with rfl | rfl | rfl
      · exact ends_over1 s w
      · exact ends_over2 s w
      · exact ends_over3 s w

end Go.Proofs.Ytghgdilibbjkeaa.Cs
