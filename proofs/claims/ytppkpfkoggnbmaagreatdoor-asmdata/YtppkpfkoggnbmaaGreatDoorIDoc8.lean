/- The document's own reckoning of layer 10: Of, Find. -/
import Derived.Test.YtppkpfkoggnbmaaGreatDoorIDoc7
namespace Go.Proofs.YtppkpfkoggnbmaaGreatDoor.Cs.Ia
open Go.RowKit

/-- Nothing. -/
def zq : Oq := ⟨0, [], 0, 0, []⟩
/-- What is found, and whether. -/
def fnd : Option Oq → Oq × Bool
  | some x => (x, true)
  | none => (zq, false)
def FoundE (w : World) (p : Oq × Bool) (e : Ending) (w' : World) : Prop :=
  ∃ u, e = .returned (.tuple #[p.1.val u, .bool p.2]) ∧ Op1 w.heap.size w' p.1 u ∧ Below w.heap.size w w'
theorem op_none (B : Nat) (W : World) (x : Oq) (hx : x.ops = []) : Op1 B W x (.slice none 0 0) :=
  ⟨⟨by rw [hx]; simp [cop], .inl ⟨rfl, by rw [hx]; rfl⟩⟩, fun k hk => by simp [Bl, Value.ownBlock] at hk⟩

/-- A row of instructions behind a variable for what is answered. -/
structure Fd (D : List Oq) (w : World) (L : Value) (W : World) : Prop where
  row : Rq (w.heap.size + 1) W L D
  res : Bk W w.heap.size 41 [.int .i64 0, .string ⟨#[]⟩, .int .i64 0, .int .i64 0, .slice none 0 0]
  bel : Below w.heap.size w W
section
variable {D : List Oq} {w W W' : World} {L : Value}
theorem Fd.below (h : Fd D w L W) (b : Below W.heap.size W W') : Fd D w L W' := ⟨h.row.below b, h.res.below b, bel_trans h.bel b h.bel.size⟩
theorem Fd.at_ {r n c : Nat} (h : Fd D w (.slice (some ⟨r, 0, none⟩) n c) W) (k : Nat) (hk : k < D.length) : ∃ A m, Op1 (w.heap.size + 1) W (D.getD k zq) (.slice A (D.getD k zq).ops.length m) ∧
    W.cell? ⟨r, k * 5, none⟩ = some (.int .i64 (D.getD k zq).code) ∧ W.cell? ⟨r, k * 5 + 1, none⟩ = some (.string (sb (D.getD k zq).name)) ∧ W.cell? ⟨r, k * 5 + 2, none⟩ = some (.int .i64 (D.getD k zq).cls) ∧
    W.cell? ⟨r, k * 5 + 3, none⟩ = some (.int .i64 (D.getD k zq).alu) ∧ W.cell? ⟨r, k * 5 + 4, none⟩ = some (.slice A (D.getD k zq).ops.length m) := by
  obtain ⟨ys, h1, h2, h3, h4⟩ := h.row
  have hl : ys.length = D.length := by rw [← h1, List.length_map]
  have hk' : k < ys.length := by omega
  have hy := h4 ys[k] (List.getElem_mem hk')
  have e : (D.getD k zq) = ys[k].1 := by subst h1; simp [List.getD, hk']
  rw [e]
  obtain ⟨A, m, hu⟩ := ro_slice hy.1.1
  have hg := fun j hj => cqs_get ys k j hk' hj
  rcases own_shape h2 with ⟨h, _⟩ | ⟨r', cap', e1, _, _, _, hc, _⟩
  · cases h
  · injection e1 with e1 _ _
    injection e1 with e1
    injection e1 with e1
    subst e1
    refine ⟨A, m, hu ▸ hy.1, hc _ _ ?_, hc _ _ ?_, hc _ _ ?_, hc _ _ ?_, hc _ _ ?_⟩
    · rw [show k * 5 = k * 5 + 0 by omega, hg 0 (by omega)]; rfl
    · rw [hg 1 (by omega)]; rfl
    · rw [hg 2 (by omega)]; rfl
    · rw [hg 3 (by omega)]; rfl
    · rw [hg 4 (by omega), hu]; rfl
end
theorem Fd.fin {D : List Oq} {w W : World} {L u : Value} {x : Oq} (h : Fd D w L W) (ho : Op1 (w.heap.size + 1) W x u) (a0 a1 a2 a3 a4 : Value) (o : Obj) :
    Op1 w.heap.size ((((((W.setCell ⟨w.heap.size, 0, none⟩ a0).setCell ⟨w.heap.size, 1, none⟩ a1).setCell ⟨w.heap.size, 2, none⟩ a2).setCell ⟨w.heap.size, 3, none⟩ a3).setCell ⟨w.heap.size, 4, none⟩ a4).alloc o) x u ∧
      Below w.heap.size w ((((((W.setCell ⟨w.heap.size, 0, none⟩ a0).setCell ⟨w.heap.size, 1, none⟩ a1).setCell ⟨w.heap.size, 2, none⟩ a2).setCell ⟨w.heap.size, 3, none⟩ a3).setCell ⟨w.heap.size, 4, none⟩ a4).alloc o) := by
  have hn : ¬ Bl u w.heap.size := fun k => by have := ho.2 _ k; omega
  have hs := h.bel.size
  exact ⟨⟨own_below (own_set (own_set (own_set (own_set (own_set ho.1 hn _ _) hn _ _) hn _ _) hn _ _) hn _ _) ((Below.refl _ _).alloc (Nat.le_refl _) _), fun k hk => by have := ho.2 k hk; omega⟩,
   (((((h.bel.setCell (Nat.le_refl _) _).setCell (Nat.le_refl _) _).setCell (Nat.le_refl _) _).setCell (Nat.le_refl _) _).setCell (Nat.le_refl _) _).alloc (by simpa [World.setCell] using hs) _⟩
theorem Fd.fin2 {D : List Oq} {w W : World} {L : Value} (h : Fd D w L W) (a0 a1 a2 a3 a4 : Value) :
    Below w.heap.size w (((((W.setCell ⟨w.heap.size, 0, none⟩ a0).setCell ⟨w.heap.size, 1, none⟩ a1).setCell ⟨w.heap.size, 2, none⟩ a2).setCell ⟨w.heap.size, 3, none⟩ a3).setCell ⟨w.heap.size, 4, none⟩ a4) :=
  ((((h.bel.setCell (Nat.le_refl _) _).setCell (Nat.le_refl _) _).setCell (Nat.le_refl _) _).setCell (Nat.le_refl _) _).setCell (Nat.le_refl _) _
theorem find_at {D : List Oq} {p : Oq → Bool} {k : Nat} (hk : k < D.length) (h : ∀ j, j < k → p (D.getD j zq) = false) (hp : p (D.getD k zq) = true) : D.find? p = some (D.getD k zq) := by
  induction D generalizing k with
  | nil => simp at hk
  | cons x D ih =>
    cases k with
    | zero => rw [List.find?_cons]; simp [List.getD] at hp ⊢; rw [hp]
    | succ k =>
      have h0 := h 0 (by omega)
      simp only [List.getD_cons_zero] at h0
      rw [List.find?_cons, h0]
      simp only [List.getD_cons_succ] at hp ⊢
      exact ih (by simpa using hk) (fun j hj => by have := h (j + 1) (by omega); simpa only [List.getD_cons_succ] using this) hp
theorem find_not {D : List Oq} {p : Oq → Bool} (h : ∀ j, j < D.length → p (D.getD j zq) = false) : D.find? p = none := by
  rw [List.find?_eq_none]
  intro x hx
  obtain ⟨j, hj, rfl⟩ := List.mem_iff_getElem.1 hx
  have := h j hj
  simp [List.getD, hj] at this
  simp [this]

theorem lt_of_cell {W : World} {r k : Nat} {v : Value} (h : W.cell? ⟨r, k, none⟩ = some v) : r < W.heap.size := World.block_lt_of_cell? _ _ h

set_option maxHeartbeats 3200000 in
set_option maxRecDepth 100000 in
theorem dof_any (code : Int) (w : World) : Calls Tryz.prog 17 #[.int .i64 code] w (FoundE w (fnd (docs.find? fun x => x.code == code))) := by
  have hal := fun W => all_any W
  have hdl : docs.length = 139 := by rw [← szs_docs, szs_len]
  unfold AllE at hal
  have HAL := Lib.hid hal
  clear hal
  generalize docs = D at *
  have HD := Lib.hid hdl
  clear hdl
  go_enter Tryz.func17, Tryz.ntmps17
  go_wp2_with (go_at_call 35; refine (HAL.out _).mono ?_; rintro e w1 ⟨r, c, rfl, hQ, hB⟩)
  have hs : (w.alloc (.cells #[.int .i64 0, .string ⟨#[]⟩, .int .i64 0, .int .i64 0, .slice none 0 0] 41)).heap.size = w.heap.size + 1 := by show (w.heap.push _).size = _; rw [Array.size_push]
  have HF : Hid (Fd D w (.slice (some ⟨r, 0, none⟩) 139 c) w1) := by
    refine ⟨hs ▸ hQ, (Bk.new w _ [.int .i64 0, .string ⟨#[]⟩, .int .i64 0, .int .i64 0, .slice none 0 0]).below hB, bel2 ((Below.refl _ _).alloc (Nat.le_refl _) _) hB⟩
  clear hs hQ hB HAL
  go_loopw [8] (fun i wr => ∃ k : Nat, k ≤ 139 ∧ i = .int .i64 k ∧ Fd D w (.slice (some ⟨r, 0, none⟩) 139 c) wr ∧ ∀ j, j < k → ((D.getD j zq).code == code) = false) (fun i _ => 139 - (intOf i).toNat)
  case atStart => exact ⟨0, Nat.zero_le _, rfl, HF.out, fun j hj => absurd hj (by omega)⟩
  case round =>
    clear HF
    obtain ⟨k, hk, rfl, hF, hN⟩ := hrel
    have HF := Lib.hid hF
    have HN := Lib.hid hN
    clear hN
    by_cases hlt : k < 139
    · have hkD : k < D.length := by rw [HD.out]; exact hlt
      obtain ⟨A, m, hO, c0, c1, c2, c3, c4⟩ := hF.at_ k hkD
      have hq := hF.res.lt
      have d0 := hF.res.cell 0 _ rfl
      have d1 := hF.res.cell 1 _ rfl
      have d2 := hF.res.cell 2 _ rfl
      have d3 := hF.res.cell 3 _ rfl
      have d4 := hF.res.cell 4 _ rfl
      have dz := hF.res.free
      have HK := Lib.hid hkD
      have HO := Lib.hid hO
      have HFI := Lib.hid (find_at (p := fun x => x.code == code) hkD HN.out)
      clear hF hO hkD
      have hr : r < wr.heap.size := lt_of_cell c0
      by_cases he : ((D.getD k zq).code == code) = true
      · have HX := Lib.hid (HFI.out he)
        generalize D.getD k zq = x at *
        clear HFI HN HK
        go_wp2
        refine bodyPost_ret (v := .tuple #[x.val (.slice A x.ops.length m), .bool true]) (by simp [results, Tryz.results17, go_sem, d0, d1, d2, d3, d4, hq]) rfl ?_
        show FoundE _ _ _ _
        rw [HX.out]
        exact ⟨_, rfl, HF.out.fin HO.out _ _ _ _ _ _⟩
      · have he' : ((D.getD k zq).code == code) = false := by simpa using he
        have HE := Lib.hid he'
        clear he HFI
        have HT : Hid (∀ j, j < k + 1 → ((D.getD j zq).code == code) = false) := fun j hj => by
          rcases Nat.lt_succ_iff_lt_or_eq.1 hj with h | h
          · exact HN.out j h
          · rw [h]; exact HE.out
        clear HE HN
        generalize D.getD k zq = x at *
        go_wp2
        go_roundw
        case rel => exact ⟨k + 1, by omega, by go_num, HF.out.below ((Below.refl _ _).alloc (Nat.le_refl _) _), HT.out⟩
        case measure => first | (simp [intOf]; done) | (simp [intOf]; omega)
    · have HX := Lib.hid (find_not (D := D) (p := fun x => x.code == code) fun j hj => HN.out j (by have := HD.out; omega))
      have hq := hF.res.lt
      have d0 := hF.res.cell 0 _ rfl
      have d1 := hF.res.cell 1 _ rfl
      have d2 := hF.res.cell 2 _ rfl
      have d3 := hF.res.cell 3 _ rfl
      have d4 := hF.res.cell 4 _ rfl
      have dz := hF.res.free
      clear hF HN
      go_wp2
      refine bodyPost_ret (v := .tuple #[zq.val (.slice none 0 0), .bool false]) (by simp [results, Tryz.results17, go_sem, d0, d1, d2, d3, d4, zq]) rfl ?_
      show FoundE _ _ _ _
      rw [HX.out]
      exact ⟨_, rfl, op_none _ _ _ rfl, HF.out.fin2 _ _ _ _ _⟩

end Go.Proofs.YtppkpfkoggnbmaaGreatDoor.Cs.Ia
