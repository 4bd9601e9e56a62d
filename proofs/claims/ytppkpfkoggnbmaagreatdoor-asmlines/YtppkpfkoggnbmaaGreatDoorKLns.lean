/- Lines with white signs around and notes behind are the same lines: no program in sight. -/
import Derived.Test.YtppkpfkoggnbmaaGreatDoorKNt
import Derived.Test.YtppkpfkoggnbmaaGreatDoorGKas
namespace Go.Proofs.YtppkpfkoggnbmaaGreatDoor.Cs.Ka
open Go.RowKit Es
open Ia (sb)
set_option linter.unusedVariables false
set_option linter.unusedSimpArgs false

theorem cutc1_mem {c : UInt8} : ∀ {l : Tx} (k : Tx), c ∈ l → (cutc c (l ++ k)).1 = (cutc c l).1
  | [], k, h => by simp at h
  | b :: l, k, h => by
    rw [List.cons_append]
    unfold cutc
    by_cases hb : b = c
    · rw [if_pos hb, if_pos hb]
    · rw [if_neg hb, if_neg hb]
      simp only
      rw [cutc1_mem (l := l) k (by rcases List.mem_cons.1 h with h | h; exact absurd h.symm hb; exact h)]
theorem cutc1_no {c : UInt8} : ∀ {l : Tx} (k : Tx), c ∉ l → (cutc c (l ++ k)).1 = l ++ (cutc c k).1
  | [], k, _ => rfl
  | b :: l, k, h => by
    have hb : b ≠ c := fun e => h (by rw [e]; exact List.mem_cons_self)
    rw [List.cons_append]
    rw [cutc, if_neg hb]
    simp only
    rw [cutc1_no (l := l) k (fun e => h (List.mem_cons_of_mem _ e))]
    rfl
/-- a line with white signs around and a note behind -/
def deco (note l : Tx) : Tx := 9 :: 32 :: (l ++ (32 :: 59 :: note))
theorem trm_deco (note l : Tx) : trm (cutc 59 (deco note l)).1 = trm (cutc 59 l).1 := by
  have e : (cutc 59 (deco note l)).1 = 9 :: 32 :: (cutc 59 (l ++ (32 :: 59 :: note))).1 := by
    unfold deco
    rw [cutc, if_neg (by decide)]
    simp only
    rw [cutc, if_neg (by decide)]
  rw [e, trm_ahead (by decide), trm_ahead (by decide)]
  by_cases h : (59 : UInt8) ∈ l
  · rw [cutc1_mem _ h]
  · rw [cutc1_no _ h, cutc_no h]
    have e2 : (cutc 59 (32 :: 59 :: note)).1 = [32] := by
      rw [cutc, if_neg (by decide)]
      simp only
      rw [cutc, if_pos rfl]
    rw [e2]
    exact trm_behind (by decide) l
theorem tak_deco (note : Tx) (s : St) (l : Tx) (line : Int) : takF s (deco note l) line = takF s l line := by
  unfold takF
  rw [trm_deco]
theorem lns_deco (note : Tx) : ∀ (ls : List Tx) (s : St) (n : Nat), lnsF s n (ls.map (deco note)) = lnsF s n ls
  | [], s, n => rfl
  | l :: ls, s, n => by
    rw [List.map_cons, lns_cons, lns_cons, tak_deco]
    cases takF s l ((n + 1 : Nat) : Int) with
    | none => rfl
    | some s' => simp only [lns_deco note ls]
theorem asmL_deco (note : Tx) (ls : List Tx) : asmL (ls.map (deco note)) = asmL ls := by
  unfold asmL
  rw [lns_deco]

/-- lines, each with white signs and a note -/
def decT (note : Tx) : List Tx → Tx
  | [] => []
  | [l] => deco note l
  | l :: k :: ls => deco note l ++ 10 :: decT note (k :: ls)
theorem decT_cons (note l : Tx) {ls : List Tx} (h : ls ≠ []) : decT note (l :: ls) = deco note l ++ 10 :: decT note ls := by
  cases ls with
  | nil => exact absurd rfl h
  | cons k ls => rfl
theorem deco_no (note l : Tx) (hn : (10 : UInt8) ∉ note) (hl : (10 : UInt8) ∉ l) : (10 : UInt8) ∉ deco note l := by
  unfold deco
  intro h
  simp only [List.mem_cons, List.mem_append] at h
  rcases h with h | h | h | h | h | h
  · exact absurd h (by decide)
  · exact absurd h (by decide)
  · exact hl h
  · exact absurd h (by decide)
  · exact absurd h (by decide)
  · exact hn h
theorem spl_decT (note : Tx) (hn : (10 : UInt8) ∉ note) : ∀ (ls : List Tx), ls ≠ [] → (∀ l ∈ ls, (10 : UInt8) ∉ l) → spl 10 (decT note ls) = ls.map (deco note)
  | [], h, _ => absurd rfl h
  | [l], _, hl => by
    show spl 10 (deco note l) = _
    rw [spl_no (deco_no note l hn (hl l List.mem_cons_self))]
    rfl
  | l :: k :: ls, _, hl => by
    rw [decT_cons note l (by simp), spl_at _ (deco_no note l hn (hl l List.mem_cons_self)), spl_decT note hn (k :: ls) (by simp) (fun x hx => hl x (List.mem_cons_of_mem _ hx))]
    rfl
theorem spl_none (c : UInt8) : ∀ (t : Tx), ∀ p ∈ spl c t, c ∉ p
  | [], p, hp => by
    simp [spl] at hp
    subst hp
    simp
  | b :: t, p, hp => by
    unfold spl at hp
    have ih := spl_none c t
    split at hp
    · rcases List.mem_cons.1 hp with rfl | hp
      · simp
      · exact ih p hp
    · next hb =>
      cases hs : spl c t with
      | nil => exact absurd hs (spl_ne c t)
      | cons y ys =>
        rw [hs] at hp ih
        simp only [List.headD_cons, List.tail_cons] at hp
        rcases List.mem_cons.1 hp with rfl | hp
        · intro hm
          rcases List.mem_cons.1 hm with h | h
          · exact hb h.symm
          · exact ih y List.mem_cons_self h
        · exact ih p (List.mem_cons_of_mem _ hp)
theorem decT_len (note : Tx) : ∀ (t : Tx), (decT note (spl 10 t)).length ≤ t.length + (t.length + 1) * (note.length + 5)
  | [] => by
    show (deco note []).length ≤ _
    unfold deco
    simp
  | b :: t => by
    have ih := decT_len note t
    have e : (t.length + 1 + 1) * (note.length + 5) = (t.length + 1) * (note.length + 5) + (note.length + 5) := by rw [Nat.add_mul (t.length + 1) 1, Nat.one_mul]
    unfold spl
    split
    · rw [decT_cons note [] (spl_ne 10 t)]
      simp only [List.length_append, List.length_cons, deco, List.length_nil] at ih ⊢
      omega
    · cases hs : spl 10 t with
      | nil => exact absurd hs (spl_ne 10 t)
      | cons y ys =>
        rw [hs] at ih
        simp only [List.headD_cons, List.tail_cons]
        have e2 : (decT note ((b :: y) :: ys)).length = (decT note (y :: ys)).length + 1 := by
          cases ys with
          | nil => simp [decT, deco]
          | cons z ys =>
            have e1 := decT_cons note (b :: y) (ls := z :: ys) (by simp)
            have e2 := decT_cons note y (ls := z :: ys) (by simp)
            rw [e1, e2]
            simp only [deco, List.length_append, List.length_cons]
            omega
        rw [e2]
        simp only [List.length_cons] at ih ⊢
        omega
theorem decT_mem (note : Tx) : ∀ (ls : List Tx), ∀ c ∈ decT note ls, c ∈ note ∨ (∃ l ∈ ls, c ∈ l) ∨ c = 9 ∨ c = 32 ∨ c = 59 ∨ c = 10 := by
  have hd : ∀ (l : Tx), ∀ c ∈ deco note l, c ∈ note ∨ c ∈ l ∨ c = 9 ∨ c = 32 ∨ c = 59 := by
    intro l c h
    unfold deco at h
    simp only [List.mem_cons, List.mem_append] at h
    rcases h with h | h | h | h | h | h
    · exact .inr (.inr (.inl h))
    · exact .inr (.inr (.inr (.inl h)))
    · exact .inr (.inl h)
    · exact .inr (.inr (.inr (.inl h)))
    · exact .inr (.inr (.inr (.inr h)))
    · exact .inl h
  have hd2 : ∀ (l : Tx) (ls : List Tx), ∀ c ∈ deco note l, c ∈ note ∨ (∃ k ∈ l :: ls, c ∈ k) ∨ c = 9 ∨ c = 32 ∨ c = 59 ∨ c = 10 := by
    intro l ls c h
    rcases hd l c h with h | h | h | h | h
    · exact .inl h
    · exact .inr (.inl ⟨l, List.mem_cons_self, h⟩)
    · exact .inr (.inr (.inl h))
    · exact .inr (.inr (.inr (.inl h)))
    · exact .inr (.inr (.inr (.inr (.inl h))))
  intro ls
  induction ls with
  | nil => intro c h; simp [decT] at h
  | cons l ls ih =>
    intro c h
    by_cases hls : ls = []
    · subst hls
      exact hd2 l [] c h
    · rw [decT_cons note l hls] at h
      rcases List.mem_append.1 h with h | h
      · exact hd2 l ls c h
      · rcases List.mem_cons.1 h with h | h
        · exact .inr (.inr (.inr (.inr (.inr h))))
        · rcases ih c h with h | ⟨k, hk, h⟩ | h
          · exact .inl h
          · exact .inr (.inl ⟨k, List.mem_cons_of_mem _ hk, h⟩)
          · exact .inr (.inr h)
/-- a text whose lines have white signs and notes assembles to what the text does -/
theorem decT_le {note t : Tx} (hl : t.length ≤ 512) (hk : note.length ≤ 64) : (decT note (spl 10 t)).length ≤ 40000 := by
  have h1 := decT_len note t
  have h2 : (t.length + 1) * (note.length + 5) ≤ 513 * 69 := Nat.mul_le_mul (by omega) (by omega)
  omega
theorem asm_decT {note t : Tx} (hn : (10 : UInt8) ∉ note) (hl : t.length ≤ 512) (hk : note.length ≤ 64) : asmF (decT note (spl 10 t)) = asmF t := by
  have h1 := decT_le hl hk
  unfold asmF
  rw [if_neg (by omega : ¬ 65536 < (decT note (spl 10 t)).length), if_neg (by omega : ¬ 65536 < t.length), spl_decT note hn _ (spl_ne 10 t) (spl_none 10 t), asmL_deco]
theorem decT_okt {note t : Tx} (hn : Asc note) (ht : Asc t) (hl : t.length ≤ 512) (hk : note.length ≤ 64) : Asc (decT note (spl 10 t)) ∧ (decT note (spl 10 t)).length ≤ 100000 := by
  have h1 := decT_le hl hk
  refine ⟨fun c hc => ?_, by omega⟩
  rcases decT_mem note _ c hc with h | ⟨l, hl, h⟩ | rfl | rfl | rfl | rfl
  · exact hn c h
  · exact ht c (((spl_mem 10 t).1 l hl).1 c h)
  all_goals decide

end Go.Proofs.YtppkpfkoggnbmaaGreatDoor.Cs.Ka
