/- Numbers that are written down, and space: no program in sight. -/
import Derived.Test.YtppkpfkoggnbmaaGreatDoorKNt
import Derived.Test.YtppkpfkoggnbmaaGreatDoorGKas
namespace Go.Proofs.YtppkpfkoggnbmaaGreatDoor.Cs.Ka
open Go.RowKit Es
open Ia (sb)
set_option linter.unusedVariables false
set_option linter.unusedSimpArgs false

abbrev dd (x : Nat) : Tx := Lib.decDigits x
theorem dd_no (x : Nat) (c : UInt8) (h : ¬ (48 ≤ c.toNat ∧ c.toNat ≤ 57)) : c ∉ dd x := fun hm => h (dec_dig x c hm)
theorem dig_sp : ∀ n : Fin 256, (48 ≤ (UInt8.ofNat n.val).toNat ∧ (UInt8.ofNat n.val).toNat ≤ 57) → Lib.isSp (UInt8.ofNat n.val) = false := by decide +kernel
theorem dd_white (x : Nat) : ∀ c ∈ dd x, Lib.isSp c = false := fun c hc => by
  have h := dig_sp ⟨c.toNat, c.toNat_lt⟩
  simp only [u8_of] at h
  exact h (dec_dig x c hc)
theorem trm_dd (x : Nat) : trm (dd x) = dd x := trm_no (dd_white x)
/-- numbers as texts with something between -/
def jd (sep : Tx) : List Nat → Tx
  | [] => []
  | x :: xs => dd x ++ xs.flatMap fun y => sep ++ dd y
theorem jd_snoc (sep : Tx) (xs : List Nat) (x : Nat) : jd sep (xs ++ [x]) = if xs = [] then dd x else jd sep xs ++ (sep ++ dd x) := by
  cases xs with
  | nil => simp [jd]
  | cons y ys => simp [jd]
theorem trm_ah {w d : Tx} (hw : ∀ b ∈ w, Lib.isSp b = true) : trm (w ++ d) = trm d := by
  induction w with
  | nil => rfl
  | cons b w ih => rw [List.cons_append, trm_ahead (hw b List.mem_cons_self), ih (fun b hb => hw b (List.mem_cons_of_mem _ hb))]
theorem trm_be {d : Tx} : ∀ {w : Tx}, (∀ b ∈ w, Lib.isSp b = true) → trm (d ++ w) = trm d := by
  intro w
  induction w generalizing d with
  | nil => intro _; rw [List.append_nil]
  | cons b w ih =>
    intro hw
    rw [show d ++ b :: w = (d ++ [b]) ++ w by simp, ih (fun b hb => hw b (List.mem_cons_of_mem _ hb)), trm_behind (hw b List.mem_cons_self)]
theorem spl_sep {w1 w2 : Tx} (h1 : ∀ b ∈ w1, Lib.isSp b = true) (h2 : ∀ b ∈ w2, Lib.isSp b = true) : ∀ (xs : List Nat) (p : Tx), (44 : UInt8) ∉ p → (spl 44 (p ++ xs.flatMap fun y => (w1 ++ 44 :: w2) ++ dd y)).map trm = trm p :: xs.map dd
  | [], p, hp => by simp [spl_no hp]
  | x :: xs, p, hp => by
    have hw1 : (44 : UInt8) ∉ w1 := fun h => by have := h1 44 h; revert this; decide
    have hw2 : (44 : UInt8) ∉ w2 := fun h => by have := h2 44 h; revert this; decide
    have e : p ++ (x :: xs).flatMap (fun y => (w1 ++ 44 :: w2) ++ dd y) = (p ++ w1) ++ 44 :: ((w2 ++ dd x) ++ xs.flatMap fun y => (w1 ++ 44 :: w2) ++ dd y) := by simp
    rw [e, spl_at _ (by simp [hp, hw1]), List.map_cons, spl_sep h1 h2 xs (w2 ++ dd x) (by
      intro h
      rcases List.mem_append.1 h with h | h
      · exact hw2 h
      · exact dd_no x 44 (by decide) h), trm_be h1, trm_ah h2, trm_dd, List.map_cons]
theorem spl_jd {w1 w2 : Tx} (h1 : ∀ b ∈ w1, Lib.isSp b = true) (h2 : ∀ b ∈ w2, Lib.isSp b = true) (x : Nat) (xs : List Nat) : (spl 44 (jd (w1 ++ 44 :: w2) (x :: xs))).map trm = (x :: xs).map dd := by
  unfold jd
  rw [spl_sep h1 h2 xs (dd x) (dd_no x 44 (by decide)), trm_dd, List.map_cons]
theorem nums_dd (k : Nat) : ∀ (xs : List Nat) (ts : List Tx) (c : List Int), ts.map trm = xs.map dd → (∀ x ∈ xs, x < 4294967296) → numsF k c ts = some (c ++ xs.flatMap fun (x : Nat) => low (x : Int) k)
  | [], [], c, _, _ => by simp [numsF]
  | [], t :: ts, c, h, _ => by simp at h
  | x :: xs, [], c, h, _ => by simp at h
  | x :: xs, t :: ts, c, h, hx => by
    simp only [List.map_cons, List.cons.injEq] at h
    unfold numsF
    rw [h.1, numb_dec x (hx x List.mem_cons_self), if_pos rfl, nums_dd k xs ts _ h.2 (fun y hy => hx y (List.mem_cons_of_mem _ hy))]
    simp
/-- a line that begins with a directive -/
theorem tak_dir (s : St) (n rest : Tx) (line : Int) (hn : ([46] : Tx).isPrefixOf n = true) (h32 : (32 : UInt8) ∉ n) (hno : ∀ c ∈ n ++ 32 :: rest, c ≠ 58 ∧ c ≠ 59) (hl : ∀ b, (n ++ 32 :: rest).getLast? = some b → Lib.isSp b = false) :
    takF s (n ++ 32 :: rest) line = dirF s n rest := by
  obtain ⟨m, rfl⟩ : ∃ m, n = 46 :: m := by
    rw [List.isPrefixOf_iff_prefix] at hn
    obtain ⟨m, rfl⟩ := hn
    exact ⟨m, rfl⟩
  unfold takF
  rw [cutc_no (fun h => (hno 59 h).2 rfl), trm_ends (by intro b hb; simp at hb; subst hb; decide) hl]
  unfold linF
  rw [cutc_no (fun h => (hno 58 h).1 rfl), if_neg (by simp)]
  unfold bodF
  rw [if_neg (by simp), cutc_at _ h32]
  simp only
  rw [if_pos hn]
theorem jd_mem (sep : Tx) : ∀ (xs : List Nat), ∀ c ∈ jd sep xs, c ∈ sep ∨ (48 ≤ c.toNat ∧ c.toNat ≤ 57)
  | [], c, h => by simp [jd] at h
  | x :: xs, c, h => by
    unfold jd at h
    rcases List.mem_append.1 h with h | h
    · exact .inr (dec_dig x c h)
    · rw [List.mem_flatMap] at h
      obtain ⟨y, _, h⟩ := h
      rcases List.mem_append.1 h with h | h
      · exact .inl h
      · exact .inr (dec_dig y c h)
theorem dd_last (x : Nat) (l : Tx) : ∀ b, (l ++ dd x).getLast? = some b → Lib.isSp b = false := by
  intro b hb
  have hne := dec_ne x
  rw [List.getLast?_append] at hb
  have : (dd x).getLast? = some ((dd x).getLast hne) := List.getLast?_eq_some_getLast hne
  rw [this] at hb
  simp at hb
  subst hb
  exact dd_white x _ (List.getLast_mem hne)
theorem jd_last (sep l : Tx) (xs : List Nat) (h : xs ≠ []) : ∀ b, (l ++ jd sep xs).getLast? = some b → Lib.isSp b = false := by
  obtain ⟨ys, y, rfl⟩ : ∃ ys y, xs = ys ++ [y] := ⟨xs.dropLast, xs.getLast h, (List.dropLast_concat_getLast h).symm⟩
  intro b hb
  rw [jd_snoc] at hb
  split at hb
  · exact dd_last y l b hb
  · rw [← List.append_assoc, ← List.append_assoc] at hb
    exact dd_last y _ b hb
/-- separators -/
def sp1 : Tx := [44, 32]
def sp2 : Tx := [44]
def sp4 : Tx := [32, 44]
def dNm : Nat → Tx := fun k => if k = 1 then [46, 98, 121, 116, 101] else if k = 2 then [46, 119, 111, 114, 100] else [46, 108, 111, 110, 103]
theorem tak_nums (s : St) (k : Nat) (w1 w2 : Tx) (line : Int) (x : Nat) (xs : List Nat) (hk : k = 1 ∨ k = 2 ∨ k = 4) (h1 : w1 = [] ∨ w1 = [32]) (h2 : w2 = [] ∨ w2 = [32]) (hx : ∀ y ∈ x :: xs, y < 4294967296) :
    takF s (dNm k ++ 32 :: jd (w1 ++ 44 :: w2) (x :: xs)) line = some ⟨s.code ++ (x :: xs).flatMap (fun (y : Nat) => low (y : Int) k), s.pl, s.gp⟩ := by
  have g1 : ∀ b ∈ w1, b = 32 := by rcases h1 with rfl | rfl <;> simp
  have g2 : ∀ b ∈ w2, b = 32 := by rcases h2 with rfl | rfl <;> simp
  have hm := jd_mem (w1 ++ 44 :: w2) (x :: xs)
  rw [tak_dir]
  · unfold dirF
    have hsz : dsz (dNm k) = k := by rcases hk with rfl | rfl | rfl <;> decide
    rw [if_neg (by rcases hk with rfl | rfl | rfl <;> decide), hsz, if_neg (by omega), nums_dd k (x :: xs) _ _ (spl_jd (fun b hb => by rw [g1 b hb]; decide) (fun b hb => by rw [g2 b hb]; decide) x xs) hx]
    rfl
  · rcases hk with rfl | rfl | rfl <;> decide
  · rcases hk with rfl | rfl | rfl <;> decide
  · intro c hc
    rcases List.mem_append.1 hc with hc | hc
    · have : ∀ b ∈ dNm k, b ≠ 58 ∧ b ≠ 59 := by rcases hk with rfl | rfl | rfl <;> decide
      exact this c hc
    · rcases List.mem_cons.1 hc with rfl | hc
      · decide
      · rcases hm c hc with h | h
        · rcases List.mem_append.1 h with h | h
          · rw [g1 c h]; decide
          · rcases List.mem_cons.1 h with rfl | h
            · decide
            · rw [g2 c h]; decide
        · constructor <;> (rintro rfl; exact absurd h (by decide))
  · rw [show dNm k ++ 32 :: jd (w1 ++ 44 :: w2) (x :: xs) = (dNm k ++ [32]) ++ jd (w1 ++ 44 :: w2) (x :: xs) by simp]
    exact jd_last _ _ _ (by simp)
def spN : Tx := [46, 115, 112, 97, 99, 101]
theorem tak_space (s : St) (n : Nat) (line : Int) (hn : n ≤ 4096) : takF s (spN ++ 32 :: dd n) line = some ⟨s.code ++ List.replicate n 0, s.pl, s.gp⟩ := by
  rw [tak_dir]
  · unfold dirF spcF
    split
    · rw [trm_dd, numb_dec n (by omega), if_pos ⟨rfl, by simp only; omega⟩]
      simp [wcode]
    · next h => exact absurd rfl h
  · decide
  · decide
  · intro c hc
    rcases List.mem_append.1 hc with hc | hc
    · have : ∀ b ∈ spN, b ≠ 58 ∧ b ≠ 59 := by decide
      exact this c hc
    · rcases List.mem_cons.1 hc with rfl | hc
      · decide
      · have h := dec_dig n c hc
        constructor <;> (rintro rfl; exact absurd h (by decide))
  · rw [show spN ++ 32 :: dd n = (spN ++ [32]) ++ dd n by simp]
    exact dd_last n _
theorem ddn_len (x : Nat) (h : x < 4294967296) : (dd x).length ≤ 21 := by
  have := Lib.itoa_length_le (x : Int) (by omega) (by omega)
  unfold Lib.itoa at this
  rw [if_neg (by omega)] at this
  simpa using this
theorem jd_len (sep : Tx) (hs : sep.length ≤ 2) : ∀ (xs : List Nat), (∀ x ∈ xs, x < 4294967296) → (jd sep xs).length ≤ 23 * xs.length
  | [], _ => by simp [jd]
  | x :: xs, h => by
    have h1 := ddn_len x (h x List.mem_cons_self)
    have h2 : ∀ ys : List Nat, (∀ x ∈ ys, x < 4294967296) → (ys.flatMap fun y => sep ++ dd y).length ≤ 23 * ys.length := by
      intro ys
      induction ys with
      | nil => intro _; simp
      | cons y ys ih =>
        intro h
        have h1 := ddn_len y (h y List.mem_cons_self)
        have h2 := ih (fun x hx => h x (List.mem_cons_of_mem _ hx))
        simp only [List.flatMap_cons, List.length_append, List.length_cons] at h2 ⊢
        omega
    have h3 := h2 xs (fun y hy => h y (List.mem_cons_of_mem _ hy))
    unfold jd
    simp only [List.length_append, List.length_cons] at h3 ⊢
    omega
theorem low_flat_len (k : Nat) (xs : List Nat) : (xs.flatMap fun (y : Nat) => low (y : Int) k).length = k * xs.length := by
  induction xs with
  | nil => simp
  | cons x xs ih => simp only [List.flatMap_cons, List.length_append, low_length, ih, List.length_cons, Nat.mul_add]; omega
/-- the text of AsmData -/
def datT (xs : List Nat) (n : Nat) : Tx := (dNm 1 ++ 32 :: jd sp1 xs) ++ 10 :: ((dNm 2 ++ 32 :: jd sp2 xs) ++ 10 :: ((dNm 4 ++ 32 :: jd sp4 xs) ++ 10 :: (spN ++ 32 :: dd n)))
def datC (xs : List Nat) (n : Nat) : List Int := ((xs.flatMap (fun (y : Nat) => low (y : Int) 1) ++ xs.flatMap (fun (y : Nat) => low (y : Int) 2)) ++ xs.flatMap (fun (y : Nat) => low (y : Int) 4)) ++ List.replicate n 0
theorem dat_mem (sep : Tx) (hs : ∀ c ∈ sep, c = 44 ∨ c = 32) (n : Tx) (hn : ∀ c ∈ n, c ≠ 10 ∧ c.toNat < 128) (xs : List Nat) : ∀ c ∈ n ++ 32 :: jd sep xs, c ≠ 10 ∧ c.toNat < 128 := by
  intro c hc
  rcases List.mem_append.1 hc with hc | hc
  · exact hn c hc
  · rcases List.mem_cons.1 hc with rfl | hc
    · decide
    · rcases jd_mem sep xs c hc with h | h
      · rcases hs c h with rfl | rfl <;> decide
      · exact ⟨by rintro rfl; exact absurd h (by decide), by omega⟩
theorem asm_dat {xs : List Nat} {n : Nat} (h0 : xs ≠ []) (hl : xs.length ≤ 60) (hx : ∀ y ∈ xs, y < 4294967296) (hn : n ≤ 4096) :
    asmF (datT xs n) = (datC xs n, 0, 0) ∧ Asc (datT xs n) ∧ (datT xs n).length ≤ 100000 := by
  obtain ⟨x, xs, rfl⟩ := List.exists_cons_of_ne_nil h0
  have m1 := dat_mem sp1 (by decide) (dNm 1) (by decide) (x :: xs)
  have m2 := dat_mem sp2 (by decide) (dNm 2) (by decide) (x :: xs)
  have m4 := dat_mem sp4 (by decide) (dNm 4) (by decide) (x :: xs)
  have mn : ∀ c ∈ spN ++ 32 :: dd n, c ≠ 10 ∧ c.toNat < 128 := by
    intro c hc
    rcases List.mem_append.1 hc with hc | hc
    · have : ∀ b ∈ spN, b ≠ 10 ∧ b.toNat < 128 := by decide
      exact this c hc
    · rcases List.mem_cons.1 hc with rfl | hc
      · decide
      · have h := dec_dig n c hc
        exact ⟨by rintro rfl; exact absurd h (by decide), by omega⟩
  have t1 := fun s line => tak_nums s 1 [] [32] line x xs (.inl rfl) (.inl rfl) (.inr rfl) hx
  have t2 := fun s line => tak_nums s 2 [] [] line x xs (.inr (.inl rfl)) (.inl rfl) (.inl rfl) hx
  have t4 := fun s line => tak_nums s 4 [32] [] line x xs (.inr (.inr rfl)) (.inr rfl) (.inl rfl) hx
  have e1 := jd_len sp1 (by decide) (x :: xs) hx
  have e2 := jd_len sp2 (by decide) (x :: xs) hx
  have e4 := jd_len sp4 (by decide) (x :: xs) hx
  have en := ddn_len n (by omega)
  have c1 := low_flat_len 1 (x :: xs)
  have c2 := low_flat_len 2 (x :: xs)
  have c4 := low_flat_len 4 (x :: xs)
  have hlen : (datT (x :: xs) n).length ≤ 5000 := by
    unfold datT
    have d1 : (dNm 1).length = 5 := rfl
    have d2 : (dNm 2).length = 5 := rfl
    have d4 : (dNm 4).length = 5 := rfl
    have ds : spN.length = 6 := rfl
    simp only [List.length_append, List.length_cons] at *
    omega
  refine ⟨?_, ?_, by omega⟩
  · have hs : spl 10 (datT (x :: xs) n) = [dNm 1 ++ 32 :: jd sp1 (x :: xs), dNm 2 ++ 32 :: jd sp2 (x :: xs), dNm 4 ++ 32 :: jd sp4 (x :: xs), spN ++ 32 :: dd n] := by
      unfold datT
      rw [spl_at _ (fun h => (m1 10 h).1 rfl), spl_at _ (fun h => (m2 10 h).1 rfl), spl_at _ (fun h => (m4 10 h).1 rfl), spl_no (fun h => (mn 10 h).1 rfl)]
    unfold asmF
    rw [if_neg (by omega), hs]
    have hl : lnsF ⟨[], [], []⟩ 0 [dNm 1 ++ 32 :: jd sp1 (x :: xs), dNm 2 ++ 32 :: jd sp2 (x :: xs), dNm 4 ++ 32 :: jd sp4 (x :: xs), spN ++ 32 :: dd n] = (⟨datC (x :: xs) n, [], []⟩, 0) := by
      have f1 : takF ⟨[], [], []⟩ (dNm 1 ++ 32 :: jd sp1 (x :: xs)) ((0 + 1 : Nat) : Int) = _ := t1 _ _
      rw [lns_cons, f1]
      simp only [List.nil_append]
      rw [if_neg (by simp only [c1]; simp only [List.length_cons] at *; omega)]
      have f2 : ∀ s line, takF s (dNm 2 ++ 32 :: jd sp2 (x :: xs)) line = _ := fun s line => t2 s line
      rw [lns_cons, f2]
      simp only
      rw [if_neg (by simp only [List.length_append, c1, c2]; simp only [List.length_cons] at *; omega)]
      have f4 : ∀ s line, takF s (dNm 4 ++ 32 :: jd sp4 (x :: xs)) line = _ := fun s line => t4 s line
      rw [lns_cons, f4]
      simp only
      rw [if_neg (by simp only [List.length_append, c1, c2, c4]; simp only [List.length_cons] at *; omega)]
      rw [lns_cons, tak_space _ n _ hn]
      simp only
      rw [if_neg (by simp only [List.length_append, c1, c2, c4, List.length_replicate]; simp only [List.length_cons] at *; omega)]
      rfl
    unfold asmL
    rw [hl]
    simp [gpsF]
  · intro c hc
    unfold datT at hc
    rcases List.mem_append.1 hc with hc | hc
    · exact (m1 c hc).2
    · rcases List.mem_cons.1 hc with rfl | hc
      · decide
      · rcases List.mem_append.1 hc with hc | hc
        · exact (m2 c hc).2
        · rcases List.mem_cons.1 hc with rfl | hc
          · decide
          · rcases List.mem_append.1 hc with hc | hc
            · exact (m4 c hc).2
            · rcases List.mem_cons.1 hc with rfl | hc
              · decide
              · exact (mn c hc).2

/-! ### long texts -/
theorem spl_lf : ∀ n : Nat, spl 10 (List.replicate n 10) = List.replicate (n + 1) []
  | 0 => rfl
  | n + 1 => by
    rw [List.replicate_succ, spl, if_pos rfl, spl_lf n]
    rfl
theorem tak_nil (s : St) (line : Int) : takF s [] line = some s := rfl
theorem lns_nil (s : St) (h : s.code.length ≤ 65536) : ∀ (m n : Nat), lnsF s n (List.replicate m []) = (s, 0)
  | 0, n => rfl
  | m + 1, n => by
    rw [List.replicate_succ, lns_cons, tak_nil]
    simp only
    rw [if_neg (by omega)]
    exact lns_nil s h m (n + 1)
theorem asm_lf (n : Nat) : asmF (List.replicate n 10) = ([], 0, if 65536 < n then 3 else 0) := by
  unfold asmF
  rw [List.length_replicate]
  by_cases h : 65536 < n
  · rw [if_pos h, if_pos h]
  · rw [if_neg h, if_neg h, spl_lf]
    unfold asmL
    rw [lns_nil _ (by simp)]
    simp [gpsF]
def spL : Tx := [46, 115, 112, 97, 99, 101, 32, 52, 48, 57, 54]
theorem dd4096 : dd 4096 = [52, 48, 57, 54] := by simp [dd, Lib.decDigits]
theorem spL_eq : spL = spN ++ 32 :: dd 4096 := by rw [dd4096]; rfl
theorem spl_rep (R : Tx) : ∀ m : Nat, spl 10 ((List.replicate m (spL ++ [10])).flatten ++ R) = List.replicate m spL ++ spl 10 R
  | 0 => by simp
  | m + 1 => by
    rw [List.replicate_succ, List.flatten_cons, show spL ++ [10] ++ (List.replicate m (spL ++ [10])).flatten ++ R = spL ++ 10 :: ((List.replicate m (spL ++ [10])).flatten ++ R) by simp, spl_at _ (by decide), spl_rep R m]
    rfl
theorem zer_app (c n : Nat) : List.replicate c (0 : Int) ++ List.replicate n 0 = List.replicate (c + n) 0 := List.replicate_append_replicate
theorem lns_rep (ls : List Tx) (q : Nat) (hq : q = 4096) : ∀ (m : Nat) (c : Nat) (n : Nat), c + q * m ≤ 65536 → lnsF ⟨List.replicate c 0, [], []⟩ n (List.replicate m spL ++ ls) = lnsF ⟨List.replicate (c + q * m) 0, [], []⟩ (n + m) ls
  | 0, c, n, _ => by simp
  | m + 1, c, n, h => by
    have hq1 : q * (m + 1) = q * m + q := by rw [Nat.mul_add, Nat.mul_one]
    have ht : ∀ s line, takF s spL line = some ⟨s.code ++ List.replicate q 0, s.pl, s.gp⟩ := fun s line => by rw [spL_eq, hq]; exact tak_space s 4096 line (by omega)
    rw [List.replicate_succ, List.cons_append, lns_cons, ht]
    simp only
    rw [zer_app, if_neg (by rw [List.length_replicate]; omega), lns_rep ls q hq m (c + q) (n + 1) (by omega)]
    rw [show c + q + q * m = c + q * (m + 1) by omega, show n + 1 + m = n + (m + 1) by omega]
/-- sixteen lines of space, and one more -/
def lngT (j : Nat) : Tx := (List.replicate 16 (spL ++ [10])).flatten ++ (spN ++ 32 :: dd j)
theorem asm_lng (j : Nat) (hj : j ≤ 9) : asmF (lngT j) = (if 0 < j then ([], 17, 60) else (List.replicate 65536 0, 0, 0)) ∧ Asc (lngT j) ∧ (lngT j).length ≤ 100000 := by
  have hd : dd j = [UInt8.ofNat (48 + j)] := Lib.decDigits_one (by omega)
  have hR : (10 : UInt8) ∉ spN ++ 32 :: dd j := by
    intro h
    rcases List.mem_append.1 h with h | h
    · revert h; decide
    · rcases List.mem_cons.1 h with h | h
      · revert h; decide
      · exact dd_no j 10 (by decide) h
  have hfl : ((List.replicate 16 (spL ++ [10])).flatten).length = 192 := by kernel_rfl
  have hlen : (lngT j).length = 200 := by
    unfold lngT
    rw [List.length_append, hfl, hd]
    rfl
  refine ⟨?_, ?_, by omega⟩
  · unfold asmF
    rw [if_neg (by omega)]
    have hs : spl 10 (lngT j) = List.replicate 16 spL ++ [spN ++ 32 :: dd j] := by
      unfold lngT
      rw [spl_rep, spl_no hR]
    have hl : lnsF ⟨[], [], []⟩ 0 (List.replicate 16 spL ++ [spN ++ 32 :: dd j]) = if 0 < j then (⟨List.replicate 65536 0, [], []⟩, 17) else (⟨List.replicate 65536 0, [], []⟩, 0) := by
      have h1 := lns_rep [spN ++ 32 :: dd j] 4096 rfl 16 0 0 (by omega)
      rw [List.replicate_zero] at h1
      rw [h1, show 0 + 4096 * 16 = 65536 by omega, lns_cons, tak_space _ _ _ (by omega)]
      simp only [List.length_append, List.length_replicate]
      by_cases h0 : 0 < j
      · rw [if_pos (by omega), if_pos h0]
      · obtain rfl : j = 0 := by omega
        rw [if_neg (by omega), if_neg (by omega), List.replicate_zero, List.append_nil]
        rfl
    rw [hs]
    unfold asmL
    rw [hl]
    by_cases h0 : 0 < j
    · rw [if_pos h0, if_pos h0]
      rfl
    · rw [if_neg h0, if_neg h0]
      rfl
  · intro c hc
    unfold lngT at hc
    rcases List.mem_append.1 hc with hc | hc
    · have : ∀ b ∈ (List.replicate 16 (spL ++ [10])).flatten, b.toNat < 128 := by
        intro b hb
        rw [List.mem_flatten] at hb
        obtain ⟨l, hl, hb⟩ := hb
        rw [List.eq_of_mem_replicate hl] at hb
        revert b
        decide
      exact this c hc
    · rcases List.mem_append.1 hc with hc | hc
      · have : ∀ b ∈ spN, b.toNat < 128 := by decide
        exact this c hc
      · rcases List.mem_cons.1 hc with rfl | hc
        · decide
        · have := dec_dig j c hc
          omega

end Go.Proofs.YtppkpfkoggnbmaaGreatDoor.Cs.Ka
