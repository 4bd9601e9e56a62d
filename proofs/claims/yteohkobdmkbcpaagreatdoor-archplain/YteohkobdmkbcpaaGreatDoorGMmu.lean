import Derived.Test.YteohkobdmkbcpaaGreatDoorGRam
import Derived.Test.YteohkobdmkbcpaaGreatDoorGPte
import Derived.Test.YteohkobdmkbcpaaGreatDoorGTlb
import Derived.WalkKit
import Derived.WalkLawsBesides
import Derived.Outline
import Derived.Handy
import Derived.OpenShut

/- Addresses, tables and accesses, as numbers and lists: no program is in sight. -/
namespace Go.Proofs.YteohkobdmkbcpaaGreatDoor.Mm
open Go.RowKit

abbrev U := Pt.U
abbrev Rows := Tl.Rows
/-- The tables. -/
structure Tabs where
  pb : Int
  pn : Int
  sb : Int
  sn : Int
  me : Int
def Tabs.Ok (t : Tabs) : Prop := U t.pb ∧ U t.pn ∧ U t.sb ∧ U t.sn ∧ U t.me
def noTabs : Tabs := ⟨0, 0, 0, 0, 0⟩
theorem noTabs_ok : noTabs.Ok := by simp [Tabs.Ok, noTabs, U, Pt.U]

/-- The page in its table; where its entry stands; is there a table so long. -/
def tpg (va : Int) : Int := va / 512 % 2097152
def sys (va : Int) : Bool := va / 2147483648 % 2 == 1
def epl (t : Tabs) (va : Int) : Int := ((if sys va then t.sb else t.pb) + 4 * tpg va) % 4294967296
def ein (t : Tabs) (va : Int) : Bool := va / 1073741824 % 2 == 0 && decide (tpg va < (if sys va then t.sn else t.pn))
theorem epl_U (t : Tabs) (va : Int) : U (epl t va) := by unfold epl U Pt.U; omega

/-- What is found: a number, or a fault's kind and info. -/
inductive Fnd where
  | ok (x : Int)
  | bad (k i : Int)
def inf (i : Int) (wr : Bool) : Int := i + if wr then 4 else 0
def rdE (t : Tabs) (xs : List Int) (va : Int) (wr : Bool) : Fnd :=
  if ein t va then (if epl t va + 4 ≤ xs.length then .ok (Rm.val xs (epl t va).toNat 4) else .bad 1 (inf 0 wr)) else .bad 2 (inf 1 wr)
def useE (x : Int) (u wr : Bool) : Fnd := if Pt.my x u wr then (if Pt.iv x then .ok x else .bad 3 (inf 0 wr)) else .bad 2 (inf 0 wr)
def getE (t : Tabs) (xs : List Int) (rows : Rows) (va : Int) (wr : Bool) : Fnd := if Tl.hav rows (va / 512) then .ok (Tl.ent rows (va / 512)) else rdE t xs va wr
def enE (t : Tabs) (xs : List Int) (rows : Rows) (va : Int) (u wr : Bool) : Fnd :=
  match getE t xs rows va wr with
  | .ok x => useE x u wr
  | .bad k i => .bad k i
def enR (t : Tabs) (xs : List Int) (rows : Rows) (va : Int) (u wr keep : Bool) : Rows :=
  match enE t xs rows va u wr with
  | .ok x => if !Tl.hav rows (va / 512) && keep then Tl.putR rows (va / 512) x else rows
  | .bad _ _ => rows
def fitE (xs : List Int) (a n : Int) (wr : Bool) : Fnd := if a + n ≤ xs.length then .ok a else .bad 1 (inf 0 wr)
def plE (t : Tabs) (xs : List Int) (rows : Rows) (va n : Int) (u wr : Bool) : Fnd :=
  if t.me = 0 then fitE xs va n wr else
  match enE t xs rows va u wr with
  | .ok x => fitE xs (Pt.pl x va) n wr
  | .bad k i => .bad k i
def plR (t : Tabs) (xs : List Int) (rows : Rows) (va : Int) (u wr keep : Bool) : Rows := if t.me = 0 then rows else enR t xs rows va u wr keep

theorem inf_U (i : Int) (wr : Bool) (h : 0 ≤ i) (h' : i ≤ 1) : U (inf i wr) := by cases wr <;> simp [inf, U, Pt.U] <;> omega
theorem rdE_ok {t : Tabs} {xs : List Int} {va x : Int} {wr : Bool} (hb : Rm.Byt xs) (h : rdE t xs va wr = .ok x) : ein t va = true ∧ epl t va + 4 ≤ xs.length ∧ x = Rm.val xs (epl t va).toNat 4 ∧ U x := by
  unfold rdE at h
  split at h
  · rename_i h1
    split at h
    · rename_i h2
      injection h with h
      refine ⟨h1, h2, h.symm, ?_⟩
      have := Rm.val_bound xs (epl t va).toNat hb 4 (by have := (epl_U t va).1; omega)
      rw [← h]
      exact this
    · cases h
  · cases h
theorem useE_ok {x y : Int} {u wr : Bool} (h : useE x u wr = .ok y) : y = x ∧ Pt.my x u wr = true ∧ Pt.iv x = true := by
  unfold useE at h
  split at h
  · rename_i h1
    split at h
    · rename_i h2; injection h with h; exact ⟨h.symm, h1, h2⟩
    · cases h
  · cases h
theorem ent_U {rows : Rows} (h : Tl.Fit rows) (p : Int) : U (Tl.ent rows p) := (Tl.row_wf h _).2
theorem getE_U {t : Tabs} {xs : List Int} {rows : Rows} {va x : Int} {wr : Bool} (hb : Rm.Byt xs) (hf : Tl.Fit rows) (h : getE t xs rows va wr = .ok x) : U x := by
  unfold getE at h
  split at h
  · injection h with h; rw [← h]; exact ent_U hf _
  · exact (rdE_ok hb h).2.2.2
theorem enE_U {t : Tabs} {xs : List Int} {rows : Rows} {va x : Int} {u wr : Bool} (hb : Rm.Byt xs) (hf : Tl.Fit rows) (h : enE t xs rows va u wr = .ok x) : U x := by
  unfold enE at h
  split at h
  · rename_i y e
    obtain ⟨rfl, _, _⟩ := useE_ok h
    exact getE_U hb hf e
  · cases h
theorem page_U {va : Int} (h : U va) : 0 ≤ va / 512 ∧ va / 512 < 4294967296 := by obtain ⟨h0, h1⟩ := h; omega
theorem enR_fit {t : Tabs} {xs : List Int} {rows : Rows} {va : Int} {u wr keep : Bool} (hv : U va) (hb : Rm.Byt xs) (hf : Tl.Fit rows) : Tl.Fit (enR t xs rows va u wr keep) := by
  unfold enR
  split
  · rename_i x e
    split
    · exact hf.put (page_U hv) (enE_U hb hf e)
    · exact hf
  · exact hf
theorem plR_fit {t : Tabs} {xs : List Int} {rows : Rows} {va : Int} {u wr keep : Bool} (hv : U va) (hb : Rm.Byt xs) (hf : Tl.Fit rows) : Tl.Fit (plR t xs rows va u wr keep) := by
  unfold plR
  split
  · exact hf
  · exact enR_fit hv hb hf
theorem plE_ok {t : Tabs} {xs : List Int} {rows : Rows} {va n a : Int} {u wr : Bool} (hv : U va) (h : plE t xs rows va n u wr = .ok a) : a + n ≤ xs.length ∧ U a := by
  have key : ∀ {b : Int}, U b → fitE xs b n wr = .ok a → a + n ≤ xs.length ∧ U a := by
    intro b hb h
    unfold fitE at h
    split at h
    · rename_i h1; injection h with h; subst h; exact ⟨h1, hb⟩
    · cases h
  unfold plE at h
  split at h
  · exact key hv h
  · split at h
    · exact key (Pt.pl_U _ _) h
    · cases h
/-- A fault's kind is none but these. -/
def Kd (k i : Int) : Prop := (k = 1 ∨ k = 2 ∨ k = 3) ∧ 0 ≤ i ∧ i ≤ 5
theorem inf_kd {k i : Int} {wr : Bool} (hk : k = 1 ∨ k = 2 ∨ k = 3) (h : 0 ≤ i) (h' : i ≤ 1) : Kd k (inf i wr) := ⟨hk, by cases wr <;> simp [inf] <;> omega⟩
theorem rdE_bad {t : Tabs} {xs : List Int} {va k i : Int} {wr : Bool} (h : rdE t xs va wr = .bad k i) : Kd k i := by
  unfold rdE at h
  split at h
  · split at h
    · cases h
    · injection h with h1 h2; subst h1 h2; exact inf_kd (by simp) (by omega) (by omega)
  · injection h with h1 h2; subst h1 h2; exact inf_kd (by simp) (by omega) (by omega)
theorem useE_bad {x k i : Int} {u wr : Bool} (h : useE x u wr = .bad k i) : Kd k i := by
  unfold useE at h
  split at h
  · split at h
    · cases h
    · injection h with h1 h2; subst h1 h2; exact inf_kd (by simp) (by omega) (by omega)
  · injection h with h1 h2; subst h1 h2; exact inf_kd (by simp) (by omega) (by omega)
theorem enE_bad {t : Tabs} {xs : List Int} {rows : Rows} {va k i : Int} {u wr : Bool} (h : enE t xs rows va u wr = .bad k i) : Kd k i := by
  unfold enE getE at h
  split at h
  · exact useE_bad h
  · rename_i e
    injection h with h1 h2
    subst h1 h2
    split at e
    · cases e
    · exact rdE_bad e
theorem fitE_bad {xs : List Int} {a n k i : Int} {wr : Bool} (h : fitE xs a n wr = .bad k i) : Kd k i := by
  unfold fitE at h
  split at h
  · cases h
  · injection h with h1 h2; subst h1 h2; exact inf_kd (by simp) (by omega) (by omega)
theorem plE_bad {t : Tabs} {xs : List Int} {rows : Rows} {va n k i : Int} {u wr : Bool} (h : plE t xs rows va n u wr = .bad k i) : Kd k i := by
  unfold plE at h
  split at h
  · exact fitE_bad h
  · split at h
    · exact fitE_bad h
    · rename_i e; injection h with h1 h2; subst h1 h2; exact enE_bad e

/-- Bytes of one page: their first address, where it lies, how many. -/
structure Run where
  va : Int
  pa : Int
  n : Nat
inductive Acc where
  | ok (l : List Run)
  | bad (k va i : Int)
def cnt (va : Int) (n : Nat) : Nat := min n (512 - (va % 512).toNat)
theorem cnt_le (va : Int) (n : Nat) : cnt va n ≤ n := Nat.min_le_left _ _
theorem cnt_pos (va : Int) (n : Nat) (h : n ≠ 0) : 0 < cnt va n := by unfold cnt; omega
def nxt (va : Int) (n : Nat) : Int := (va + cnt va n) % 4294967296
theorem nxt_U (va : Int) (n : Nat) : U (nxt va n) := by unfold nxt U Pt.U; omega
/-- An access, page by page, up to the first fault; what is buffered behind it. -/
def walk (t : Tabs) (xs : List Int) (u wr keep : Bool) (rows : Rows) (acc : List Run) (va : Int) (n : Nat) : Acc × Rows :=
  if _h : n = 0 then (.ok acc, rows) else
  match plE t xs rows va (cnt va n) u wr with
  | .bad k i => (.bad k va i, plR t xs rows va u wr keep)
  | .ok a => walk t xs u wr keep (plR t xs rows va u wr keep) (acc ++ [⟨va, a, cnt va n⟩]) (nxt va n) (n - cnt va n)
  termination_by n
  decreasing_by have := cnt_pos va n _h; omega
theorem walk_end {t : Tabs} {xs : List Int} {u wr keep : Bool} {rows : Rows} {acc : List Run} {va : Int} : walk t xs u wr keep rows acc va 0 = (.ok acc, rows) := by rw [walk]; simp
theorem walk_bad {t : Tabs} {xs : List Int} {u wr keep : Bool} {rows : Rows} {acc : List Run} {va k i : Int} {n : Nat} (hn : n ≠ 0) (h : plE t xs rows va (cnt va n) u wr = .bad k i) : walk t xs u wr keep rows acc va n = (.bad k va i, plR t xs rows va u wr keep) := by
  rw [walk]; simp [hn, h]
theorem walk_ok {t : Tabs} {xs : List Int} {u wr keep : Bool} {rows : Rows} {acc : List Run} {va a : Int} {n : Nat} (hn : n ≠ 0) (h : plE t xs rows va (cnt va n) u wr = .ok a) :
    walk t xs u wr keep rows acc va n = walk t xs u wr keep (plR t xs rows va u wr keep) (acc ++ [⟨va, a, cnt va n⟩]) (nxt va n) (n - cnt va n) := by
  rw [walk]; simp [hn, h]

end Go.Proofs.YteohkobdmkbcpaaGreatDoor.Mm

/- A memory behind page tables, as it lies in the model's world. No program is walked here. -/
namespace Go.Proofs.YteohkobdmkbcpaaGreatDoor.Mm
open Go.RowKit

/-- Block k has this type. -/
def Typ (w : World) (k : Nat) (ty : TypeId) : Prop := ∃ cs fr, w.heap[k]? = some (.cells cs ty fr)
theorem Typ.ne {w : World} {k : Nat} {a b : TypeId} (h : Typ w k a) (h' : Typ w k b) : a = b := by
  obtain ⟨cs, fr, e⟩ := h
  obtain ⟨cs', fr', e'⟩ := h'
  have := e.symm.trans e'
  injection this with this
  injection this
theorem own_typ {w : World} {v : Value} {e k n : Nat} {cs : List Value} (h : w.ownsRow 0 e k v n cs) {i : Nat} (hi : Tl.Bl v i) : Typ w i e := by
  obtain ⟨h1, ⟨rfl, _⟩ | ⟨r, cap, cur, rfl, _, hh, _⟩⟩ := h
  · simp [Tl.Bl, Value.ownBlock] at hi
  · simp only [Tl.Bl, Value.ownBlock, Option.some.injEq] at hi
    subst hi
    exact ⟨_, _, hh⟩
theorem tb_typ {w : World} {g : Nat} {S : Nat → Prop} {rows : Rows} (h : Tl.Tb w g S rows) {k : Nat} (hk : S k) : Typ w k 159 ∨ Typ w k 230 := by
  obtain ⟨v, hb, hr, hS⟩ := h.ex
  rcases (hS k).1 hk with rfl | hk
  · exact .inl ⟨_, _, hb⟩
  · exact .inr (own_typ hr hk)



theorem tb_not {w : World} {g : Nat} {S : Nat → Prop} {rows : Rows} (h : Tl.Tb w g S rows) {k : Nat} {ty : TypeId} (hk : Typ w k ty) (h1 : ty ≠ 159) (h2 : ty ≠ 230) : ¬ S k := fun e => by
  rcases tb_typ h e with e | e
  · exact h1 (hk.ne e)
  · exact h2 (hk.ne e)



/-- Tables as cells. -/
def tcs (t : Tabs) : List Value := [.int .u32 t.pb, .int .u32 t.pn, .int .u32 t.sb, .int .u32 t.sn, .int .u32 t.me]
def tv (t : Tabs) : Value := .agg #[.int .u32 t.pb, .int .u32 t.pn, .int .u32 t.sb, .int .u32 t.sn, .int .u32 t.me]

/-- Block g is an Mmu over the memory in block rg, its buffer in block tg, made of the blocks S. -/
structure Mx (w : World) (g rg tg : Nat) (S : Nat → Prop) (t : Tabs) (rows : Rows) : Prop where
  box : w.heap[g]? = some (.cells #[.pointer (some ⟨rg, 0, none⟩), .int .u32 t.pb, .int .u32 t.pn, .int .u32 t.sb, .int .u32 t.sn, .int .u32 t.me, .pointer (some ⟨tg, 0, none⟩)] 96 (0, 0))
  tb : Tl.Tb w tg S rows
  ok : t.Ok
section
variable {w w' : World} {g rg tg : Nat} {S S' T : Nat → Prop} {t : Tabs} {rows rows' : Rows}
theorem Mx.glt (h : Mx w g rg tg S t rows) : g < w.heap.size := Tl.lt_of_heap h.box
theorem Mx.typ (h : Mx w g rg tg S t rows) : Typ w g 96 := ⟨_, _, h.box⟩
theorem Mx.not (h : Mx w g rg tg S t rows) : ¬ S g := tb_not h.tb h.typ (by decide) (by decide)
theorem Mx.c0 (h : Mx w g rg tg S t rows) : w.cell? ⟨g, 0, none⟩ = some (.pointer (some ⟨rg, 0, none⟩)) := by rw [cell_of_row w g 0 _ _ _ h.box]; rfl
theorem Mx.c1 (h : Mx w g rg tg S t rows) : w.cell? ⟨g, 1, none⟩ = some (.int .u32 t.pb) := by rw [cell_of_row w g 1 _ _ _ h.box]; rfl
theorem Mx.c2 (h : Mx w g rg tg S t rows) : w.cell? ⟨g, 2, none⟩ = some (.int .u32 t.pn) := by rw [cell_of_row w g 2 _ _ _ h.box]; rfl
theorem Mx.c3 (h : Mx w g rg tg S t rows) : w.cell? ⟨g, 3, none⟩ = some (.int .u32 t.sb) := by rw [cell_of_row w g 3 _ _ _ h.box]; rfl
theorem Mx.c4 (h : Mx w g rg tg S t rows) : w.cell? ⟨g, 4, none⟩ = some (.int .u32 t.sn) := by rw [cell_of_row w g 4 _ _ _ h.box]; rfl
theorem Mx.c5 (h : Mx w g rg tg S t rows) : w.cell? ⟨g, 5, none⟩ = some (.int .u32 t.me) := by rw [cell_of_row w g 5 _ _ _ h.box]; rfl
theorem Mx.c6 (h : Mx w g rg tg S t rows) : w.cell? ⟨g, 6, none⟩ = some (.pointer (some ⟨tg, 0, none⟩)) := by rw [cell_of_row w g 6 _ _ _ h.box]; rfl
theorem Mx.keep (h : Mx w g rg tg S t rows) (hg : w'.heap[g]? = w.heap[g]?) (hk : ∀ k, S k → w'.heap[k]? = w.heap[k]?) : Mx w' g rg tg S t rows :=
  ⟨hg.trans h.box, h.tb.keep hk, h.ok⟩
theorem Mx.below (h : Mx w g rg tg S t rows) (m : Below w.heap.size w w') : Mx w' g rg tg S t rows :=
  h.keep (m.block g h.glt) (fun k hk => m.block k (h.tb.lo k hk))
theorem Mx.mods (h : Mx w g rg tg S t rows) (m : Tl.Mods T w w') (hg : ¬ T g) (a : Tl.Apart T S) : Mx w' g rg tg S t rows :=
  h.keep (m.block g h.glt hg) (fun k hk => m.block k (h.tb.lo k hk) (fun ht => a k ht hk))
/-- The buffer has turned. -/
theorem Mx.turn (h : Mx w g rg tg S t rows) (hb : Tl.Tb w' tg S' rows') (s : Tl.Step S S' w w') : Mx w' g rg tg S' t rows' :=
  ⟨(s.mods.block g h.glt h.not).trans h.box, hb, h.ok⟩
end

section
variable {w w' : World} {g r tg : Nat} {xs : List Int} {S T : Nat → Prop} {rows : Rows}
theorem mem_typ (h : Rm.Mem w g r xs) : Typ w g 85 ∧ Typ w r 5 := ⟨⟨_, _, h.box⟩, ⟨_, _, h.row⟩⟩
theorem mem_mods (h : Rm.Mem w g r xs) (m : Tl.Mods T w w') (hg : ¬ T g) (hr : ¬ T r) : Rm.Mem w' g r xs := h.keep (m.block g h.glt hg) (m.block r h.rlt hr)
/-- What turns in a buffer leaves the memory. -/
theorem mem_tb (h : Rm.Mem w g r xs) (b : Tl.Tb w tg S rows) (m : Tl.Mods S w w') : Rm.Mem w' g r xs :=
  mem_mods h m (tb_not b (mem_typ h).1 (by decide) (by decide)) (tb_not b (mem_typ h).2 (by decide) (by decide))
/-- What turns in a memory leaves the buffer. -/
theorem tb_mem (h : Rm.Mem w g r xs) (b : Tl.Tb w tg S rows) (m : w.grownBy w' (some r)) : Tl.Tb w' tg S rows :=
  b.keep fun k hk => m.block k (b.lo k hk) (fun e => by
    injection e with e
    subst e
    exact tb_not b (mem_typ h).2 (by decide) (by decide) hk)
end
theorem mx_mem {w w' : World} {g r m rg tg : Nat} {xs : List Int} {S : Nat → Prop} {t : Tabs} {rows : Rows} (h : Rm.Mem w g r xs) (b : Mx w m rg tg S t rows) (gr : w.grownBy w' (some r)) : Mx w' m rg tg S t rows :=
  ⟨(gr.block m b.glt (fun e => by injection e with e; subst e; exact absurd (b.typ.ne (mem_typ h).2) (by decide))).trans b.box, tb_mem h b.tb gr, b.ok⟩

end Go.Proofs.YteohkobdmkbcpaaGreatDoor.Mm

/- Contracts of package mmu: stands, fault, read, entry, place. -/
namespace Go.Proofs.YteohkobdmkbcpaaGreatDoor.Mm
open Go.RowKit

theorem and_sys {va : Int} (h : U va) : (bits .and .u32 va 2147483648 != 0) = sys va := Pt.and_valid h
theorem and_now {va : Int} (h : U va) : (bits .and .u32 va 1073741824 == 0) = (va / 1073741824 % 2 == 0) := by
  obtain ⟨h0, h1⟩ := h
  rw [u32_and _ _ h0 h1 (by omega) (by omega)]
  show ((((va.toNat &&& 2 ^ 30 : Nat) : Int)) == 0) = _
  rw [nat_bit]
  have : va / 1073741824 % 2 = 1 ∨ va / 1073741824 % 2 = 0 := by omega
  rcases this with h | h
  · rw [h, show va.toNat / 2 ^ 30 % 2 = 1 by omega]; rfl
  · rw [h, show va.toNat / 2 ^ 30 % 2 = 0 by omega]; rfl

set_option maxHeartbeats 400000 in
set_option maxRecDepth 100000 in
theorem stands_any (g rg tg : Nat) (S : Nat → Prop) (t : Tabs) (rows : Rows) (va : Int) (w : World) (h : Mx w g rg tg S t rows) (hv : U va) :
    Calls Tryz.prog 134 #[.pointer (some ⟨g, 0, none⟩), .int .u32 va] w fun e w' => e = .returned (.tuple #[.int .u32 (epl t va), .bool (ein t va)]) ∧ Below w.heap.size w w' := by
  have h1 := h.c1
  have h2 := h.c2
  have h3 := h.c3
  have h4 := h.c4
  have hs := and_sys hv
  have hn := and_now hv
  obtain ⟨v0, v1⟩ := hv
  obtain ⟨⟨b0, b1⟩, ⟨b2, b3⟩, ⟨b4, b5⟩, ⟨b6, b7⟩, _⟩ := h.ok
  have HS : Hid (epl t va = ((if sys va then t.sb else t.pb) + 4 * (va / 512 % 2097152)) % 4294967296) := rfl
  have HN : Hid (ein t va = (va / 1073741824 % 2 == 0 && decide (va / 512 % 2097152 < (if sys va then t.sn else t.pn)))) := rfl
  generalize epl t va = E at HS ⊢
  generalize ein t va = I at HN ⊢
  clear h
  cases hS : sys va <;> cases hN : (va / 1073741824 % 2 == 0)
  all_goals
    rw [hS] at hs HS HN
    rw [hN] at hn HN
    simp only [if_true, Bool.false_eq_true, if_false, Bool.false_and, Bool.true_and] at HS HN
    clear hS hN
    go_enter Tryz.func134, Tryz.ntmps134
    go_wp2
    go_region
    go_wp2
    try (go_region; go_wp2)
    go_ret2
    exact ⟨by rw [HS.out, HN.out]; rfl, by first | exact (Below.refl _ _).drew | exact (Below.refl _ _).drew.drew⟩
theorem stands_as (g rg tg : Nat) (S : Nat → Prop) (t : Tabs) (rows : Rows) (va a : Int) (b : Bool) (w : World) (h : Mx w g rg tg S t rows) (hv : U va) (ha : epl t va = a) (hb : ein t va = b) :
    Calls Tryz.prog 134 #[(Value.pointer (some ⟨g, 0, none⟩)), .int .u32 va] w fun e w' => e = .returned (.tuple #[.int .u32 a, .bool b]) ∧ Below w.heap.size w w' := by
  subst ha hb
  exact stands_any g rg tg S t rows va w h hv

set_option maxHeartbeats 400000 in
set_option maxRecDepth 100000 in
theorem fault_any (u wr ah : Bool) (k va i j : Int) (w : World) (h : (i = 0 ∨ i = 1) ∧ inf i wr = j) :
    Calls Tryz.prog 199 #[(Value.agg #[Value.bool u, Value.bool wr, Value.bool ah]), .int .i64 k, .int .u32 va, .int .u32 i] w fun e w' => e = .returned ((Value.agg #[Value.int .i64 k, Value.int .u32 va, Value.int .u32 j])) ∧ Below w.heap.size w w' := by
  obtain ⟨h, rfl⟩ := h
  rcases h with rfl | rfl <;> cases wr
  all_goals
    go_enter Tryz.func199, Tryz.ntmps199
    go_wp2
    go_returns
    exact ⟨rfl, by go_grown⟩

theorem bcell {W w1 : World} (hb : Below W.heap.size W w1) : (∀ b o, b < W.heap.size → w1.cell? ⟨b, o, none⟩ = W.cell? ⟨b, o, none⟩) ∧ (∀ b o, b < W.heap.size → w1.frozen? ⟨b, o, none⟩ = W.frozen? ⟨b, o, none⟩) :=
  ⟨fun b o h => hb.cell (p := ⟨b, o, none⟩) h, fun b o h => hb.frozen (p := ⟨b, o, none⟩) h⟩

set_option maxHeartbeats 400000 in
set_option maxRecDepth 100000 in
theorem read_ok (g rg tg r : Nat) (S : Nat → Prop) (t : Tabs) (rows : Rows) (xs : List Int) (va x : Int) (u wr ah : Bool) (w : World) (h : Mx w g rg tg S t rows) (hm : Rm.Mem w rg r xs) (hv : U va) (hE : rdE t xs va wr = .ok x) :
    Calls Tryz.prog 233 #[(Value.pointer (some ⟨g, 0, none⟩)), .int .u32 va, (Value.agg #[Value.bool u, Value.bool wr, Value.bool ah])] w fun e w' => e = .returned (.tuple #[.int .u32 x, (Value.agg #[Value.int .i64 0, Value.int .u32 0, Value.int .u32 0])]) ∧ Below w.heap.size w w' := by
  obtain ⟨e1, e2, rfl, _⟩ := rdE_ok hm.byt hE
  have h0 := h.c0
  have H := Lib.hid h
  have HM := Lib.hid hm
  have HV := Lib.hid hv
  have hg := h.glt
  obtain ⟨a0, a1⟩ := epl_U t va
  have HI := Lib.hid e1
  obtain ⟨a, ha⟩ : ∃ a, epl t va = a := ⟨_, rfl⟩
  rw [ha] at a0 a1 e2
  have HA := Lib.hid ha
  have HN : Hid (a = a.toNat) := by show _ = _; omega
  have HF : Hid (a.toNat + 4 ≤ xs.length) := by show _ ≤ _; omega
  rw [ha]
  generalize a.toNat = n at HN HF ⊢
  clear h hm hv hE e1 ha e2 a0 a1
  go_enter Tryz.func233, Tryz.ntmps233
  go_wp2_with fail
  refine (stands_as g rg tg S t rows va a true _ (H.out.below (by go_grown)) HV.out HA.out HI.out).mono ?_
  rintro e w1 ⟨rfl, hb1⟩
  obtain ⟨hc, hf⟩ := bcell hb1
  have hb := Tl.bel2 (a := w) (by go_grown) hb1
  have hz : w.heap.size + 1 < w1.heap.size := by have := hb1.size; simp at this; omega
  have hc0 := (H.out.below hb).c0
  have HB := Lib.hid hb
  clear hb hb1
  go_wp2_with fail
  refine (Rm.get_at rg r xs a n 4 HN.out w1 (HM.out.below_ HB.out) 4 rfl (by omega) HF.out).mono ?_
  rintro e w2 ⟨rfl, rfl⟩
  go_wp2
  have hb := HB.out
  exact bodyPost_ret (v := .tuple #[.int .u32 (Rm.val xs n 4), (Value.agg #[Value.int .i64 0, Value.int .u32 0, Value.int .u32 0])]) (by simp [results, Tryz.results233, go_sem, hc]) rfl ⟨rfl, by go_grown⟩

set_option maxHeartbeats 400000 in
set_option maxRecDepth 100000 in
theorem read_bad (g rg tg r : Nat) (S : Nat → Prop) (t : Tabs) (rows : Rows) (xs : List Int) (va k i : Int) (u wr ah : Bool) (w : World) (h : Mx w g rg tg S t rows) (hm : Rm.Mem w rg r xs) (hv : U va) (hE : rdE t xs va wr = .bad k i) :
    Calls Tryz.prog 233 #[(Value.pointer (some ⟨g, 0, none⟩)), .int .u32 va, (Value.agg #[Value.bool u, Value.bool wr, Value.bool ah])] w fun e w' => e = .returned (.tuple #[.int .u32 0, (Value.agg #[Value.int .i64 k, Value.int .u32 va, Value.int .u32 i])]) ∧ Below w.heap.size w w' := by
  have h0 := h.c0
  have H := Lib.hid h
  have HM := Lib.hid hm
  have HV := Lib.hid hv
  have hg := h.glt
  have HAU := Lib.hid (epl_U t va)
  unfold rdE at hE
  obtain ⟨a, ha⟩ : ∃ a, epl t va = a := ⟨_, rfl⟩
  rw [ha] at hE HAU
  have HA := Lib.hid ha
  split at hE
  · rename_i hI
    split at hE
    · cases hE
    · rename_i hN
      injection hE with e1 e2
      subst e1
      have HI := Lib.hid hI
      have HJ := Lib.hid e2
      have HN := Lib.hid hN
      clear h hm hv hI ha hN e2
      go_enter Tryz.func233, Tryz.ntmps233
      go_wp2_with fail
      refine (stands_as g rg tg S t rows va a true _ (H.out.below (by go_grown)) HV.out HA.out HI.out).mono ?_
      rintro e w1 ⟨rfl, hb1⟩
      obtain ⟨hc, hf⟩ := bcell hb1
      have hb := Tl.bel2 (a := w) (by go_grown) hb1
      have hz : w.heap.size + 1 < w1.heap.size := by have := hb1.size; simp at this; omega
      have hc0 := (H.out.below hb).c0
      have HB := Lib.hid hb
      clear hb hb1
      go_wp2_with fail
      refine (Rm.get_not rg r xs a 4 w1 (HM.out.below_ HB.out) HAU.out.1 HAU.out.2 (by have := HN.out; omega)).mono ?_
      rintro e w2 ⟨rfl, rfl⟩
      go_wp2_with fail
      refine (fault_any u wr ah 1 va 0 i _ ⟨.inl rfl, HJ.out⟩).mono ?_
      rintro e w2 ⟨rfl, hb2⟩
      obtain ⟨hc2, hf2⟩ := bcell hb2
      have hb := Tl.bel2 HB.out hb2
      clear hb2
      go_wp2
      exact bodyPost_ret (v := .tuple #[.int .u32 0, (Value.agg #[Value.int .i64 1, Value.int .u32 va, Value.int .u32 i])]) (by simp [results, Tryz.results233, go_sem, hc2, hc, hz]) rfl ⟨rfl, by go_grown⟩
  · rename_i hI
    injection hE with e1 e2
    subst e1
    have HI : Hid (ein t va = false) := by show _ = _; simpa using hI
    have HJ := Lib.hid e2
    clear h hm hv hI ha e2
    go_enter Tryz.func233, Tryz.ntmps233
    go_wp2_with fail
    refine (stands_as g rg tg S t rows va a false _ (H.out.below (by go_grown)) HV.out HA.out HI.out).mono ?_
    rintro e w1 ⟨rfl, hb1⟩
    obtain ⟨hc, hf⟩ := bcell hb1
    have hb := Tl.bel2 (a := w) (by go_grown) hb1
    have hz : w.heap.size + 1 < w1.heap.size := by have := hb1.size; simp at this; omega
    have HB := Lib.hid hb
    clear hb hb1
    go_wp2_with fail
    refine (fault_any u wr ah 2 va 1 i _ ⟨.inr rfl, HJ.out⟩).mono ?_
    rintro e w2 ⟨rfl, hb2⟩
    obtain ⟨hc2, hf2⟩ := bcell hb2
    have hb := Tl.bel2 HB.out hb2
    clear hb2
    go_wp2
    exact bodyPost_ret (v := .tuple #[.int .u32 0, (Value.agg #[Value.int .i64 2, Value.int .u32 va, Value.int .u32 i])]) (by simp [results, Tryz.results233, go_sem, hc2, hc, hz]) rfl ⟨rfl, by go_grown⟩

/-- A function's own blocks: who asks for what, and the fault that it will answer. -/
structure Fr (n : Nat) (u wr ah : Bool) (W : World) : Prop where
  us : W.heap[n]? = some (.cells #[.bool u, .bool wr, .bool ah] 135 (0, 0))
  fl : W.heap[n + 1]? = some (.cells #[.int .i64 0, .int .u32 0, .int .u32 0] 100 (0, 0))
section
variable {n : Nat} {u wr ah : Bool} {w W W' : World} {S : Nat → Prop}
theorem Fr.new : Fr w.heap.size u wr ah ((w.alloc (.cells #[.bool u, .bool wr, .bool ah] 135)).alloc (.cells #[.int .i64 0, .int .u32 0, .int .u32 0] 100)) :=
  ⟨(Below.heap_alloc _ _ _ (by simp)).trans (heap_alloc_new _ _), by simpa using heap_alloc_new (w.alloc (.cells #[.bool u, .bool wr, .bool ah] 135)) (.cells #[.int .i64 0, .int .u32 0, .int .u32 0] 100)⟩
theorem Fr.lt (h : Fr n u wr ah W) : n + 1 < W.heap.size := Tl.lt_of_heap h.fl
theorem Fr.below (h : Fr n u wr ah W) (b : Below W.heap.size W W') : Fr n u wr ah W' :=
  ⟨(b.block _ (Tl.lt_of_heap h.us)).trans h.us, (b.block _ h.lt).trans h.fl⟩
theorem Fr.mods (h : Fr n u wr ah W) (b : Tl.Mods S W W') (h0 : ¬ S n) (h1 : ¬ S (n + 1)) : Fr n u wr ah W' :=
  ⟨(b.block _ (Tl.lt_of_heap h.us) h0).trans h.us, (b.block _ h.lt h1).trans h.fl⟩
theorem Fr.uses (h : Fr n u wr ah W) : W.cell? ⟨n, 0, none⟩ = some (.bool u) ∧ W.cell? ⟨n, 1, none⟩ = some (.bool wr) ∧ W.cell? ⟨n, 2, none⟩ = some (.bool ah) := by
  rw [cell_of_row W n 0 _ _ _ h.us, cell_of_row W n 1 _ _ _ h.us, cell_of_row W n 2 _ _ _ h.us]; exact ⟨rfl, rfl, rfl⟩
theorem Fr.flts (h : Fr n u wr ah W) : W.cell? ⟨n + 1, 0, none⟩ = some (.int .i64 0) ∧ W.cell? ⟨n + 1, 1, none⟩ = some (.int .u32 0) ∧ W.cell? ⟨n + 1, 2, none⟩ = some (.int .u32 0) ∧
    W.frozen? ⟨n + 1, 0, none⟩ = false ∧ W.frozen? ⟨n + 1, 1, none⟩ = false ∧ W.frozen? ⟨n + 1, 2, none⟩ = false := by
  rw [cell_of_row W _ 0 _ _ _ h.fl, cell_of_row W _ 1 _ _ _ h.fl, cell_of_row W _ 2 _ _ _ h.fl]
  exact ⟨rfl, rfl, rfl, frozen_of_row W _ 0 _ _ h.fl, frozen_of_row W _ 1 _ _ h.fl, frozen_of_row W _ 2 _ _ h.fl⟩
end
/-- Stores into the fault's block leave all else. -/
theorem tb_set {w : World} {g F : Nat} {S : Nat → Prop} {rows : Rows} (h : Tl.Tb w g S rows) (hF : ¬ S F) (o : Nat) (v : Value) : Tl.Tb (w.setCell ⟨F, o, none⟩ v) g S rows :=
  h.keep fun k hk => Below.heap_setCell _ _ _ _ (by rintro rfl; exact hF hk)

/-- What entry answers, and what is buffered behind it. -/
def EnP (t : Tabs) (xs : List Int) (rows : Rows) (tg : Nat) (S : Nat → Prop) (va : Int) (u wr ah : Bool) (w : World) (e : Ending) (w' : World) : Prop :=
  match enE t xs rows va u wr with
  | .ok x => e = .returned (.tuple #[.int .u32 x, (Value.agg #[Value.int .i64 0, Value.int .u32 0, Value.int .u32 0])]) ∧ ∃ S', Tl.Tb w' tg S' (enR t xs rows va u wr (!ah)) ∧ Tl.Step S S' w w'
  | .bad k i => e = .returned (.tuple #[.int .u32 0, (Value.agg #[Value.int .i64 k, Value.int .u32 va, Value.int .u32 i])]) ∧ Below w.heap.size w w'
section
variable {t : Tabs} {xs : List Int} {rows : Rows} {tg : Nat} {S : Nat → Prop} {va x k i : Int} {u wr ah : Bool} {w w' : World}
theorem EnP.ok (h : enE t xs rows va u wr = .ok x) (h' : ∃ S', Tl.Tb w' tg S' (enR t xs rows va u wr (!ah)) ∧ Tl.Step S S' w w') : EnP t xs rows tg S va u wr ah w (.returned (.tuple #[.int .u32 x, (Value.agg #[Value.int .i64 0, Value.int .u32 0, Value.int .u32 0])])) w' := by
  unfold EnP; rw [h]; exact ⟨rfl, h'⟩
theorem EnP.bad (h : enE t xs rows va u wr = .bad k i) (h' : Below w.heap.size w w') : EnP t xs rows tg S va u wr ah w (.returned (.tuple #[.int .u32 0, (Value.agg #[Value.int .i64 k, Value.int .u32 va, Value.int .u32 i])])) w' := by
  unfold EnP; rw [h]; exact ⟨rfl, h'⟩
end

set_option maxRecDepth 100000 in
set_option maxHeartbeats 1000000 in
set_option maxRecDepth 100000 in
theorem entry_any (g rg tg r : Nat) (S : Nat → Prop) (t : Tabs) (rows : Rows) (xs : List Int) (va : Int) (u wr ah : Bool) (w : World) (h : Mx w g rg tg S t rows) (hm : Rm.Mem w rg r xs) (hv : U va) :
    Calls Tryz.prog 196 #[(Value.pointer (some ⟨g, 0, none⟩)), .int .u32 va, (Value.agg #[Value.bool u, Value.bool wr, Value.bool ah])] w (EnP t xs rows tg S va u wr ah w) := by
  have h6 := h.c6
  have H := Lib.hid h
  have HM := Lib.hid hm
  have HVa := Lib.hid hv
  have HP := Lib.hid (page_U hv)
  have hg := h.glt
  obtain ⟨v0, v1⟩ := hv
  cases hV : Tl.hav rows (va / 512)
  · have HV := Lib.hid hV
    have HX := Lib.hid (Tl.ent_out (fun e => by rw [Tl.hav, decide_eq_true e] at hV; cases hV) : Tl.ent rows (va / 512) = 0)
    clear h hm hV
    go_enter Tryz.func196, Tryz.ntmps196
    go_wp2_with fail
    refine (Tl.get_as tg S rows (va / 512) 0 false _ (H.out.tb.below (by go_grown)) HX.out HV.out).mono ?_
    rintro e w1 ⟨rfl, hb1⟩
    have HF1 := Lib.hid (Fr.new.below hb1)
    have HB1 := Lib.hid (Tl.bel2 (a := w) (by go_grown) hb1)
    obtain ⟨u0, u1, u2⟩ := HF1.out.uses
    clear hb1 h6
    cases hR : rdE t xs va wr with
    | bad k i =>
      have HR := Lib.hid hR
      have HJ : Hid (enE t xs rows va u wr = .bad k i) := by show _ = _; rw [enE, getE, HV.out, hR]; rfl
      have hk := (rdE_bad hR).1
      have hk' : (k != 0) = true := by simp; omega
      clear hR hk
      go_wp2_with fail
      refine (read_bad g rg tg r S t rows xs va k i u wr ah _ (H.out.below HB1.out) (HM.out.below_ HB1.out) HVa.out HR.out).mono ?_
      rintro e w2 ⟨rfl, hb2⟩
      have hb := Tl.bel2 HB1.out hb2
      have hz := (HF1.out.below hb2).lt
      obtain ⟨c0, c1, c2, f0, f1, f2⟩ := (HF1.out.below hb2).flts
      clear hb2 u0 u1 u2
      go_wp2
      go_region
      go_wp2
      exact bodyPost_ret (v := .tuple #[.int .u32 0, (Value.agg #[Value.int .i64 k, Value.int .u32 va, Value.int .u32 i])]) (by simp [results, Tryz.results196, go_sem, c0, c1, c2, hz]) rfl (EnP.bad HJ.out (by go_grown))
    | ok x =>
      have HR := Lib.hid hR
      have HEN : Hid (enE t xs rows va u wr = useE x u wr) := by show _ = _; rw [enE, getE, HV.out, hR]; rfl
      have HXU := Lib.hid (rdE_ok HM.out.byt hR).2.2.2
      clear hR
      go_wp2_with fail
      refine (read_ok g rg tg r S t rows xs va x u wr ah _ (H.out.below HB1.out) (HM.out.below_ HB1.out) HVa.out HR.out).mono ?_
      rintro e w2 ⟨rfl, hb2⟩
      have hb := Tl.bel2 HB1.out hb2
      have HFR := Lib.hid (HF1.out.below hb2)
      have h6 := (H.out.below hb).c6
      have hg2 := (H.out.below hb).glt
      have hz1 := HFR.out.lt
      have hz0 : w.heap.size < w2.heap.size := by omega
      clear HR hb2 u0 u1 u2
      obtain ⟨u0, u1, u2⟩ := HFR.out.uses
      go_wp2_with fail
      refine (Pt.may_as x u wr (Pt.my x u wr) HXU.out rfl _).mono ?_
      rintro e w' ⟨rfl, rfl⟩
      cases hM : Pt.my x u wr
      · have HJ : Hid (enE t xs rows va u wr = .bad 2 (inf 0 wr)) := by show _ = _; rw [HEN.out, useE, hM]; rfl
        clear hM
        go_wp2_with fail
        refine (fault_any u wr ah 2 va 0 (inf 0 wr) _ ⟨.inl rfl, rfl⟩).mono ?_
        rintro e w5 ⟨rfl, hb5⟩
        obtain ⟨c0, c1, c2, f0, f1, f2⟩ := ((HFR.out.below (by go_grown)).below hb5).flts
        have hb := Tl.bel2 (a := w) (by go_grown) hb5
        clear hb5 u0 u1 u2
        go_wp2
        exact bodyPost_ret (v := .tuple #[.int .u32 0, (Value.agg #[Value.int .i64 2, Value.int .u32 va, Value.int .u32 (inf 0 wr)])]) (by simp [results, Tryz.results196, go_sem, c0, c1, c2]) rfl (EnP.bad HJ.out (by go_grown))
      · go_wp2_with fail
        refine (Pt.is_as x (Pt.iv x) HXU.out rfl _).mono ?_
        rintro e w' ⟨rfl, rfl⟩
        cases hI : Pt.iv x
        · have HJ : Hid (enE t xs rows va u wr = .bad 3 (inf 0 wr)) := by show _ = _; rw [HEN.out, useE, hM, hI]; rfl
          clear hM hI
          go_wp2_with fail
          refine (fault_any u wr ah 3 va 0 (inf 0 wr) _ ⟨.inl rfl, rfl⟩).mono ?_
          rintro e w5 ⟨rfl, hb5⟩
          obtain ⟨c0, c1, c2, f0, f1, f2⟩ := ((HFR.out.below (by go_grown)).below hb5).flts
          have hb := Tl.bel2 (a := w) (by go_grown) hb5
          clear hb5 u0 u1 u2
          go_wp2
          exact bodyPost_ret (v := .tuple #[.int .u32 0, (Value.agg #[Value.int .i64 3, Value.int .u32 va, Value.int .u32 (inf 0 wr)])]) (by simp [results, Tryz.results196, go_sem, c0, c1, c2]) rfl (EnP.bad HJ.out (by go_grown))
        · have HJ : Hid (enE t xs rows va u wr = .ok x) := by show _ = _; rw [HEN.out, useE, hM, hI]; rfl
          have HR : Hid (enR t xs rows va u wr (!ah) = if !Tl.hav rows (va / 512) && !ah then Tl.putR rows (va / 512) x else rows) := by show _ = _; rw [enR, HJ.out]
          rw [HV.out] at HR
          clear hM hI
          cases ah
          · go_wp2_with fail
            refine (Tl.put_any tg S rows (va / 512) x _ (H.out.tb.below (by go_grown)) HP.out HXU.out).mono ?_
            rintro e w5 ⟨rfl, S5, hT5, hs5⟩
            have hlo := H.out.tb.lo
            obtain ⟨c0, c1, c2, f0, f1, f2⟩ := ((HFR.out.below (by go_grown)).mods hs5.mods (fun e => by have := hlo _ e; omega) (fun e => by have := hlo _ e; omega)).flts
            have HS5 := Lib.hid ((Tl.Step.of_below (S := S) (w := w) (by go_grown)).trans hs5)
            have HN5 : Hid (¬ S5 (w.heap.size + 1)) := fun e => by
              rcases hs5.grow _ e with e | e
              · have := hlo _ e; omega
              · simp at e; omega
            have HTb := Lib.hid hT5
            clear hs5 hT5 hlo u0 u1 u2
            go_wp2
            refine bodyPost_ret (v := .tuple #[.int .u32 x, (Value.agg #[Value.int .i64 0, Value.int .u32 0, Value.int .u32 0])]) (by simp [results, Tryz.results196, go_sem, c0, c1, c2]) rfl (EnP.ok HJ.out ⟨S5, ?_, ⟨((HS5.out.mods.set _ (.inr (by simp))).set _ (.inr (by simp))).set _ (.inr (by simp)), HS5.out.grow⟩⟩)
            rw [HR.out]
            exact tb_set (tb_set (tb_set HTb.out HN5.out _ _) HN5.out _ _) HN5.out _ _
          · obtain ⟨c0, c1, c2, f0, f1, f2⟩ := HFR.out.flts
            go_wp2
            exact bodyPost_ret (v := .tuple #[.int .u32 x, (Value.agg #[Value.int .i64 0, Value.int .u32 0, Value.int .u32 0])]) (by simp [results, Tryz.results196, go_sem, c0, c1, c2, hz1]) rfl (EnP.ok HJ.out ⟨S, by rw [HR.out]; exact H.out.tb.below (by go_grown), Tl.Step.of_below (by go_grown)⟩)
  · have HV := Lib.hid hV
    obtain ⟨x, hx⟩ : ∃ x, Tl.ent rows (va / 512) = x := ⟨_, rfl⟩
    have HXU := Lib.hid (hx ▸ ent_U h.tb.fit (va / 512) : U x)
    have HX := Lib.hid hx
    have HEN : Hid (enE t xs rows va u wr = useE x u wr) := by show _ = _; rw [enE, getE, hV, hx]; rfl
    clear h hm hV hx
    go_enter Tryz.func196, Tryz.ntmps196
    go_wp2_with fail
    refine (Tl.get_as tg S rows (va / 512) x true _ (H.out.tb.below (by go_grown)) HX.out HV.out).mono ?_
    rintro e w1 ⟨rfl, hb1⟩
    have HFR := Lib.hid (Fr.new.below hb1)
    have hb := Tl.bel2 (a := w) (by go_grown) hb1
    obtain ⟨u0, u1, u2⟩ := HFR.out.uses
    clear hb1 h6
    go_wp2_with fail
    refine (Pt.may_as x u wr (Pt.my x u wr) HXU.out rfl _).mono ?_
    rintro e w' ⟨rfl, rfl⟩
    cases hM : Pt.my x u wr
    · have HJ : Hid (enE t xs rows va u wr = .bad 2 (inf 0 wr)) := by show _ = _; rw [HEN.out, useE, hM]; rfl
      clear hM
      go_wp2_with fail
      refine (fault_any u wr ah 2 va 0 (inf 0 wr) _ ⟨.inl rfl, rfl⟩).mono ?_
      rintro e w5 ⟨rfl, hb5⟩
      obtain ⟨c0, c1, c2, f0, f1, f2⟩ := ((HFR.out.below (by go_grown)).below hb5).flts
      have hb := Tl.bel2 (a := w) (by go_grown) hb5
      clear hb5 u0 u1 u2
      go_wp2
      exact bodyPost_ret (v := .tuple #[.int .u32 0, (Value.agg #[Value.int .i64 2, Value.int .u32 va, Value.int .u32 (inf 0 wr)])]) (by simp [results, Tryz.results196, go_sem, c0, c1, c2]) rfl (EnP.bad HJ.out (by go_grown))
    · go_wp2_with fail
      refine (Pt.is_as x (Pt.iv x) HXU.out rfl _).mono ?_
      rintro e w' ⟨rfl, rfl⟩
      cases hI : Pt.iv x
      · have HJ : Hid (enE t xs rows va u wr = .bad 3 (inf 0 wr)) := by show _ = _; rw [HEN.out, useE, hM, hI]; rfl
        clear hM hI
        go_wp2_with fail
        refine (fault_any u wr ah 3 va 0 (inf 0 wr) _ ⟨.inl rfl, rfl⟩).mono ?_
        rintro e w5 ⟨rfl, hb5⟩
        obtain ⟨c0, c1, c2, f0, f1, f2⟩ := ((HFR.out.below (by go_grown)).below hb5).flts
        have hb := Tl.bel2 (a := w) (by go_grown) hb5
        clear hb5 u0 u1 u2
        go_wp2
        exact bodyPost_ret (v := .tuple #[.int .u32 0, (Value.agg #[Value.int .i64 3, Value.int .u32 va, Value.int .u32 (inf 0 wr)])]) (by simp [results, Tryz.results196, go_sem, c0, c1, c2]) rfl (EnP.bad HJ.out (by go_grown))
      · have HJ : Hid (enE t xs rows va u wr = .ok x) := by show _ = _; rw [HEN.out, useE, hM, hI]; rfl
        have HR : Hid (enR t xs rows va u wr (!ah) = if !Tl.hav rows (va / 512) && !ah then Tl.putR rows (va / 512) x else rows) := by show _ = _; rw [enR, HJ.out]
        rw [HV.out] at HR
        clear hM hI
        obtain ⟨c0, c1, c2, f0, f1, f2⟩ := HFR.out.flts
        go_wp2
        exact bodyPost_ret (v := .tuple #[.int .u32 x, (Value.agg #[Value.int .i64 0, Value.int .u32 0, Value.int .u32 0])]) (by simp [results, Tryz.results196, go_sem, c0, c1, c2]) rfl (EnP.ok HJ.out ⟨S, by rw [HR.out]; exact H.out.tb.below (by go_grown), Tl.Step.of_below (by go_grown)⟩)

end Go.Proofs.YteohkobdmkbcpaaGreatDoor.Mm

/- Contracts of package mmu: place. -/
namespace Go.Proofs.YteohkobdmkbcpaaGreatDoor.Mm
open Go.RowKit

/-- What place answers, and what is buffered behind it. -/
def PlP (t : Tabs) (xs : List Int) (rows : Rows) (tg : Nat) (S : Nat → Prop) (va n : Int) (u wr ah : Bool) (w : World) (e : Ending) (w' : World) : Prop :=
  (∃ S', Tl.Tb w' tg S' (plR t xs rows va u wr (!ah)) ∧ Tl.Step S S' w w') ∧
  match plE t xs rows va n u wr with
  | .ok a => e = .returned (.tuple #[.int .u32 a, (Value.agg #[Value.int .i64 0, Value.int .u32 0, Value.int .u32 0])])
  | .bad k i => e = .returned (.tuple #[.int .u32 0, (Value.agg #[Value.int .i64 k, Value.int .u32 va, Value.int .u32 i])])
section
variable {t : Tabs} {xs : List Int} {rows : Rows} {tg : Nat} {S S1 : Nat → Prop} {va n x k i : Int} {u wr ah : Bool} {w W w' : World}
theorem PlP.ok (h : plE t xs rows va n u wr = .ok x) (h' : ∃ S', Tl.Tb w' tg S' (plR t xs rows va u wr (!ah)) ∧ Tl.Step S S' w w') : PlP t xs rows tg S va n u wr ah w (.returned (.tuple #[.int .u32 x, (Value.agg #[Value.int .i64 0, Value.int .u32 0, Value.int .u32 0])])) w' := by
  unfold PlP; rw [h]; exact ⟨h', rfl⟩
theorem PlP.bad (h : plE t xs rows va n u wr = .bad k i) (h' : ∃ S', Tl.Tb w' tg S' (plR t xs rows va u wr (!ah)) ∧ Tl.Step S S' w w') : PlP t xs rows tg S va n u wr ah w (.returned (.tuple #[.int .u32 0, (Value.agg #[Value.int .i64 k, Value.int .u32 va, Value.int .u32 i])])) w' := by
  unfold PlP; rw [h]; exact ⟨h', rfl⟩
/-- The fault's block is stored into. -/
theorem fin3 {F : Nat} {a b c : Value} {rows' : Rows} (hT : Tl.Tb W tg S1 rows') (hs : Tl.Step S S1 w W) (hF : w.heap.size ≤ F) (hn : ¬ S1 F) :
    ∃ S', Tl.Tb (((W.setCell ⟨F, 0, none⟩ a).setCell ⟨F, 1, none⟩ b).setCell ⟨F, 2, none⟩ c) tg S' rows' ∧ Tl.Step S S' w (((W.setCell ⟨F, 0, none⟩ a).setCell ⟨F, 1, none⟩ b).setCell ⟨F, 2, none⟩ c) :=
  ⟨S1, tb_set (tb_set (tb_set hT hn _ _) hn _ _) hn _ _, ⟨((hs.mods.set _ (.inr hF)).set _ (.inr hF)).set _ (.inr hF), hs.grow⟩⟩
theorem fin3a {F : Nat} {a b c : Value} {rows' : Rows} {o : Obj} (hT : Tl.Tb W tg S1 rows') (hs : Tl.Step S S1 w W) (hF : w.heap.size ≤ F) (hn : ¬ S1 F) :
    ∃ S', Tl.Tb ((((W.setCell ⟨F, 0, none⟩ a).setCell ⟨F, 1, none⟩ b).setCell ⟨F, 2, none⟩ c).alloc o) tg S' rows' ∧ Tl.Step S S' w ((((W.setCell ⟨F, 0, none⟩ a).setCell ⟨F, 1, none⟩ b).setCell ⟨F, 2, none⟩ c).alloc o) := by
  obtain ⟨S', h1, h2⟩ := fin3 (a := a) (b := b) (c := c) hT hs hF hn
  exact ⟨S', h1.below (by go_grown), h2.trans (Tl.Step.of_below (by go_grown))⟩
end

set_option maxRecDepth 100000 in
set_option maxHeartbeats 1000000 in
set_option maxRecDepth 100000 in
theorem place_any (g rg tg r : Nat) (S : Nat → Prop) (t : Tabs) (rows : Rows) (xs : List Int) (va n : Int) (u wr ah : Bool) (w : World) (h : Mx w g rg tg S t rows) (hm : Rm.Mem w rg r xs) (hv : U va) (hn : 0 ≤ n) (hn' : n ≤ 512) :
    Calls Tryz.prog 130 #[(Value.pointer (some ⟨g, 0, none⟩)), .int .u32 va, .int .i64 n, (Value.agg #[Value.bool u, Value.bool wr, Value.bool ah])] w (PlP t xs rows tg S va n u wr ah w) := by
  have h5 := h.c5
  have h0 := h.c0
  have H := Lib.hid h
  have HM := Lib.hid hm
  have HVa := Lib.hid hv
  have hg := h.glt
  obtain ⟨v0, v1⟩ := hv
  obtain ⟨m, hlen⟩ : ∃ m, xs.length = m := ⟨_, rfl⟩
  have HLen := Lib.hid hlen
  have hl := hm.len
  rw [hlen] at hl
  by_cases hE : t.me = 0
  · rw [hE] at h5
    have HPL : Hid (plE t xs rows va n u wr = fitE xs va n wr) := by show _ = _; rw [plE, if_pos hE]
    have HR : Hid (plR t xs rows va u wr (!ah) = rows) := by show _ = _; rw [plR, if_pos hE]
    clear h hm hE hlen
    have HFR := Lib.hid (Fr.new (w := w) (u := u) (wr := wr) (ah := ah))
    obtain ⟨u0, u1, u2⟩ := HFR.out.uses
    have HM1 : Hid (Rm.Mem ((w.alloc (.cells #[.bool u, .bool wr, .bool ah] 135)).alloc (.cells #[.int .i64 0, .int .u32 0, .int .u32 0] 100)) rg r xs) := HM.out.below_ (by go_grown)
    go_enter Tryz.func130, Tryz.ntmps130
    go_wp2_with fail
    refine (Rm.size_of rg r m xs HLen.out _ HM1.out).mono ?_
    rintro e w' ⟨rfl, rfl⟩
    by_cases hF : va + n ≤ (m : Int)
    · have HJ : Hid (plE t xs rows va n u wr = .ok va) := by show _ = _; rw [HPL.out, fitE, HLen.out, if_pos hF]
      have hF' : ¬ (m : Int) < va + n := by omega
      obtain ⟨c0, c1, c2, f0, f1, f2⟩ := HFR.out.flts
      clear hF u0 u1 u2
      go_wp2
      exact bodyPost_ret (v := .tuple #[.int .u32 va, (Value.agg #[Value.int .i64 0, Value.int .u32 0, Value.int .u32 0])]) (by simp [results, Tryz.results130, go_sem, c0, c1, c2]) rfl (PlP.ok HJ.out (by rw [HR.out]; exact ⟨S, H.out.tb.below (by go_grown), Tl.Step.of_below (by go_grown)⟩))
    · have HJ : Hid (plE t xs rows va n u wr = .bad 1 (inf 0 wr)) := by show _ = _; rw [HPL.out, fitE, HLen.out, if_neg hF]
      have hF' : (m : Int) < va + n := by omega
      clear hF
      go_wp2_with fail
      refine (fault_any u wr ah 1 va 0 (inf 0 wr) _ ⟨.inl rfl, rfl⟩).mono ?_
      rintro e w5 ⟨rfl, hb5⟩
      obtain ⟨c0, c1, c2, f0, f1, f2⟩ := ((HFR.out.below (by go_grown)).below hb5).flts
      have HB5 := Lib.hid hb5
      clear hb5 u0 u1 u2
      go_wp2
      exact bodyPost_ret (v := .tuple #[.int .u32 0, (Value.agg #[Value.int .i64 1, Value.int .u32 va, Value.int .u32 (inf 0 wr)])]) (by simp [results, Tryz.results130, go_sem, c0, c1, c2]) rfl (PlP.bad HJ.out (by rw [HR.out]; have hb := Tl.bel2 (a := w) (by go_grown) HB5.out; exact ⟨S, H.out.tb.below (by go_grown), Tl.Step.of_below (by go_grown)⟩))
  · have hE' : (t.me != 0) = true := by simpa using hE
    have HPL0 : Hid (plE t xs rows va n u wr = match enE t xs rows va u wr with | .ok x => fitE xs (Pt.pl x va) n wr | .bad k i => .bad k i) := by show _ = _; rw [plE, if_neg hE] <;> rfl
    have HR : Hid (plR t xs rows va u wr (!ah) = enR t xs rows va u wr (!ah)) := by show _ = _; rw [plR, if_neg hE]
    generalize t.me = me at h5 hE'
    clear h hm hE hlen
    go_enter Tryz.func130, Tryz.ntmps130
    go_wp2_with fail
    refine (entry_any g rg tg r S t rows xs va u wr ah _ (H.out.below (by go_grown)) (HM.out.below_ (by go_grown)) HVa.out).mono ?_
    intro e w1 hP
    unfold EnP at hP
    have hlo := H.out.tb.lo
    cases hen : enE t xs rows va u wr with
    | bad k i =>
      rw [hen] at hP
      obtain ⟨rfl, hb1⟩ := hP
      have HJ : Hid (plE t xs rows va n u wr = .bad k i) := by show _ = _; rw [HPL0.out, hen]
      have HR' : Hid (plR t xs rows va u wr (!ah) = rows) := by show _ = _; rw [HR.out, enR, hen]
      have hk := (enE_bad hen).1
      have hk' : (k != 0) = true := by simp; omega
      have hb := Tl.bel2 (a := w) (by go_grown) hb1
      have hz := (Fr.new.below hb1).lt
      obtain ⟨c0, c1, c2, f0, f1, f2⟩ := (Fr.new.below hb1).flts
      clear hb1 hen hk hlo
      go_wp2
      go_region
      go_wp2
      exact bodyPost_ret (v := .tuple #[.int .u32 0, (Value.agg #[Value.int .i64 k, Value.int .u32 va, Value.int .u32 i])]) (by simp [results, Tryz.results130, go_sem, c0, c1, c2, hz]) rfl (PlP.bad HJ.out (by rw [HR'.out]; exact ⟨S, H.out.tb.below (by go_grown), Tl.Step.of_below (by go_grown)⟩))
    | ok x =>
      rw [hen] at hP
      obtain ⟨rfl, S1, hT1, hs1⟩ := hP
      have HXU := Lib.hid (enE_U HM.out.byt H.out.tb.fit hen)
      have HPL : Hid (plE t xs rows va n u wr = fitE xs (Pt.pl x va) n wr) := by show _ = _; rw [HPL0.out, hen]
      have HFR := Lib.hid (Fr.new.mods hs1.mods (fun e => by have := hlo _ e; omega) (fun e => by have := hlo _ e; omega))
      have HS := Lib.hid ((Tl.Step.of_below (S := S) (w := w) (by go_grown)).trans hs1)
      have HN1 : Hid (¬ S1 (w.heap.size + 1)) := fun e => by
        rcases hs1.grow _ e with e | e
        · have := hlo _ e; omega
        · simp at e; omega
      have HTb := Lib.hid hT1
      have HMx := Lib.hid ((H.out.below (by go_grown)).turn hT1 hs1)
      have HM0 := Lib.hid (mem_tb (HM.out.below_ (by go_grown)) (H.out.tb.below (by go_grown)) hs1.mods)
      have hp0 := HMx.out.c0
      have hg1 := HMx.out.glt
      have hz1 := HFR.out.lt
      have hz0 : w.heap.size < w1.heap.size := by omega
      clear hT1 hs1 hen HPL0 hlo h0
      obtain ⟨u0, u1, u2⟩ := HFR.out.uses
      go_wp2_with fail
      refine (Pt.place_as x va (Pt.pl x va) HXU.out HVa.out rfl _).mono ?_
      rintro e w' ⟨rfl, rfl⟩
      obtain ⟨p0, p1⟩ := Pt.pl_U x va
      generalize Pt.pl x va = a at p0 p1 HPL
      have HM1 : Hid (Rm.Mem (w1.alloc (.cells #[.int .i64 0, .int .u32 0, .int .u32 0] 100)) rg r xs) := HM0.out.below_ (by go_grown)
      go_wp2_with fail
      refine (Rm.size_of rg r m xs HLen.out _ HM1.out).mono ?_
      rintro e w' ⟨rfl, rfl⟩
      by_cases hF : a + n ≤ (m : Int)
      · have HJ : Hid (plE t xs rows va n u wr = .ok a) := by show _ = _; rw [HPL.out, fitE, HLen.out, if_pos hF]
        have hF' : ¬ (m : Int) < a + n := by omega
        obtain ⟨c0, c1, c2, f0, f1, f2⟩ := HFR.out.flts
        clear hF u0 u1 u2
        go_wp2
        exact bodyPost_ret (v := .tuple #[.int .u32 a, (Value.agg #[Value.int .i64 0, Value.int .u32 0, Value.int .u32 0])]) (by simp [results, Tryz.results130, go_sem, c0, c1, c2, hz1]) rfl (PlP.ok HJ.out (by rw [HR.out]; exact fin3a HTb.out HS.out (by omega) HN1.out))
      · have HJ : Hid (plE t xs rows va n u wr = .bad 1 (inf 0 wr)) := by show _ = _; rw [HPL.out, fitE, HLen.out, if_neg hF]
        have hF' : (m : Int) < a + n := by omega
        clear hF
        go_wp2_with fail
        refine (fault_any u wr ah 1 va 0 (inf 0 wr) _ ⟨.inl rfl, rfl⟩).mono ?_
        rintro e w5 ⟨rfl, hb5⟩
        obtain ⟨c0, c1, c2, f0, f1, f2⟩ := ((HFR.out.below (by go_grown)).below hb5).flts
        have HB5 := Lib.hid hb5
        clear hb5 u0 u1 u2
        go_wp2
        exact bodyPost_ret (v := .tuple #[.int .u32 0, (Value.agg #[Value.int .i64 1, Value.int .u32 va, Value.int .u32 (inf 0 wr)])]) (by simp [results, Tryz.results130, go_sem, c0, c1, c2]) rfl (PlP.bad HJ.out (by rw [HR.out]; exact fin3 (HTb.out.below (Tl.bel2 (by go_grown) HB5.out)) (HS.out.trans (Tl.Step.of_below (Tl.bel2 (by go_grown) HB5.out))) (by omega) HN1.out))

end Go.Proofs.YteohkobdmkbcpaaGreatDoor.Mm

/- Contracts of package mmu: runs. -/
namespace Go.Proofs.YteohkobdmkbcpaaGreatDoor.Mm
open Go.RowKit

/-- Runs as cells. -/
def c3 : List Run → List Value
  | [] => []
  | x :: l => .int .u32 x.va :: .int .u32 x.pa :: .int .i64 x.n :: c3 l
theorem c3_length (l : List Run) : (c3 l).length = l.length * 3 := by
  induction l with
  | nil => rfl
  | cons x l ih => simp only [c3, List.length_cons, ih]; omega
theorem c3_app (l k : List Run) : c3 (l ++ k) = c3 l ++ c3 k := by
  induction l with
  | nil => rfl
  | cons x l ih => simp [c3, ih]
theorem c3_one (l : List Run) : ∀ v ∈ c3 l, v.oneCell' = true := by
  induction l with
  | nil => simp [c3]
  | cons x l ih =>
    intro v hv
    simp only [c3, List.mem_cons] at hv
    rcases hv with rfl | rfl | rfl | hv
    · rfl
    · rfl
    · rfl
    · exact ih v hv
theorem c3_get (l : List Run) (i : Nat) (x : Run) (h : l[i]? = some x) : (c3 l)[i * 3]? = some (.int .u32 x.va) ∧ (c3 l)[i * 3 + 1]? = some (.int .u32 x.pa) ∧ (c3 l)[i * 3 + 2]? = some (.int .i64 x.n) := by
  induction l generalizing i with
  | nil => simp at h
  | cons y l ih =>
    cases i with
    | zero => simp at h; subst h; simp [c3]
    | succ i =>
      rw [show (i + 1) * 3 = i * 3 + 1 + 1 + 1 by omega]
      simpa [c3] using ih i (by simpa using h)
def R3 (w : World) (v : Value) (l : List Run) : Prop := w.ownsRow 0 137 3 v l.length (c3 l)
theorem R3.nil (w : World) : R3 w (.slice none 0 0) [] := ⟨by simp [c3], .inl ⟨rfl, rfl⟩⟩
theorem R3.typ {w : World} {v : Value} {l : List Run} (h : R3 w v l) {i : Nat} (hi : Tl.Bl v i) : Typ w i 137 := own_typ h hi
theorem under_runs : Tryz.prog.underlying 131 = some (.slice 137) := by kernel_rfl
theorem run_info : (Tryz.prog.info? 137).map (fun i => (i.zero, i.size, i.bytes)) = some (some (.agg #[.int .u32 0, .int .u32 0, .int .i64 0]), 3, 16) := by kernel_rfl
/-- append of one run. -/
theorem run_app3 (w : World) (v : Value) (l : List Run) (x : Run) (h : R3 w v l) (hl : l.length ≤ 1000000) :
    ∃ r' cap' w', (Builtin.append_ #[131, 131] 131 #[v, .slice (some ⟨w.heap.size, 0, none⟩) 1 1]).run Tryz.prog (w.alloc (.cells #[.int .u32 x.va, .int .u32 x.pa, .int .i64 x.n] 137)) = .ok (.slice (some ⟨r', 0, none⟩) (l.length + 1) cap') w' ∧
      Hid (R3 w' (.slice (some ⟨r', 0, none⟩) (l.length + 1) cap') (l ++ [x]) ∧ Tl.Step (Tl.Bl v) (Tl.Bl (.slice (some ⟨r', 0, none⟩) (l.length + 1) cap')) w w') := by
  obtain ⟨i, hi, hz, hsz, hb⟩ := info_parts run_info
  have hown : (w.alloc (.cells #[.int .u32 x.va, .int .u32 x.pa, .int .i64 x.n] 137)).ownsRow 0 137 3 v l.length (c3 l) := h.alloc _
  obtain ⟨v', w', hrun, ho, hg, _, hat⟩ := run_append_own_at (P := Tryz.prog) _ 0 131 131 137 i (.agg #[.int .u32 0, .int .u32 0, .int .i64 0]) 3 16 under_runs hi hz hsz hb rfl (by omega) v l.length (c3 l) hown ⟨w.heap.size, 0, none⟩ 1 1 (c3 [x])
    rfl (fun j u hj => by
      rw [Addr.add_lit, cell_of_row _ w.heap.size _ _ _ _ (heap_alloc_new w _)]
      simpa [c3] using hj) (c3_one _) (by simp only [maxLen]; omega) (by omega) (by simp)
  obtain ⟨r', cap', rfl⟩ : ∃ r' cap', v' = .slice (some ⟨r', 0, none⟩) (l.length + 1) cap' := by
    rcases ho.2 with ⟨_, h⟩ | ⟨g, cap, cur, rfl, _⟩
    · omega
    · exact ⟨g, cap, rfl⟩
  refine ⟨r', cap', w', hrun, ?_, ?_, ?_⟩
  · show w'.ownsRow _ _ _ _ _ _
    rw [List.length_append, c3_app]; exact ho
  · exact (Tl.Mods.refl (Tl.Bl v) w |>.alloc _).trans (Tl.Mods.of_grown hg (fun k e => e)) (fun _ _ h => h)
  · intro k hk
    rcases hat with e | e
    · exact .inl (by rw [Tl.Bl, ← e]; exact hk)
    · right
      rw [Tl.Bl, e] at hk
      injection hk with hk
      simp at hk
      omega

/-- What runs answers. -/
def RuE (w : World) (a : Acc) (e : Ending) (w' : World) : Prop :=
  match a with
  | .ok l => ∃ v, e = .returned (.tuple #[v, (Value.agg #[Value.int .i64 0, Value.int .u32 0, Value.int .u32 0])]) ∧ R3 w' v l ∧ Tl.Ab w.heap.size (Tl.Bl v)
  | .bad k va i => e = .returned (.tuple #[.slice none 0 0, (Value.agg #[Value.int .i64 k, Value.int .u32 va, Value.int .u32 i])])
/-- The state of the loop. -/
structure Lp (w : World) (g rg tg r : Nat) (S0 S : Nat → Prop) (t : Tabs) (xs : List Int) (u wr ah : Bool) (o : Acc × Rows) (B : Nat) (v : Value) (va z : Int) (l : List Run) (rows : Rows) (W : World) : Prop where
  eq : o = walk t xs u wr (!ah) rows l va z.toNat
  row : R3 W v l
  ab : Tl.Ab w.heap.size (Tl.Bl v)
  mx : Mx W g rg tg S t rows
  mem : Rm.Mem W rg r xs
  st : Tl.Step S0 S w W
  fr : Fr w.heap.size u wr ah W
  hv : U va
  len : l.length + z.toNat ≤ B
section
variable {w W W' : World} {g rg tg r : Nat} {S0 S S1 : Nat → Prop} {t : Tabs} {xs : List Int} {u wr ah : Bool} {o : Acc × Rows} {B : Nat} {v v' : Value} {va z : Int} {l : List Run} {rows rows' : Rows}
theorem row_tb (h : R3 W v l) (b : Tl.Tb W tg S rows) : Tl.Apart S (Tl.Bl v) := fun k hs hb => tb_not b (h.typ hb) (by decide) (by decide) hs
theorem row_mem (h : R3 W v l) (b : Rm.Mem W rg r xs) : ¬ Tl.Bl v rg ∧ ¬ Tl.Bl v r :=
  ⟨fun e => absurd ((h.typ e).ne (mem_typ b).1) (by decide), fun e => absurd ((h.typ e).ne (mem_typ b).2) (by decide)⟩
theorem row_mx (h : R3 W v l) (b : Mx W g rg tg S t rows) : ¬ Tl.Bl v g := fun e => absurd ((h.typ e).ne b.typ) (by decide)
theorem row_fr {n : Nat} (h : R3 W v l) (b : Fr n u wr ah W) : ¬ Tl.Bl v n ∧ ¬ Tl.Bl v (n + 1) :=
  ⟨fun e => absurd ((h.typ e).ne ⟨_, _, b.us⟩) (by decide), fun e => absurd ((h.typ e).ne ⟨_, _, b.fl⟩) (by decide)⟩
theorem tb_fr {n : Nat} (h : Tl.Tb W tg S rows) (b : Fr n u wr ah W) : ¬ S n ∧ ¬ S (n + 1) :=
  ⟨tb_not h ⟨_, _, b.us⟩ (by decide) (by decide), tb_not h ⟨_, _, b.fl⟩ (by decide) (by decide)⟩
/-- place has answered a place: the loop goes on behind append. -/
theorem Lp.next (h : Lp w g rg tg r S0 S t xs u wr ah o B v va z l rows W) (hT : Tl.Tb W' tg S1 (plR t xs rows va u wr (!ah))) (hs : Tl.Step S S1 W W') {W2 W3 : World} (hb : Below W'.heap.size W' W2)
    {a : Int} {n : Nat} (hn : z.toNat ≠ 0) (hc : cnt va z.toNat = n) (hp : plE t xs rows va n u wr = .ok a) (hr : R3 W3 v' (l ++ [⟨va, a, n⟩])) (hs' : Tl.Step (Tl.Bl v) (Tl.Bl v') W2 W3) :
    Lp w g rg tg r S0 S1 t xs u wr ah o B v' (nxt va z.toNat) (z - n) (l ++ [⟨va, a, n⟩]) (plR t xs rows va u wr (!ah)) W3 := by
  have hmx := (h.mx.turn hT hs).below hb
  have hmem := (mem_tb h.mem h.mx.tb hs.mods).below_ hb
  have hrow : R3 W2 v l := Tl.own_below (Tl.own_mods h.row hs.mods (row_tb h.row h.mx.tb)) hb
  have hfr := (h.fr.mods hs.mods (tb_fr h.mx.tb h.fr).1 (tb_fr h.mx.tb h.fr).2).below hb
  have hst := (h.st.trans hs).trans (Tl.Step.of_below hb)
  have hpos := cnt_pos va z.toNat hn
  have hle := cnt_le va z.toNat
  refine ⟨?_, hr, ?_, hmx.mods hs'.mods (row_mx hrow hmx) (row_tb hrow hmx.tb).symm, mem_mods hmem hs'.mods (row_mem hrow hmem).1 (row_mem hrow hmem).2, ⟨hst.mods.trans hs'.mods (fun i hi e => ?_), hst.grow⟩, hfr.mods hs'.mods (row_fr hrow hfr).1 (row_fr hrow hfr).2, nxt_U _ _, ?_⟩
  · rw [h.eq, walk_ok hn (by rw [hc]; exact hp), hc]
    congr 1
    omega
  · exact fun k hk => by
      rcases hs'.grow k hk with e | e
      · exact h.ab k e
      · have := hst.mods.size; omega
  · have := h.ab i e; omega
  · have := h.len
    simp only [List.length_append, List.length_cons, List.length_nil]
    omega
end

end Go.Proofs.YteohkobdmkbcpaaGreatDoor.Mm

/- Contracts of package mmu: runs. -/
namespace Go.Proofs.YteohkobdmkbcpaaGreatDoor.Mm
open Go.RowKit

theorem R3.shape {w : World} {v : Value} {l : List Run} (h : R3 w v l) : ∃ A c, v = .slice A l.length c := by
  rcases Tl.own_shape h with ⟨rfl, h0⟩ | ⟨r, cap, rfl, _⟩
  · exact ⟨none, 0, by rw [h0]⟩
  · exact ⟨_, cap, rfl⟩
theorem set3 {w : World} {i F : Nat} {a b c : Value} (h : i ≠ F) : (((w.setCell ⟨F, 0, none⟩ a).setCell ⟨F, 1, none⟩ b).setCell ⟨F, 2, none⟩ c).heap[i]? = w.heap[i]? := by
  rw [Below.heap_setCell _ _ _ _ h, Below.heap_setCell _ _ _ _ h, Below.heap_setCell _ _ _ _ h]
theorem cnt_low {va : Int} {z : Int} (h : U va) (hz : 0 < z) (h1 : z ≤ 512 - va % 512) : (cnt va z.toNat : Int) = z := by obtain ⟨h0, _⟩ := h; unfold cnt; omega
theorem cnt_high {va : Int} {z : Int} (h : U va) (hz : 0 < z) (h1 : 512 - va % 512 ≤ z) : (cnt va z.toNat : Int) = 512 - va % 512 := by obtain ⟨h0, _⟩ := h; unfold cnt; omega
set_option maxRecDepth 100000 in
set_option maxHeartbeats 2000000 in
set_option maxRecDepth 100000 in
theorem runs_any (g rg tg r : Nat) (S : Nat → Prop) (t : Tabs) (rows : Rows) (xs : List Int) (va n : Int) (u wt ah : Bool) (w : World) (h : Mx w g rg tg S t rows) (hm : Rm.Mem w rg r xs) (hv : U va) (hn' : n ≤ 1000000) :
    Calls Tryz.prog 71 #[(Value.pointer (some ⟨g, 0, none⟩)), .int .u32 va, .int .i64 n, (Value.agg #[Value.bool u, Value.bool wt, Value.bool ah])] w fun e w' =>
      RuE w (walk t xs u wt (!ah) rows [] va n.toNat).1 e w' ∧ ∃ S', Tl.Tb w' tg S' (walk t xs u wt (!ah) rows [] va n.toNat).2 ∧ Tl.Step S S' w w' := by
  have hg := h.glt
  obtain ⟨o, ho⟩ : ∃ o, walk t xs u wt (!ah) rows [] va n.toNat = o := ⟨_, rfl⟩
  rw [ho]
  have HL : Hid (Lp w g rg tg r S S t xs u wt ah o n.toNat (.slice none 0 0) va n [] rows ((w.alloc (.cells #[.bool u, .bool wt, .bool ah] 135)).alloc (.cells #[.int .i64 0, .int .u32 0, .int .u32 0] 100))) :=
    ⟨ho.symm, R3.nil _, fun k hk => by simp [Tl.Bl, Value.ownBlock] at hk, h.below (by go_grown), hm.below_ (by go_grown), Tl.Step.of_below (by go_grown), Fr.new, hv, by simp⟩
  clear h hm hv ho
  go_enter Tryz.func71, Tryz.ntmps71
  go_wp2
  go_loopw [10, 1, 2] (fun v a z W => ∃ (va' n' : Int), a = .int .u32 va' ∧ z = .int .i64 n' ∧ n' ≤ n ∧ ∃ S1 l rows', Lp w g rg tg r S S1 t xs u wt ah o n.toNat v va' n' l rows' W) (fun _ _ z _ => (intOf z).toNat)
  case atStart => exact ⟨va, n, rfl, rfl, Int.le_refl _, S, [], rows, HL.out⟩
  case round =>
    clear HL
    obtain ⟨va, z, rfl, rfl, hz', S1, l, rows, hL⟩ := hrel
    obtain ⟨A, cp, rfl⟩ := hL.row.shape
    have HL := Lib.hid hL
    obtain ⟨v0, v1⟩ := hL.hv
    obtain ⟨k0, k1, k2⟩ := hL.fr.uses
    clear hL
    by_cases hz : 0 < z
    · rcases Int.lt_trichotomy z (512 - va % 512) with hlt | heq | hgt
      · have HC : Hid ((cnt va z.toNat : Int) = z) := cnt_low HL.out.hv hz (by omega)
        go_wp2_with fail
        refine (place_any g rg tg r S1 t rows xs va (z) u wt ah _ HL.out.mx HL.out.mem HL.out.hv (by omega) (by omega)).mono ?_
        rintro e w1 ⟨⟨S2, hT, hs⟩, hP⟩
        have hfr := HL.out.fr.mods hs.mods (tb_fr HL.out.mx.tb HL.out.fr).1 (tb_fr HL.out.mx.tb HL.out.fr).2
        have hzF := hfr.lt
        cases hpl : plE t xs rows va (z) u wt with
        | bad k i =>
          rw [hpl] at hP
          subst hP
          have HE : Hid (o = (.bad k va i, plR t xs rows va u wt (!ah))) := by
            show _ = _
            rw [HL.out.eq]
            exact walk_bad (by omega) (by rw [HC.out]; exact hpl)
          have hk := (plE_bad hpl).1
          have hk' : (k != 0) = true := by simp; omega
          obtain ⟨c0, c1, c2, f0, f1, f2⟩ := hfr.flts
          have HT := Lib.hid hT
          have HS := Lib.hid (HL.out.st.trans hs)
          have HNF := Lib.hid ((tb_fr hT hfr).2)
          clear hT hs hfr hpl hk k0 k1 k2
          go_wp2
          go_region
          go_wp2
          refine bodyPost_ret (v := .tuple #[.slice none 0 0, (Value.agg #[Value.int .i64 k, Value.int .u32 va, Value.int .u32 i])]) (by simp [results, Tryz.results71, go_sem, c0, c1, c2, hzF]) rfl ?_
          rw [HE.out]
          refine ⟨rfl, ?_⟩
          obtain ⟨S', a1, a2⟩ := fin3a (F := w.heap.size + 1) HT.out HS.out (by omega) HNF.out
          exact ⟨S', a1.below (by go_grown), a2.trans (Tl.Step.of_below (by go_grown))⟩
        | ok a =>
          rw [hpl] at hP
          subst hP
          obtain ⟨c, hc⟩ : ∃ c, cnt va z.toNat = c := ⟨_, rfl⟩
          have HCN := Lib.hid hc
          have HPL := Lib.hid hpl
          have hcz : (c : Int) = z := by rw [← hc]; exact HC.out
          have hrow : R3 (w1.alloc (.cells #[.int .i64 0, .int .u32 0, .int .u32 0] 100)) (.slice A l.length cp) l := Tl.own_below (Tl.own_mods HL.out.row hs.mods (row_tb HL.out.row HL.out.mx.tb)) (by go_grown)
          obtain ⟨r', cap', w3, hrun, H3⟩ := run_app3 _ (.slice A l.length cp) l ⟨va, a, c⟩ hrow (by have := HL.out.len; omega)
          have HRun := Lib.hid hrun
          have HN : Hid (Lp w g rg tg r S S2 t xs u wt ah o n.toNat (.slice (some ⟨r', 0, none⟩) (l.length + 1) cap') (nxt va z.toNat) (z - c) (l ++ [⟨va, a, c⟩]) (plR t xs rows va u wt (!ah)) w3) :=
            HL.out.next hT hs (by go_grown) (by omega) hc (by rw [hcz]; exact hpl) H3.out.1 H3.out.2
          have HX : Hid (nxt va z.toNat = (va + (z)) % 4294967296) := by show _ = _; rw [nxt, HC.out]
          clear hT hs hfr hpl hrow hrun H3 hc k0 k1 k2
          simp only [World.size_alloc, hcz] at HRun
          go_wp2_with (at_builtin; refine Tl.wpList_append_run _ rfl _ _ _ _ rfl _ _ rfl rfl HRun.out ?_)
          go_roundw
          case rel =>
            exact ⟨_, z - c, congrArg (Value.int .u32) (by have := HX.out; omega), congrArg (Value.int .i64) (by omega), by omega, _, _, _, HN.out⟩
          case measure => simp [intOf]; omega
      · have h1 : ¬ z < 512 - va % 512 := by omega
        have h2 : ¬ 512 - va % 512 < z := by omega
        clear heq
        have HC : Hid ((cnt va z.toNat : Int) = z) := cnt_low HL.out.hv hz (by omega)
        go_wp2_with fail
        refine (place_any g rg tg r S1 t rows xs va (z) u wt ah _ HL.out.mx HL.out.mem HL.out.hv (by omega) (by omega)).mono ?_
        rintro e w1 ⟨⟨S2, hT, hs⟩, hP⟩
        have hfr := HL.out.fr.mods hs.mods (tb_fr HL.out.mx.tb HL.out.fr).1 (tb_fr HL.out.mx.tb HL.out.fr).2
        have hzF := hfr.lt
        cases hpl : plE t xs rows va (z) u wt with
        | bad k i =>
          rw [hpl] at hP
          subst hP
          have HE : Hid (o = (.bad k va i, plR t xs rows va u wt (!ah))) := by
            show _ = _
            rw [HL.out.eq]
            exact walk_bad (by omega) (by rw [HC.out]; exact hpl)
          have hk := (plE_bad hpl).1
          have hk' : (k != 0) = true := by simp; omega
          obtain ⟨c0, c1, c2, f0, f1, f2⟩ := hfr.flts
          have HT := Lib.hid hT
          have HS := Lib.hid (HL.out.st.trans hs)
          have HNF := Lib.hid ((tb_fr hT hfr).2)
          clear hT hs hfr hpl hk k0 k1 k2
          go_wp2
          go_region
          go_wp2
          refine bodyPost_ret (v := .tuple #[.slice none 0 0, (Value.agg #[Value.int .i64 k, Value.int .u32 va, Value.int .u32 i])]) (by simp [results, Tryz.results71, go_sem, c0, c1, c2, hzF]) rfl ?_
          rw [HE.out]
          refine ⟨rfl, ?_⟩
          obtain ⟨S', a1, a2⟩ := fin3a (F := w.heap.size + 1) HT.out HS.out (by omega) HNF.out
          exact ⟨S', a1.below (by go_grown), a2.trans (Tl.Step.of_below (by go_grown))⟩
        | ok a =>
          rw [hpl] at hP
          subst hP
          obtain ⟨c, hc⟩ : ∃ c, cnt va z.toNat = c := ⟨_, rfl⟩
          have HCN := Lib.hid hc
          have HPL := Lib.hid hpl
          have hcz : (c : Int) = z := by rw [← hc]; exact HC.out
          have hrow : R3 (w1.alloc (.cells #[.int .i64 0, .int .u32 0, .int .u32 0] 100)) (.slice A l.length cp) l := Tl.own_below (Tl.own_mods HL.out.row hs.mods (row_tb HL.out.row HL.out.mx.tb)) (by go_grown)
          obtain ⟨r', cap', w3, hrun, H3⟩ := run_app3 _ (.slice A l.length cp) l ⟨va, a, c⟩ hrow (by have := HL.out.len; omega)
          have HRun := Lib.hid hrun
          have HN : Hid (Lp w g rg tg r S S2 t xs u wt ah o n.toNat (.slice (some ⟨r', 0, none⟩) (l.length + 1) cap') (nxt va z.toNat) (z - c) (l ++ [⟨va, a, c⟩]) (plR t xs rows va u wt (!ah)) w3) :=
            HL.out.next hT hs (by go_grown) (by omega) hc (by rw [hcz]; exact hpl) H3.out.1 H3.out.2
          have HX : Hid (nxt va z.toNat = (va + (z)) % 4294967296) := by show _ = _; rw [nxt, HC.out]
          clear hT hs hfr hpl hrow hrun H3 hc k0 k1 k2
          simp only [World.size_alloc, hcz] at HRun
          go_wp2_with (at_builtin; refine Tl.wpList_append_run _ rfl _ _ _ _ rfl _ _ rfl rfl HRun.out ?_)
          go_roundw
          case rel =>
            exact ⟨_, z - c, congrArg (Value.int .u32) (by have := HX.out; omega), congrArg (Value.int .i64) (by omega), by omega, _, _, _, HN.out⟩
          case measure => simp [intOf]; omega
      · have HC : Hid ((cnt va z.toNat : Int) = 512 - va % 512) := cnt_high HL.out.hv hz (by omega)
        go_wp2_with fail
        refine (place_any g rg tg r S1 t rows xs va (512 - va % 512) u wt ah _ HL.out.mx HL.out.mem HL.out.hv (by omega) (by omega)).mono ?_
        rintro e w1 ⟨⟨S2, hT, hs⟩, hP⟩
        have hfr := HL.out.fr.mods hs.mods (tb_fr HL.out.mx.tb HL.out.fr).1 (tb_fr HL.out.mx.tb HL.out.fr).2
        have hzF := hfr.lt
        cases hpl : plE t xs rows va (512 - va % 512) u wt with
        | bad k i =>
          rw [hpl] at hP
          subst hP
          have HE : Hid (o = (.bad k va i, plR t xs rows va u wt (!ah))) := by
            show _ = _
            rw [HL.out.eq]
            exact walk_bad (by omega) (by rw [HC.out]; exact hpl)
          have hk := (plE_bad hpl).1
          have hk' : (k != 0) = true := by simp; omega
          obtain ⟨c0, c1, c2, f0, f1, f2⟩ := hfr.flts
          have HT := Lib.hid hT
          have HS := Lib.hid (HL.out.st.trans hs)
          have HNF := Lib.hid ((tb_fr hT hfr).2)
          clear hT hs hfr hpl hk k0 k1 k2
          go_wp2
          go_region
          go_wp2
          refine bodyPost_ret (v := .tuple #[.slice none 0 0, (Value.agg #[Value.int .i64 k, Value.int .u32 va, Value.int .u32 i])]) (by simp [results, Tryz.results71, go_sem, c0, c1, c2, hzF]) rfl ?_
          rw [HE.out]
          refine ⟨rfl, ?_⟩
          obtain ⟨S', a1, a2⟩ := fin3a (F := w.heap.size + 1) HT.out HS.out (by omega) HNF.out
          exact ⟨S', a1.below (by go_grown), a2.trans (Tl.Step.of_below (by go_grown))⟩
        | ok a =>
          rw [hpl] at hP
          subst hP
          obtain ⟨c, hc⟩ : ∃ c, cnt va z.toNat = c := ⟨_, rfl⟩
          have HCN := Lib.hid hc
          have HPL := Lib.hid hpl
          have hcz : (c : Int) = 512 - va % 512 := by rw [← hc]; exact HC.out
          have hrow : R3 (w1.alloc (.cells #[.int .i64 0, .int .u32 0, .int .u32 0] 100)) (.slice A l.length cp) l := Tl.own_below (Tl.own_mods HL.out.row hs.mods (row_tb HL.out.row HL.out.mx.tb)) (by go_grown)
          obtain ⟨r', cap', w3, hrun, H3⟩ := run_app3 _ (.slice A l.length cp) l ⟨va, a, c⟩ hrow (by have := HL.out.len; omega)
          have HRun := Lib.hid hrun
          have HN : Hid (Lp w g rg tg r S S2 t xs u wt ah o n.toNat (.slice (some ⟨r', 0, none⟩) (l.length + 1) cap') (nxt va z.toNat) (z - c) (l ++ [⟨va, a, c⟩]) (plR t xs rows va u wt (!ah)) w3) :=
            HL.out.next hT hs (by go_grown) (by omega) hc (by rw [hcz]; exact hpl) H3.out.1 H3.out.2
          have HX : Hid (nxt va z.toNat = (va + (512 - va % 512)) % 4294967296) := by show _ = _; rw [nxt, HC.out]
          clear hT hs hfr hpl hrow hrun H3 hc k0 k1 k2
          simp only [World.size_alloc, hcz] at HRun
          go_wp2_with (at_builtin; refine Tl.wpList_append_run _ rfl _ _ _ _ rfl _ _ rfl rfl HRun.out ?_)
          go_roundw
          case rel =>
            exact ⟨_, z - c, congrArg (Value.int .u32) (by have := HX.out; omega), congrArg (Value.int .i64) (by omega), by omega, _, _, _, HN.out⟩
          case measure => simp [intOf]; omega
    · have HE : Hid (o = (.ok l, rows)) := by
        show _ = _
        rw [HL.out.eq, show z.toNat = 0 by omega, walk_end]
      obtain ⟨c0, c1, c2, f0, f1, f2⟩ := HL.out.fr.flts
      clear k0 k1 k2
      go_wp2
      refine bodyPost_ret (v := .tuple #[.slice A l.length cp, (Value.agg #[Value.int .i64 0, Value.int .u32 0, Value.int .u32 0])]) (by simp [results, Tryz.results71, go_sem, c0, c1, c2]) rfl ?_
      rw [HE.out]
      have hF := (row_fr HL.out.row HL.out.fr).2
      exact ⟨⟨_, rfl, Tl.own_keep HL.out.row (fun i hi => set3 (by rintro rfl; exact hF hi)), HL.out.ab⟩, fin3 HL.out.mx.tb HL.out.st (by omega) (tb_fr HL.out.mx.tb HL.out.fr).2⟩

end Go.Proofs.YteohkobdmkbcpaaGreatDoor.Mm

/- Contracts of package mmu: mark. -/
namespace Go.Proofs.YteohkobdmkbcpaaGreatDoor.Mm
open Go.RowKit

/-- A number with its bit 26 set. -/
def mkx (y : Int) : Int := if Pt.im y then y else y + 67108864
theorem or_mark {y : Int} (h : U y) : bits .or .u32 y 67108864 = mkx y := by
  unfold mkx
  split
  · rename_i hi
    obtain ⟨n, rfl⟩ := Int.eq_ofNat_of_zero_le h.1
    have hn : n < 4294967296 := by have := h.2; omega
    have hb : n / 2 ^ 26 % 2 = 1 := by
      simp only [Pt.im, beq_iff_eq] at hi
      omega
    have e : n ||| 2 ^ 26 = n := by
      apply Nat.eq_of_testBit_eq
      intro i
      rw [Nat.testBit_or, Nat.testBit_two_pow]
      by_cases hi : 26 = i
      · subst hi
        have : n.testBit 26 = true := by rw [Nat.testBit_eq_decide_div_mod_eq, hb]; rfl
        simp [this]
      · simp [hi]
    have := u32_or_nat n (2 ^ 26) hn (by omega)
    rw [e] at this
    exact this
  · rename_i hi
    have := Pt.or_one 26 y (by omega) h (by simp only [Pt.im, beq_iff_eq] at hi; omega)
    exact this
theorem mkx_U {y : Int} (h : U y) : U (mkx y) := by
  obtain ⟨h0, h1⟩ := h
  unfold mkx
  split
  · exact ⟨h0, h1⟩
  · rename_i hi
    simp only [Pt.im, beq_iff_eq] at hi
    exact ⟨by omega, by omega⟩

/-- What a mark leaves: the buffer, the memory. -/
def mkRows (t : Tabs) (rows : Rows) (va : Int) : Rows := if t.me = 0 then rows else if Tl.hav rows (va / 512) && !Pt.im (Tl.ent rows (va / 512)) then Tl.putR rows (va / 512) (mkx (Tl.ent rows (va / 512))) else rows
def mkMem (t : Tabs) (xs : List Int) (rows : Rows) (va : Int) : List Int :=
  if t.me = 0 then xs else if Tl.hav rows (va / 512) && Pt.im (Tl.ent rows (va / 512)) then xs else
  if ein t va = true ∧ epl t va + 4 ≤ xs.length then splice xs (epl t va).toNat (Rm.low (mkx (Rm.val xs (epl t va).toNat 4)) 4) else xs
theorem mkMem_length (t : Tabs) (xs : List Int) (rows : Rows) (va : Int) : (mkMem t xs rows va).length = xs.length := by
  unfold mkMem
  split
  · rfl
  · split
    · rfl
    · split
      · rename_i h
        rw [length_splice _ _ _ (by rw [Rm.low_length]; have := (epl_U t va).1; omega)]
      · rfl

/-- A memory behind tables, and the memory. -/
structure Ms (w : World) (g rg r tg : Nat) (S : Nat → Prop) (t : Tabs) (rows : Rows) (xs : List Int) : Prop where
  mx : Mx w g rg tg S t rows
  mem : Rm.Mem w rg r xs
/-- The blocks that turn. -/
def Rg (S : Nat → Prop) (r : Nat) : Nat → Prop := fun k => S k ∨ k = r
section
variable {w w' w2 : World} {g rg r tg : Nat} {S S' S2 : Nat → Prop} {t : Tabs} {rows rows' : Rows} {xs ys : List Int}
theorem Ms.below (h : Ms w g rg r tg S t rows xs) (b : Below w.heap.size w w') : Ms w' g rg r tg S t rows xs := ⟨h.mx.below b, h.mem.below_ b⟩
theorem step_rg (h : Tl.Step S S' w w') : Tl.Step (Rg S r) (Rg S' r) w w' :=
  ⟨h.mods.mono (fun _ _ e => .inl e), fun k hk => by
    rcases hk with hk | hk
    · rcases h.grow k hk with e | e
      · exact .inl (.inl e)
      · exact .inr e
    · exact .inl (.inr hk)⟩
theorem Ms.turn (h : Ms w g rg r tg S t rows xs) (hb : Tl.Tb w' tg S' rows') (s : Tl.Step S S' w w') : Ms w' g rg r tg S' t rows' xs :=
  ⟨h.mx.turn hb s, mem_tb h.mem h.mx.tb s.mods⟩
/-- The memory alone was written. -/
theorem Ms.wrote (h : Ms w g rg r tg S t rows xs) (hm : Rm.Mem w' rg r ys) (hg : w.grownBy w' (some r)) : Ms w' g rg r tg S t rows ys ∧ Tl.Step (Rg S r) (Rg S r) w w' :=
  ⟨⟨mx_mem h.mem h.mx hg, hm⟩, Tl.Mods.of_grown hg (fun k e => .inr (by injection e with e; exact e.symm)), fun _ h => .inl h⟩
theorem Ms.lo (h : Ms w g rg r tg S t rows xs) : Tl.Lo w.heap.size (Rg S r) := fun k hk => by
  rcases hk with hk | rfl
  · exact h.mx.tb.lo k hk
  · exact h.mem.rlt
end

set_option maxRecDepth 100000 in
set_option maxHeartbeats 2000000 in
set_option maxRecDepth 100000 in
theorem mark_any (g rg r tg : Nat) (S : Nat → Prop) (t : Tabs) (rows : Rows) (xs : List Int) (va : Int) (w : World) (h : Ms w g rg r tg S t rows xs) (hv : U va) :
    Calls Tryz.prog 72 #[(Value.pointer (some ⟨g, 0, none⟩)), .int .u32 va] w fun e w' => e = .returned (.tuple #[]) ∧ ∃ S', Ms w' g rg r tg S' t (mkRows t rows va) (mkMem t xs rows va) ∧ Tl.Step (Rg S r) (Rg S' r) w w' := by
  have h5 := h.mx.c5
  have h6 := h.mx.c6
  have H := Lib.hid h
  have HV := Lib.hid hv
  have HP := Lib.hid (page_U hv)
  have hg := h.mx.glt
  obtain ⟨v0, v1⟩ := hv
  by_cases hE : t.me = 0
  · rw [hE] at h5
    have HR : Hid (mkRows t rows va = rows) := by show _ = _; rw [mkRows, if_pos hE]
    have HM : Hid (mkMem t xs rows va = xs) := by show _ = _; rw [mkMem, if_pos hE]
    clear h hE h6
    go_enter Tryz.func72, Tryz.ntmps72
    go_wp2
    first | go_end0 | (refine bodyPost_ret (results_none rfl _ _ _) rfl ?_)
    exact ⟨rfl, S, by rw [HR.out, HM.out]; exact H.out, ⟨Tl.Mods.refl _ _, fun _ h => .inl h⟩⟩
  · have hE' : (t.me == 0) = false := by simpa using hE
    have HMR : Hid (mkRows t rows va = if Tl.hav rows (va / 512) && !Pt.im (Tl.ent rows (va / 512)) then Tl.putR rows (va / 512) (mkx (Tl.ent rows (va / 512))) else rows) := by show _ = _; rw [mkRows, if_neg hE]
    have HMM : Hid (mkMem t xs rows va = if Tl.hav rows (va / 512) && Pt.im (Tl.ent rows (va / 512)) then xs else if ein t va = true ∧ epl t va + 4 ≤ xs.length then splice xs (epl t va).toNat (Rm.low (mkx (Rm.val xs (epl t va).toNat 4)) 4) else xs) := by show _ = _; rw [mkMem, if_neg hE]
    generalize t.me = me at h5 hE'
    clear hE
    cases hH : Tl.hav rows (va / 512)
    · have HX := Lib.hid (Tl.ent_out (fun e => by rw [Tl.hav, decide_eq_true e] at hH; cases hH) : Tl.ent rows (va / 512) = 0)
      rw [hH] at HMR HMM
      simp only [Bool.false_and, Bool.false_eq_true, if_false] at HMR HMM
      have HH := Lib.hid hH
      clear hH h
      go_enter Tryz.func72, Tryz.ntmps72
      go_wp2_with fail
      refine (Tl.get_as tg S rows (va / 512) 0 false _ H.out.mx.tb HX.out HH.out).mono ?_
      rintro e w1 ⟨rfl, hb1⟩
      have HMs := Lib.hid (H.out.below hb1)
      have HSt := Lib.hid (Tl.Step.of_below (S := Rg S r) hb1)
      clear hb1 h5 h6 H
      obtain ⟨S1, rfl⟩ : ∃ S1, S1 = S := ⟨S, rfl⟩
      obtain ⟨a, ha⟩ : ∃ a, epl t va = a := ⟨_, rfl⟩
      have HA := Lib.hid ha
      have HAU : Hid (U a) := ha ▸ epl_U t va
      have c0 := HMs.out.mx.c0
      have hg1 := HMs.out.mx.glt
      rw [ha] at HMM
      clear ha
      cases hI : ein t va
      · have HI := Lib.hid hI
        rw [hI] at HMM
        go_wp2_with fail
        refine (stands_as g rg tg S1 t rows va a false _ HMs.out.mx HV.out HA.out HI.out).mono ?_
        rintro e w2 ⟨rfl, hb2⟩
        have HMs2 := Lib.hid (HMs.out.below hb2)
        have HS2 := Lib.hid (HSt.out.trans (Tl.Step.of_below hb2))
        have d0 := HMs2.out.mx.c0
        clear hb2 c0 hI
        by_cases hF : a + 4 ≤ (xs.length : Int)
        · have HN : Hid (a = a.toNat) := by have := HAU.out.1; show _ = _; omega
          have HF : Hid (a.toNat + 4 ≤ xs.length) := by have := HAU.out.1; show _ ≤ _; omega
          generalize a.toNat = n at HN HF
          clear hF
          go_wp2_with fail
          refine (Rm.get_at rg r xs a n 4 HN.out _ HMs2.out.mem 4 rfl (by omega) HF.out).mono ?_
          rintro e w' ⟨rfl, rfl⟩
          go_wp2
          first | go_end0 | (refine bodyPost_ret (results_none rfl _ _ _) rfl ?_)
          exact ⟨rfl, S1, by rw [HMM.out, HMR.out]; exact HMs2.out, HS2.out⟩
        · have HF := Lib.hid hF
          clear hF
          go_wp2_with fail
          refine (Rm.get_not rg r xs a 4 _ HMs2.out.mem HAU.out.1 HAU.out.2 (by have := HF.out; omega)).mono ?_
          rintro e w' ⟨rfl, rfl⟩
          go_wp2
          first | go_end0 | (refine bodyPost_ret (results_none rfl _ _ _) rfl ?_)
          exact ⟨rfl, S1, by rw [HMM.out, HMR.out]; exact HMs2.out, HS2.out⟩
      · have HI := Lib.hid hI
        rw [hI] at HMM
        go_wp2_with fail
        refine (stands_as g rg tg S1 t rows va a true _ HMs.out.mx HV.out HA.out HI.out).mono ?_
        rintro e w2 ⟨rfl, hb2⟩
        have HMs2 := Lib.hid (HMs.out.below hb2)
        have HS2 := Lib.hid (HSt.out.trans (Tl.Step.of_below hb2))
        have d0 := HMs2.out.mx.c0
        clear hb2 c0 hI
        by_cases hF : a + 4 ≤ (xs.length : Int)
        · have HN : Hid (a = a.toNat) := by have := HAU.out.1; show _ = _; omega
          have HF : Hid (a.toNat + 4 ≤ xs.length) := by have := HAU.out.1; show _ ≤ _; omega
          rw [if_pos ⟨by trivial, hF⟩] at HMM
          generalize a.toNat = n at HN HF HMM
          have HY := Lib.hid (or_mark (show U (Rm.val xs n 4) from Rm.val_bound xs n HMs2.out.mem.byt 4 HF.out))
          clear hF
          go_wp2_with fail
          refine (Rm.get_at rg r xs a n 4 HN.out _ HMs2.out.mem 4 rfl (by omega) HF.out).mono ?_
          rintro e w' ⟨rfl, rfl⟩
          go_wp2_with fail
          rw [HY.out]
          refine (Rm.put_at rg r xs a 4 n 4 HN.out rfl (mkx (Rm.val xs n 4)) _ HMs2.out.mem (by omega) HF.out).mono ?_
          rintro e w3 ⟨rfl, hm3, hg3⟩
          have HMs3 := Lib.hid (HMs2.out.wrote hm3 hg3)
          clear hm3 hg3
          go_wp2
          first | go_end0 | (refine bodyPost_ret (results_none rfl _ _ _) rfl ?_)
          exact ⟨rfl, S1, by rw [HMM.out, HMR.out]; exact HMs3.out.1, HS2.out.trans HMs3.out.2⟩
        · have HF := Lib.hid hF
          rw [if_neg (fun e => hF e.2)] at HMM
          clear hF
          go_wp2_with fail
          refine (Rm.get_not rg r xs a 4 _ HMs2.out.mem HAU.out.1 HAU.out.2 (by have := HF.out; omega)).mono ?_
          rintro e w' ⟨rfl, rfl⟩
          go_wp2
          first | go_end0 | (refine bodyPost_ret (results_none rfl _ _ _) rfl ?_)
          exact ⟨rfl, S1, by rw [HMM.out, HMR.out]; exact HMs2.out, HS2.out⟩
    · obtain ⟨x, hx⟩ : ∃ x, Tl.ent rows (va / 512) = x := ⟨_, rfl⟩
      have HXU := Lib.hid (hx ▸ ent_U h.mx.tb.fit (va / 512) : U x)
      rw [hx, hH] at HMR HMM
      simp only [Bool.true_and] at HMR HMM
      have HX := Lib.hid hx
      have HH := Lib.hid hH
      clear hH hx h
      cases hI : Pt.im x
      · rw [hI] at HMR HMM
        simp only [Bool.false_eq_true, if_false, Bool.not_false, if_true] at HMR HMM
        have HI := Lib.hid hI
        have HO := Lib.hid (or_mark HXU.out)
        clear hI
        go_enter Tryz.func72, Tryz.ntmps72
        go_wp2_with fail
        refine (Tl.get_as tg S rows (va / 512) x true _ H.out.mx.tb HX.out HH.out).mono ?_
        rintro e w1 ⟨rfl, hb1⟩
        have HMs1 := Lib.hid (H.out.below hb1)
        have HSt1 := Lib.hid (Tl.Step.of_below (S := Rg S r) hb1)
        have d6 := HMs1.out.mx.c6
        clear hb1 h5 h6 H
        go_wp2_with fail
        refine (Pt.written_as x false HXU.out HI.out _).mono ?_
        rintro e w' ⟨rfl, rfl⟩
        go_wp2_with fail
        rw [HO.out]
        refine (Tl.put_any tg S rows (va / 512) (mkx x) _ HMs1.out.mx.tb HP.out (mkx_U HXU.out)).mono ?_
        rintro e w2 ⟨rfl, S1, hT, hs⟩
        have HMs := Lib.hid (HMs1.out.turn hT hs)
        have HSt := Lib.hid (HSt1.out.trans (step_rg hs))
        clear hT hs d6 HMs1 HSt1
        obtain ⟨a, ha⟩ : ∃ a, epl t va = a := ⟨_, rfl⟩
        have HA := Lib.hid ha
        have HAU : Hid (U a) := ha ▸ epl_U t va
        have c0 := HMs.out.mx.c0
        have hg1 := HMs.out.mx.glt
        rw [ha] at HMM
        clear ha
        cases hI : ein t va
        · have HI := Lib.hid hI
          rw [hI] at HMM
          go_wp2_with fail
          refine (stands_as g rg tg S1 t (Tl.putR rows (va / 512) (mkx x)) va a false _ HMs.out.mx HV.out HA.out HI.out).mono ?_
          rintro e w2 ⟨rfl, hb2⟩
          have HMs2 := Lib.hid (HMs.out.below hb2)
          have HS2 := Lib.hid (HSt.out.trans (Tl.Step.of_below hb2))
          have d0 := HMs2.out.mx.c0
          clear hb2 c0 hI
          by_cases hF : a + 4 ≤ (xs.length : Int)
          · have HN : Hid (a = a.toNat) := by have := HAU.out.1; show _ = _; omega
            have HF : Hid (a.toNat + 4 ≤ xs.length) := by have := HAU.out.1; show _ ≤ _; omega
            generalize a.toNat = n at HN HF
            clear hF
            go_wp2_with fail
            refine (Rm.get_at rg r xs a n 4 HN.out _ HMs2.out.mem 4 rfl (by omega) HF.out).mono ?_
            rintro e w' ⟨rfl, rfl⟩
            go_wp2
            first | go_end0 | (refine bodyPost_ret (results_none rfl _ _ _) rfl ?_)
            exact ⟨rfl, S1, by rw [HMM.out, HMR.out]; exact HMs2.out, HS2.out⟩
          · have HF := Lib.hid hF
            clear hF
            go_wp2_with fail
            refine (Rm.get_not rg r xs a 4 _ HMs2.out.mem HAU.out.1 HAU.out.2 (by have := HF.out; omega)).mono ?_
            rintro e w' ⟨rfl, rfl⟩
            go_wp2
            first | go_end0 | (refine bodyPost_ret (results_none rfl _ _ _) rfl ?_)
            exact ⟨rfl, S1, by rw [HMM.out, HMR.out]; exact HMs2.out, HS2.out⟩
        · have HI := Lib.hid hI
          rw [hI] at HMM
          go_wp2_with fail
          refine (stands_as g rg tg S1 t (Tl.putR rows (va / 512) (mkx x)) va a true _ HMs.out.mx HV.out HA.out HI.out).mono ?_
          rintro e w2 ⟨rfl, hb2⟩
          have HMs2 := Lib.hid (HMs.out.below hb2)
          have HS2 := Lib.hid (HSt.out.trans (Tl.Step.of_below hb2))
          have d0 := HMs2.out.mx.c0
          clear hb2 c0 hI
          by_cases hF : a + 4 ≤ (xs.length : Int)
          · have HN : Hid (a = a.toNat) := by have := HAU.out.1; show _ = _; omega
            have HF : Hid (a.toNat + 4 ≤ xs.length) := by have := HAU.out.1; show _ ≤ _; omega
            rw [if_pos ⟨by trivial, hF⟩] at HMM
            generalize a.toNat = n at HN HF HMM
            have HY := Lib.hid (or_mark (show U (Rm.val xs n 4) from Rm.val_bound xs n HMs2.out.mem.byt 4 HF.out))
            clear hF
            go_wp2_with fail
            refine (Rm.get_at rg r xs a n 4 HN.out _ HMs2.out.mem 4 rfl (by omega) HF.out).mono ?_
            rintro e w' ⟨rfl, rfl⟩
            go_wp2_with fail
            rw [HY.out]
            refine (Rm.put_at rg r xs a 4 n 4 HN.out rfl (mkx (Rm.val xs n 4)) _ HMs2.out.mem (by omega) HF.out).mono ?_
            rintro e w3 ⟨rfl, hm3, hg3⟩
            have HMs3 := Lib.hid (HMs2.out.wrote hm3 hg3)
            clear hm3 hg3
            go_wp2
            first | go_end0 | (refine bodyPost_ret (results_none rfl _ _ _) rfl ?_)
            exact ⟨rfl, S1, by rw [HMM.out, HMR.out]; exact HMs3.out.1, HS2.out.trans HMs3.out.2⟩
          · have HF := Lib.hid hF
            rw [if_neg (fun e => hF e.2)] at HMM
            clear hF
            go_wp2_with fail
            refine (Rm.get_not rg r xs a 4 _ HMs2.out.mem HAU.out.1 HAU.out.2 (by have := HF.out; omega)).mono ?_
            rintro e w' ⟨rfl, rfl⟩
            go_wp2
            first | go_end0 | (refine bodyPost_ret (results_none rfl _ _ _) rfl ?_)
            exact ⟨rfl, S1, by rw [HMM.out, HMR.out]; exact HMs2.out, HS2.out⟩
      · rw [hI] at HMR HMM
        simp only [Bool.false_eq_true, if_false, Bool.not_true, if_true] at HMR HMM
        have HI := Lib.hid hI
        clear hI
        go_enter Tryz.func72, Tryz.ntmps72
        go_wp2_with fail
        refine (Tl.get_as tg S rows (va / 512) x true _ H.out.mx.tb HX.out HH.out).mono ?_
        rintro e w1 ⟨rfl, hb1⟩
        go_wp2_with fail
        refine (Pt.written_as x true HXU.out HI.out _).mono ?_
        rintro e w' ⟨rfl, rfl⟩
        go_wp2
        first | go_end0 | (refine bodyPost_ret (results_none rfl _ _ _) rfl ?_)
        exact ⟨rfl, S, by rw [HMR.out, HMM.out]; exact H.out.below hb1, Tl.Step.of_below hb1⟩

end Go.Proofs.YteohkobdmkbcpaaGreatDoor.Mm
