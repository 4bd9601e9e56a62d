/- The walk of MmuMarks. -/
import Derived.Test.YtfpdemlcmfaieaaMTop
namespace Go.Proofs.Ytfpdemlcmfaieaa.Cs
open Go.RowKit

/-- Of bytes that a write lies behind, or ahead of. -/
theorem part_before (xs ys : List Int) (p a k : Nat) (h : a + k ≤ p) (hp : p ≤ xs.length) : ((splice xs p ys).drop a).take k = (xs.drop a).take k := by
  unfold splice
  rw [List.drop_append, List.take_append]
  have h1 : ((xs.take p).drop a).length = p - a := by simp; omega
  rw [h1, show k - (p - a) = 0 by omega, List.take_zero, List.append_nil, List.drop_take, List.take_take]
  congr 1
  omega
theorem part_behind (xs ys : List Int) (p a k : Nat) (h : p + ys.length ≤ a) (hp : p + ys.length ≤ xs.length) : ((splice xs p ys).drop a).take k = (xs.drop a).take k := by
  unfold splice
  have h1 : (xs.take p).length = p := by simp; omega
  congr 1
  rw [List.drop_append, List.drop_of_length_le (by omega), List.nil_append, h1, List.drop_append, List.drop_of_length_le (by omega), List.nil_append, List.drop_drop]
  congr 1
  omega
theorem val_before (xs ys : List Int) (p a k : Nat) (h : a + k ≤ p) (hp : p ≤ xs.length) : Rm.val (splice xs p ys) a k = Rm.val xs a k := by unfold Rm.val; rw [part_before xs ys p a k h hp]
theorem val_behind (xs ys : List Int) (p a k : Nat) (h : p + ys.length ≤ a) (hp : p + ys.length ≤ xs.length) : Rm.val (splice xs p ys) a k = Rm.val xs a k := by unfold Rm.val; rw [part_behind xs ys p a k h hp]
theorem val_zero (n a k : Nat) : Rm.val (List.replicate n 0) a k = 0 := by
  unfold Rm.val
  rw [List.drop_replicate, List.take_replicate]
  generalize min k (n - a) = m
  induction m with
  | zero => rfl
  | succ m ih => rw [List.replicate_succ, Rm.num, ih]; rfl

def mT : Tabs := ⟨0, 1, 0, 0, 1⟩
theorem mT_ok : mT.Ok := by simp [Tabs.Ok, mT, U, Pt.U]
/-- The entry, marked or not. -/
def mE (f : Int) (b : Bool) : Int := 2550136832 + f + if b then 67108864 else 0
theorem mE_use {f : Int} {b wr : Bool} (h : 0 ≤ f) (h' : f ≤ 6) : useE (mE f b) true wr = .ok (mE f b) ∧ Pt.im (mE f b) = b ∧ U (mE f b) := by
  have e1 : Pt.my (mE f b) true wr = true := by
    unfold Pt.my Pt.pr mE
    cases b <;> cases wr <;> simp [Pt.lst] <;> omega
  have e2 : Pt.iv (mE f b) = true := by
    unfold Pt.iv mE
    cases b <;> simp <;> omega
  have e3 : Pt.im (mE f b) = b := by
    unfold Pt.im mE
    cases b <;> simp <;> omega
  refine ⟨by simp [useE, e1, e2], e3, ?_⟩
  unfold mE U Pt.U
  cases b <;> simp <;> omega
theorem mE_pl {f a : Int} {b : Bool} (h : 0 ≤ f) (h' : f ≤ 6) (ha : 0 ≤ a) (ha' : a ≤ 508) : Pt.pl (mE f b) a = f * 512 + a := by
  unfold Pt.pl mE
  cases b <;> simp <;> omega
theorem mT_ein {a : Int} (ha : 0 ≤ a) (ha' : a ≤ 508) : ein mT a = true ∧ epl mT a = 0 := by
  have h1 : tpg a = 0 := by unfold tpg; omega
  have h2 : sys a = false := by unfold sys; simp; omega
  unfold ein epl
  rw [h1, h2]
  simp [mT]
  omega
theorem m_page {a : Int} (ha : 0 ≤ a) (ha' : a ≤ 508) : a / 512 = 0 := by omega
theorem m_cnt {a : Int} (ha : 0 ≤ a) (ha' : a ≤ 508) : cnt a 4 = 4 := by unfold cnt; omega
/-- The access, from the memory. -/
theorem m_first {f a : Int} {xs : List Int} (hf : 0 ≤ f) (hf' : f ≤ 6) (ha : 0 ≤ a) (ha' : a ≤ 508) (hl : xs.length = 4096) (hx : Rm.val xs 0 4 = mE f false) :
    walk mT xs true true true [] [] a 4 = (.ok [⟨a, f * 512 + a, 4⟩], [(0, mE f false)]) := by
  obtain ⟨i1, i2⟩ := mT_ein ha ha'
  obtain ⟨u1, _, _⟩ := mE_use (b := false) (wr := true) hf hf'
  have eE : enE mT xs [] a true true = .ok (mE f false) := by
    have : getE mT xs [] a true = .ok (mE f false) := by
      unfold getE rdE
      rw [i1, i2]
      simp [Tl.hav, Tl.pos, hl, hx]
    rw [enE, this]; exact u1
  have eP : plE mT xs [] a ((cnt a 4 : Nat) : Int) true true = .ok (f * 512 + a) := by
    rw [m_cnt ha ha', plE, if_neg (by simp [mT]), eE]
    simp only [mE_pl hf hf' ha ha', fitE, hl]
    rw [if_pos (by omega)]
  have eR : plR mT xs [] a true true true = [(0, mE f false)] := by
    rw [plR, if_neg (by simp [mT]), enR, eE]
    simp [Tl.hav, Tl.pos, Tl.putR, m_page ha ha']
  rw [walk_ok (by omega) eP, m_cnt ha ha', walk_end, eR]
  rfl
/-- From the buffer. -/
theorem m_then {f a : Int} {b wr : Bool} {xs : List Int} (hf : 0 ≤ f) (hf' : f ≤ 6) (ha : 0 ≤ a) (ha' : a ≤ 508) (hl : xs.length = 4096) :
    walk mT xs true wr true [(0, mE f b)] [] a 4 = (.ok [⟨a, f * 512 + a, 4⟩], [(0, mE f b)]) := by
  obtain ⟨u1, _, _⟩ := mE_use (b := b) (wr := wr) hf hf'
  have hv : Tl.hav [(0, mE f b)] (a / 512) = true := by rw [m_page ha ha']; simp [Tl.hav, Tl.pos]
  have he : Tl.ent [(0, mE f b)] (a / 512) = mE f b := by rw [m_page ha ha']; simp [Tl.ent, Tl.row, Tl.pos]
  have eE : enE mT xs [(0, mE f b)] a true wr = .ok (mE f b) := by
    have : getE mT xs [(0, mE f b)] a wr = .ok (mE f b) := by
      unfold getE
      rw [hv, he]; rfl
    rw [enE, this]; exact u1
  have eP : plE mT xs [(0, mE f b)] a ((cnt a 4 : Nat) : Int) true wr = .ok (f * 512 + a) := by
    rw [m_cnt ha ha', plE, if_neg (by simp [mT]), eE]
    simp only [mE_pl hf hf' ha ha', fitE, hl]
    rw [if_pos (by omega)]
  have eR : plR mT xs [(0, mE f b)] a true wr true = [(0, mE f b)] := by
    rw [plR, if_neg (by simp [mT]), enR, eE]
    simp [hv]
  rw [walk_ok (by omega) eP, m_cnt ha ha', walk_end, eR]
  rfl
/-- What the write leaves. -/
theorem m_marks {f a : Int} {xs : List Int} (hf : 0 ≤ f) (hf' : f ≤ 6) (ha : 0 ≤ a) (ha' : a ≤ 508) (hl : xs.length = 4096) (hx : Rm.val xs 0 4 = mE f false) :
    mks mT [⟨a, f * 512 + a, 4⟩] (xs, [(0, mE f false)]) = (splice xs 0 (Rm.low (mE f true) 4), [(0, mE f true)]) := by
  obtain ⟨_, i3, _⟩ := mE_use (b := false) (wr := true) hf hf'
  obtain ⟨i1, i2⟩ := mT_ein ha ha'
  have hv : Tl.hav [(0, mE f false)] (a / 512) = true := by rw [m_page ha ha']; simp [Tl.hav, Tl.pos]
  have he : Tl.ent [(0, mE f false)] (a / 512) = mE f false := by rw [m_page ha ha']; simp [Tl.ent, Tl.row, Tl.pos]
  have hk : mkx (mE f false) = mE f true := by rw [mkx, i3]; simp [mE]
  simp only [mks]
  congr 1
  · rw [mkMem, if_neg (by simp [mT]), hv, he, i3, i1, i2]
    simp [hl, hx, hk]
  · rw [mkRows, if_neg (by simp [mT]), hv, he, i3, hk]
    simp [Tl.putR, m_page ha ha', Tl.pos]

end Go.Proofs.Ytfpdemlcmfaieaa.Cs
