/- What Do answers, as numbers. -/
import Derived.Test.YtfninhgjejdafaaALeaf
namespace Go.Proofs.Ytfninhgjejdafaa.Cs
open Go.RowKit

/-- an answer: the number, the four codes, can it be done -/
structure An where
  x : Int
  n : Bool
  z : Bool
  v : Bool
  c : Bool
  k : Bool
/-- as a value -/
def An.val (A : An) : Value := .tuple #[.int .u32 A.x, .agg #[.bool A.n, .bool A.z, .bool A.v, .bool A.c], .bool A.k]

def lgA (op a b : Int) (c : Bool) (s : Int) : An := ⟨lg op a b % W s, ng (lg op a b) s, zr (lg op a b) s, false, c, true⟩
def dfA (a b : Int) (c : Bool) (s : Int) : An := ⟨df a b c s % W s, ng (df a b c s) s, zr (df a b c s) s, !ft (df a b c s) s, decide (a % W s < b % W s + bt c), true⟩
def smA (a b : Int) (c : Bool) (s : Int) : An := ⟨sm a b c s % W s, ng (sm a b c s) s, zr (sm a b c s) s, !ft (sm a b c s) s, decide (W s ≤ a % W s + b % W s + bt c), true⟩
def mlA (a b s : Int) : An := ⟨sg a s * sg b s % W s, ng (sg a s * sg b s) s, zr (sg a s * sg b s) s, !ft (sg a s * sg b s) s, false, true⟩
def dvA (a b s : Int) : An := ⟨dq a b s % W s, ng (dq a b s) s, zr (dq a b s) s, dv a b s, false, sg b s != 0⟩
def cpA (a b s : Int) : An := ⟨a % W s, decide (sg a s < sg b s), a % W s == b % W s, false, decide (a % W s < b % W s), true⟩
def tsA (a s : Int) : An := ⟨a % W s, ng a s, zr a s, false, false, true⟩
def noA : An := ⟨0, false, false, false, false, false⟩

/-- what Do answers -/
def an (op a b : Int) (c : Bool) (s : Int) : An :=
  if lgc op then lgA op a b c s
  else if op = 3 then dfA 0 a false s
  else if op = 4 then smA a 1 false s
  else if op = 5 then dfA a 1 false s
  else if op = 6 then smA b a false s
  else if op = 7 then dfA b a false s
  else if op = 8 then smA b a c s
  else if op = 9 then dfA b a c s
  else if op = 10 then mlA b a s
  else if op = 11 then dvA b a s
  else if op = 16 then cpA a b s
  else if op = 17 then tsA a s
  else noA

theorem dvv_val (a b s : Int) : dvv a b s = (dvA a b s).val := rfl

/-! each part hangs on the rests alone -/
theorem sg_congr {s x y : Int} (h : x % W s = y % W s) : sg x s = sg y s := by unfold sg; rw [h]
theorem lgA_congr {op a b a' b' s : Int} (c : Bool) (hs : Sz s) (ha : U a) (hb : U b) (ha' : U a') (hb' : U b') (h : a % W s = a' % W s) (k : b % W s = b' % W s) : lgA op a b c s = lgA op a' b' c s := by
  have l1 := lg_congr (op := op) hs ha hb ha' hb' h k
  unfold lgA; rw [l1, ng_congr l1, zr_congr l1]
theorem dfA_congr {a b a' b' s : Int} (c : Bool) (h : a % W s = a' % W s) (k : b % W s = b' % W s) : dfA a b c s = dfA a' b' c s := by
  have e : df a b c s = df a' b' c s := by unfold df; rw [sg_congr h, sg_congr k]
  unfold dfA; rw [e, h, k]
theorem smA_congr {a b a' b' s : Int} (c : Bool) (h : a % W s = a' % W s) (k : b % W s = b' % W s) : smA a b c s = smA a' b' c s := by
  have e : sm a b c s = sm a' b' c s := by unfold sm; rw [sg_congr h, sg_congr k]
  unfold smA; rw [e, h, k]
theorem mlA_congr {a b a' b' s : Int} (h : a % W s = a' % W s) (k : b % W s = b' % W s) : mlA a b s = mlA a' b' s := by
  unfold mlA; rw [sg_congr h, sg_congr k]
theorem dvA_congr {a b a' b' s : Int} (h : a % W s = a' % W s) (k : b % W s = b' % W s) : dvA a b s = dvA a' b' s := by
  have e : dq a b s = dq a' b' s := by unfold dq; rw [sg_congr h, sg_congr k]
  have f : dv a b s = dv a' b' s := by unfold dv; rw [e, sg_congr k]
  unfold dvA; rw [e, f, sg_congr k]
theorem cpA_congr {a b a' b' s : Int} (h : a % W s = a' % W s) (k : b % W s = b' % W s) : cpA a b s = cpA a' b' s := by
  unfold cpA; rw [sg_congr h, sg_congr k, h, k]
theorem tsA_congr {a a' s : Int} (h : a % W s = a' % W s) : tsA a s = tsA a' s := by
  unfold tsA; rw [ng_congr h, zr_congr h, h]
theorem an_congr {op a b a' b' s : Int} (c : Bool) (hs : Sz s) (ha : U a) (hb : U b) (ha' : U a') (hb' : U b') (h : a % W s = a' % W s) (k : b % W s = b' % W s) : an op a b c s = an op a' b' c s := by
  unfold an
  rw [lgA_congr c hs ha hb ha' hb' h k, dfA_congr (a := 0) (a' := 0) false rfl h, smA_congr (b := 1) (b' := 1) false h rfl, dfA_congr (b := 1) (b' := 1) false h rfl, smA_congr false k h, dfA_congr false k h, smA_congr c k h, dfA_congr c k h, mlA_congr k h, dvA_congr k h, cpA_congr h k, tsA_congr h]

theorem U_if {p : Prop} [Decidable p] {A B : An} (h : U A.x) (k : U B.x) : U (if p then A else B).x := by split <;> assumption
theorem an_U {op a b : Int} {c : Bool} {s : Int} (hs : Sz s) : U (an op a b c s).x := by
  have r : ∀ x : Int, U (x % W s) := fun x => by have := rest_bound hs x; exact ⟨by omega, by omega⟩
  unfold an
  exact U_if (r _) (U_if (r _) (U_if (r _) (U_if (r _) (U_if (r _) (U_if (r _) (U_if (r _) (U_if (r _) (U_if (r _) (U_if (r _) (U_if (r _) (U_if (r _) ⟨by show (0 : Int) ≤ 0; omega, by show (0 : Int) < _; omega⟩)))))))))))

end Go.Proofs.Ytfninhgjejdafaa.Cs
