/- The machine as numbers: what each of its parts does. No program is in sight. -/
import Derived.Test.YteohkobdmkbcpaaGreatDoorGMm3
import Derived.Test.YteohkobdmkbcpaaGreatDoorGRe2
import Derived.Test.YteohkobdmkbcpaaGreatDoorGAlu
import Derived.Test.YteohkobdmkbcpaaGreatDoorGShf
import Derived.Test.YteohkobdmkbcpaaGreatDoorGIs3
import Derived.Test.YteohkobdmkbcpaaGreatDoorGSp2
namespace Go.Proofs.YteohkobdmkbcpaaGreatDoor.Cs

abbrev U := Pt.U
abbrev Od0 := Bt.Es.Sp
/-- what is raised: the vector, what is pushed with it, whether it comes behind -/
structure Rz where
  v : Int
  l : List Int
  b : Bool
/-- the machine: registers, tables, SCBB, Halt, the memory's bytes -/
structure Mc where
  e : Hr.Re
  t : Mm.Tabs
  sc : Int
  ha : Int
  xs : List Int
/-- codes -/
structure Fg where
  n : Bool
  z : Bool
  v : Bool
  c : Bool
def Fg.val (f : Fg) : Value := .agg #[.bool f.n, .bool f.z, .bool f.v, .bool f.c]
/-- an operand that is evaluated: size, number, register, address -/
structure Od where
  z : Int
  x : Int
  r : Int
  a : Int
/-- an instruction that is done: where it begins, what it is, its operands -/
structure Dg where
  st : Int
  op : Tl.Ia.Oq
  l : List Od
def ad (a b : Int) : Int := (a + b) % 4294967296
def sb (a b : Int) : Int := (a - b) % 4294967296
theorem ad_U (a b : Int) : U (ad a b) := ⟨by unfold ad; omega, by unfold ad; omega⟩
theorem sb_U (a b : Int) : U (sb a b) := ⟨by unfold sb; omega, by unfold sb; omega⟩
def zod : Od := ⟨0, 0, 0, 0⟩

namespace Mc
def gr (c : Mc) (k : Int) : Int := if 0 ≤ k ∧ k < 16 then c.e.r.getD k.toNat 0 else 0
def sr (c : Mc) (k x : Int) : Mc := if 0 ≤ k ∧ k < 16 then { c with e := c.e.reg k.toNat x } else c
/-- so many of a register's bytes -/
def sp (c : Mc) (k x s : Int) : Mc := c.sr k (Hr.pu (c.gr k) x s)
def add (c : Mc) (k x : Int) : Mc := c.sr k (ad (c.gr k) x)
def us (c : Mc) : Bool := Ps.bi c.e.p 24
def mem (c : Mc) (xs : List Int) : Mc := { c with xs := xs }
def psl (c : Mc) (p : Int) : Mc := { c with e := Hr.pt c.e p }
def cod (c : Mc) (f : Fg) : Mc := c.psl (Ps.wi c.e.p (Ps.cd f.n f.z f.v f.c))
def fl (c : Mc) : Fg := ⟨Ps.bi c.e.p 3, Ps.bi c.e.p 2, Ps.bi c.e.p 1, Ps.bi c.e.p 0⟩
def cy (c : Mc) : Bool := Ps.bi c.e.p 0
/-- an access -/
def ac (c : Mc) (u wr : Bool) (va : Int) (n : Nat) : Mm.Acc × Mm.Rows := Mm.walk c.t c.xs u wr true [] [] va n
end Mc
/-- what an access that isn't made raises -/
def msd : Mm.Acc → Option Rz
  | .ok _ => none
  | .bad k va i => some (if k = 2 then ⟨32, [va, i], false⟩ else if k = 3 then ⟨36, [va, i], false⟩ else ⟨4, [0], false⟩)
namespace Mc
def ld (c : Mc) (va : Int) (n : Nat) : List Int × Option Rz := (Mm.accY c.xs (c.ac c.us false va n).1, msd (c.ac c.us false va n).1)
def get (c : Mc) (va z : Int) : Int × Option Rz := (Rm.num (c.ld va (min z 4).toNat).1, (c.ld va (min z 4).toNat).2)
def sto (c : Mc) (u : Bool) (va : Int) (ys : List Int) : Option Rz × Mc :=
  (msd (c.ac u true va ys.length).1, c.mem (Mm.stM c.t c.xs (c.ac u true va ys.length).2 ys (c.ac u true va ys.length).1))
def put (c : Mc) (va x z : Int) : Option Rz × Mc := c.sto c.us va (Rm.low x (max 0 (min z 4)).toNat)
/-- the next byte -/
def fet (c : Mc) : Int × Option Rz × Mc :=
  match c.get (c.gr 15) 1 with
  | (x, none) => (x % 256, none, c.add 15 1)
  | (x, some z) => (x % 256, some z, c)
/-- a specifier, byte by byte: k bytes more at most -/
def spc : Nat → List Int → Mc → Int → Int → Bt.Es.Sp × Option Rz × Mc
  | 0, _, c, _, _ => (Bt.Es.zs, none, c)
  | k + 1, ys, c, a, z =>
    match c.fet with
    | (_, some r, c') => (Bt.Es.zs, some r, c')
    | (x, none, c') =>
      if (Bt.Es.dec (ys ++ [x]) a z).2 = 3 then spc k (ys ++ [x]) c' a z
      else if (Bt.Es.dec (ys ++ [x]) a z).1.k = 14 then (Bt.Es.zs, some ⟨28, [], false⟩, c')
      else ((Bt.Es.dec (ys ++ [x]) a z).1, none, c')
/-- where an operand is, without an index; with one -/
def bas (c : Mc) (s : Bt.Es.Sp) (z : Int) : Int × Option Rz × Mc :=
  if s.k = 7 then (sb (c.gr s.r) z, none, c.add s.r (sb 0 z))
  else if s.k = 8 then (c.gr s.r, none, c.add s.r z)
  else if s.k = 9 then (((c.add s.r 4).get (c.gr s.r) 4).1, ((c.add s.r 4).get (c.gr s.r) 4).2, c.add s.r 4)
  else if s.k = 10 then (ad (c.gr s.r) s.x, none, c)
  else if s.k = 11 then ((c.get (ad (c.gr s.r) s.x) 4).1, (c.get (ad (c.gr s.r) s.x) 4).2, c)
  else if s.k = 13 then (s.x, none, c)
  else (c.gr s.r, none, c)
def adr (c : Mc) (s : Bt.Es.Sp) (z : Int) : Int × Option Rz × Mc :=
  match c.bas s z with
  | (x, r, c') => (if s.i = -1 then x else ad x (c'.gr s.i * z % 4294967296), r, c')
/-- the next operand -/
def eva (c : Mc) (a z : Int) : Od × Option Rz × Mc :=
  match spc 8 [] c a z with
  | (_, some r, c') => (zod, some r, c')
  | (s, none, c') =>
    if s.k = 0 ∨ s.k = 12 then (⟨z, s.x % Bt.W z, -1, 0⟩, none, c')
    else if s.k = 5 then (⟨z, c'.gr s.r % Bt.W z, s.r, 0⟩, none, c')
    else match c'.adr s z with
      | (at_, some r, c2) => (⟨z, 0, -1, at_⟩, some r, c2)
      | (at_, none, c2) => if a = 114 ∨ a = 109 then (⟨z, (c2.get at_ z).1, -1, at_⟩, (c2.get at_ z).2, c2) else (⟨z, 0, -1, at_⟩, none, c2)
/-- all operands -/
def evs (c : Mc) : List (Int × Int) → List Od → Option (List Od) × Option Rz × Mc
  | [], q => (some q, none, c)
  | o :: l, q =>
    match c.eva o.1 o.2 with
    | (_, some r, c') => (none, some r, c')
    | (v, none, c') => evs c' l (q ++ [v])
/-- a number goes to an operand -/
def res (c : Mc) (o : Od) (x : Int) : Option Rz × Mc := if o.r = -1 then c.put o.a x o.z else (none, c.sp o.r x o.z)
def cdd (c : Mc) (o : Od) (x : Int) (f : Fg) : Option Rz × Mc := ((c.res o x).1, (c.res o x).2.cod f)
/-- a number is pushed -/
def psh (c : Mc) (x : Int) : Option Rz × Mc :=
  match c.put (sb (c.gr 14) 4) x 4 with
  | (none, c') => (none, c'.sr 14 (sb (c.gr 14) 4))
  | (some r, c') => (some r, c')
end Mc
end Go.Proofs.YteohkobdmkbcpaaGreatDoor.Cs
