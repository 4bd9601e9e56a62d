/- What each instruction does, as numbers. No program is in sight. -/
import Derived.Test.YteohkobdmkbcpaaGreatDoorXNum
namespace Go.Proofs.YteohkobdmkbcpaaGreatDoor.Cs

/-- The words that bytes are; the bytes of words. -/
def wds (ys : List Int) : List Int := (List.range (ys.length / 4)).map fun j => Rm.val ys (4 * j) 4
def laid (l : List Int) : List Int := l.flatMap fun x => Rm.low x 4
/-- The registers, of the first n, that a mask names. -/
def nam (m : Int) (n : Nat) : List Int := ((List.range n).filter fun i => Bt.Sh.bi m i).map fun (i : Nat) => (i : Int)
def ext (x z : Int) : Int := Bt.ex x z
namespace Mc
def lgs (c : Mc) (va : Int) (n : Nat) : List Int × Option Rz := (wds (c.ld va (4 * n)).1, (c.ld va (4 * n)).2)
/-- several registers, one after the other -/
def sts (c : Mc) : List Int → List Int → Mc
  | k :: l, x :: m => sts (c.sr k x) l m
  | _, _ => c
def gts (c : Mc) (l : List Int) : List Int := l.map c.gr
/-- a branch by an operand, if it is taken -/
def bra (c : Mc) (b : Od) (t : Bool) : Option Rz × Mc := (none, if t then c.add 15 (ext b.x b.z) else c)
/-- where it may go: what it answers, if nothing is raised -/
def thn (q : Option Rz × Mc) (f : Mc → Option Rz × Mc) : Option Rz × Mc :=
  match q with
  | (none, c) => f c
  | (some r, c) => (some r, c)
def low1 (x al : Int) : Bool := x % 2 == al
/-- a field: its register, or its address; the first bit, the size, the bytes -/
structure Fd where
  r : Int
  a : Int
  f : Int
  s : Int
  n : Int
def fld (p s : Int) (v : Od) : Fd × Option Rz :=
  if 32 < s then (⟨0, 0, 0, 0, 0⟩, some ⟨24, [], false⟩)
  else if s = 0 then (⟨-1, 0, 0, 0, 0⟩, none)
  else if v.r = -1 then (⟨-1, ad v.a (Bt.sg p 4 / 8 % 4294967296), p % 8, s, Bt.Sh.sp (p % 8) s⟩, none)
  else if 32 - s < p then (⟨0, 0, 0, 0, 0⟩, some ⟨24, [], false⟩)
  else (⟨v.r, 0, p, s, 0⟩, none)
def row (c : Mc) (f : Fd) : Int × Option Rz :=
  if f.r = -1 then (Rm.num (c.ld f.a f.n.toNat).1, (c.ld f.a f.n.toNat).2) else (c.gr f.r, none)
/-- a field's bits as a number -/
def exd (c : Mc) (p s : Int) (v : Od) (g : Bool) : Int × Option Rz :=
  match fld p s v with
  | (_, some r) => (0, some r)
  | (f, none) => (Bt.Sh.ev (c.row f).1 (f.f % 32).toNat f.s.toNat g, (c.row f).2)
def ins (c : Mc) (x p s : Int) (v : Od) : Option Rz × Mc :=
  match fld p s v with
  | (_, some r) => (some r, c)
  | (f, none) =>
    match c.row f with
    | (_, some r) => (some r, c)
    | (w, none) =>
      let y := Bt.Sh.iv w (f.f % 32).toNat f.s.toNat x
      if f.r = -1 then c.sto c.us f.a ((laid [y % 4294967296, y / 4294967296 % 4294967296]).take f.n.toNat)
      else (none, c.sr f.r (y % 4294967296))
/-- the ALU -/
def flg (A : Bt.Al.An) : Fg := ⟨A.n, A.z, A.v, A.c⟩
def rek (c : Mc) (cl al : Int) (l : List Od) : Option Rz × Mc :=
  let a := l.getD 0 zod
  let b := l.getD (min 1 (l.length - 1)) zod
  let A := Bt.Al.an al a.x b.x c.cy a.z
  thn (if cl = 16 ∨ cl = 17 then (none, c) else c.res (l.getD (l.length - 1) zod) A.x) fun c' =>
    (if A.k then none else some ⟨52, [2], true⟩, c'.cod (flg A))
def mvd (c : Mc) (x : Int) : Fg := flg (Bt.Al.an 1 x 0 c.cy 4)
/-- counted -/
def ctd (c : Mc) (q b : Od) (x : Int) (f : Fg) (lo hi al : Int) : Option Rz × Mc :=
  thn (c.cdd q x ⟨f.n, f.z, f.v, c.cy⟩) fun c' => c'.bra b (decide (Bt.sg lo 4 < Bt.sg hi 4) || (lo == hi && al == 1))
/-- two writes, one address after the other; none, if one can't be done -/
def prb (c : Mc) (va : Int) (n : Nat) : Option Rz := msd (c.ac c.us true va n).1
/-- processor registers -/
def tab (t : Mm.Tabs) (n x : Int) : Option Mm.Tabs :=
  if n = 8 then some ⟨x, t.pn, t.sb, t.sn, t.me⟩ else if n = 9 then some ⟨t.pb, x, t.sb, t.sn, t.me⟩
  else if n = 12 then some ⟨t.pb, t.pn, x, t.sn, t.me⟩ else if n = 13 then some ⟨t.pb, t.pn, t.sb, x, t.me⟩
  else if n = 56 then some ⟨t.pb, t.pn, t.sb, t.sn, x⟩ else none
def tabg (t : Mm.Tabs) (n : Int) : Option Int :=
  if n = 8 then some t.pb else if n = 9 then some t.pn else if n = 12 then some t.sb else if n = 13 then some t.sn else if n = 56 then some t.me else none
def stk (c : Mc) (u : Bool) : Int := c.e.at (Hr.pe c.e.p u)
def spr (c : Mc) (n x : Int) : Option Mc :=
  if n = 0 ∨ n = 3 then some { c with e := c.e.to (Hr.pe c.e.p (n == 3)) x }
  else if n = 17 then some { c with sc := x }
  else if n = 18 then some (c.psl (Ps.la c.e.p (x % 32)))
  else if n = 57 ∨ n = 58 then some c
  else (tab c.t n x).map fun t => { c with t := t }
def gpr (c : Mc) (n : Int) : Option Int :=
  if n = 0 ∨ n = 3 then some (c.stk (n == 3)) else if n = 17 then some c.sc else if n = 18 then some (Ps.ip c.e.p) else tabg c.t n
/-- a handler is gone to -/
def frm (c : Mc) (z : Rz) : List Int := laid (c.e.p :: c.gr 15 :: z.l).reverse
def vec (c : Mc) (z : Rz) : Int := ad c.sc z.v
def hnd (c : Mc) (z : Rz) (lv : Int) : Mc :=
  let a := (c.vec z).toNat
  let e := sb (c.stk false) (c.frm z).length
  if c.xs.length < a + 4 then { c with ha := 3 }
  else if Rm.val c.xs a 4 % 4 ≠ 0 then { c with ha := 4 }
  else match c.sto false e (c.frm z) with
    | (some _, c') => { c' with ha := 2 }
    | (none, c') => ((c'.psl (Ps.en c'.e.p lv)).sr 14 e).sr 15 (Rm.val c.xs a 4)
end Mc
/-! strings -/
def fpd (p : Int) : Int := if Bt.Sh.bi p 27 then p - 134217728 else p
def fps (p : Int) : Int := if Bt.Sh.bi p 27 then p else p + 134217728
def cmf (a b s : Int) : Fg := ⟨decide (Bt.sg a s < Bt.sg b s), a % Bt.W s == b % Bt.W s, false, decide (a % Bt.W s < b % Bt.W s)⟩
def chk (n : Int) : Int := min n 8
def cor (a b : Int) : Int := ((a.toNat ||| b.toNat : Nat) : Int)
/-- how many are the same, from k on -/
def lcp (a b : List Int) (ch : Int) : Nat → Nat → Nat
  | 0, k => k
  | m + 1, k => if a.getD k ch = b.getD k ch then lcp a b ch m (k + 1) else k
namespace Mc
def ovr (c : Mc) (st len : Int) (f : Fg) : Mc := ((c.sr 15 (ad st len)).psl (fpd (c.sr 15 (ad st len)).e.p)).cod f
/-- some bytes are moved; how many are left -/
def mvc (c : Mc) (rem n : Int) : Option Rz × Int × Mc :=
  let k := chk rem
  let by_ := if c.gr 4 % 2 = 1 then sb rem k else sb n rem
  match c.ld (ad (c.gr 1) by_) k.toNat with
  | (_, some r) => (some r, rem, c)
  | (b, none) => (((c.add 0 (sb 0 k)).sto (c.add 0 (sb 0 k)).us (ad ((c.add 0 (sb 0 k)).gr 3) by_) b).1, sb rem k, ((c.add 0 (sb 0 k)).sto (c.add 0 (sb 0 k)).us (ad ((c.add 0 (sb 0 k)).gr 3) by_) b).2)
def edd (c : Mc) (l r w : Int) : Mc := ((((((c.add 1 r).add 3 w).sr 0 l).sr 2 0).sr 4 0).sr 5 0)
def mov (c : Mc) (st len rem : Int) : Option Rz × Mc :=
  let t := c.gr 2 % 65536
  if t < rem then (some ⟨24, [], false⟩, c) else
  match c.mvc rem t with
  | (some r, _, c') => (some r, c')
  | (none, m, c') => (none, if m = 0 then (c'.edd 0 t t).ovr st len ⟨false, true, false, false⟩ else c')
def fll (c : Mc) (n room rem ch : Int) : Option Rz × Int × Mc :=
  if 0 < rem then c.mvc rem n else
  let l := c.gr 5
  let b := List.replicate (chk l).toNat ch
  let c' := c.add 5 (sb 0 b.length)
  ((c'.sto c'.us (sb (ad (c'.gr 3) room) l) b).1, rem, (c'.sto c'.us (sb (ad (c'.gr 3) room) l) b).2)
def fil (c : Mc) (st len rem ch : Int) : Option Rz × Mc :=
  let f := c.gr 2 % 65536
  let t := c.gr 2 / 65536
  let n := min f t
  if n < rem ∨ t - n < c.gr 5 then (some ⟨24, [], false⟩, c) else
  match c.fll n t rem ch with
  | (some r, _, c') => (some r, c')
  | (none, m, c') => (none, if m = 0 ∧ c'.gr 5 = 0 then (c'.edd (f - n) n t).ovr st len (cmf f t 2) else c')
def cmp (c : Mc) (cl st len rem ch : Int) : Option Rz × Mc :=
  let o := if cl = 43 then c.gr 2 % 65536 else rem
  match c.ld (c.gr 1) (chk rem).toNat with
  | (_, some r) => (some r, c)
  | (a, none) =>
    match c.ld (c.gr 3) (chk o).toNat with
    | (_, some r) => (some r, c)
    | (b, none) =>
      let lo := max a.length b.length
      let n := lcp a b ch lo 0
      let r := min n a.length
      let h := min n b.length
      let c' := ((c.add 0 (sb 0 r)).add 1 r).add 3 h
      if n = lo ∧ (0 < rem - r ∨ h < o) then (none, if cl = 43 then c'.add 2 (sb 0 h) else c')
      else (none, ((c'.sr 0 (rem - r)).sr 2 (o - h)).ovr st len (cmf (a.getD n ch) (b.getD n ch) 1))
def sea (c : Mc) (cl st len rem ch : Int) : Option Rz × Mc :=
  match c.ld (c.gr 1) (chk rem).toNat with
  | (_, some r) => (some r, c)
  | (b, none) =>
    let n := (b.takeWhile fun x => (x == ch) != (cl == 44)).length
    let c' := (c.add 0 (sb 0 n)).add 1 n
    (none, if n < b.length ∨ rem - n = 0 then (c'.sr 0 (rem - n)).ovr st len ⟨false, rem - n == 0, false, false⟩ else c')
/-- a part of a string -/
def gon (c : Mc) (st cl : Int) : Option Rz × Mc :=
  let x := c.gr 0
  let c' := c.sr 15 st
  if cl = 40 then c'.mov st (x / 16777216) (x % 65536)
  else if cl = 41 then c'.fil st (x / 16777216) (x % 65536) (x / 65536 % 256)
  else if cl = 42 ∨ cl = 43 then c'.cmp cl st (x / 16777216) (x % 65536) (x / 65536 % 256)
  else c'.sea cl st (x / 16777216) (x % 65536) (x / 65536 % 256)
/-- a string instruction begins: the registers from k on -/
def srs (c : Mc) : Nat → List Int → Mc
  | _, [] => c
  | k, x :: l => srs (c.sr k x) (k + 1) l
def bgn (c : Mc) (st : Int) : List Int → Option Rz × Mc
  | [] => (none, c)
  | x :: l => (none, ((c.srs 0 (cor x (sb (c.gr 15) st * 16777216 % 4294967296) :: l)).sr 15 st).psl (fps ((c.srs 0 (cor x (sb (c.gr 15) st * 16777216 % 4294967296) :: l)).sr 15 st).e.p))
end Mc
def wth (n f t : Int) : Int := if 0 < sb t f ∧ sb t f < n then 1 else 0
end Go.Proofs.YteohkobdmkbcpaaGreatDoor.Cs
