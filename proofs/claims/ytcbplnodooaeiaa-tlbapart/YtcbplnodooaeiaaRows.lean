/-
  No cell of these rows narrows 'for every input' (looked for: loops, veiled, ifaces, maps, wideKeys, modest, calm, conditions, laid).
  DERIVED. THE GIVEN ROWS OF THIS SEAT. 5 by the template 'for every input the law returns true; each argument reads behind the call as it read before'; 0 by the template 'total and deterministic' (their statements: YtcbplnodooaeiaaTotals.lean).
  GIVEN WITH THE SEED: the statements are not yours to turn. If you find one false, say at which input.
  Laid BY PROGRAM, IN A SANDBOX (cutbox-rows.mjs): the forced cells as the released guide's own fill.sh prints them over the translation e1bf3c1ecccc78d8… (all of the seat's roots in one cut). By AI agents, Wed Nov 11 2026. No macro, syntax, notation, axiom, sorry.
-/
import Derived.Test.YtcbplnodooaeiaaChecked
import GoSem.Claim
import GoSem.ClaimJoined
import GoSem.ClaimMapViews
import Derived.JoinedTies
import Derived.KernelRfl
namespace Go.Proofs.Ytcbplnodooaeiaa
/- THE CELL 'sum', in the pinned program and in every row, IS THE sha256 OF THE DUMP (.gsa) THAT YtcbplnodooaeiaaProg.lean LOADS. Nothing in Lean hashes anything: it is a label: what it is worth is what the hold of that sum in a sandbox is worth. -/
noncomputable def Try.pinned : Pinned := { name := "ytcbplnodooaeiaa", sum := "e1bf3c1ecccc78d805499c4c6ce1b87b1e465edd14ea953d5dd17c48a370e11b", checked := Try.checked }
namespace Rows
def none {H : Type} : Left H := { results := [], args := [] }

/-- 'camshaftlaw04.TlbDoes': WHATEVER THE INPUT: true; the input reads as it did. -/
def tlbDoesSpec : ChangeSpec := { name := "tlbDoes", fn := fun _ => fun
  | [d] => { results := [.lit (.bool true)], args := [d] }
  | _ => none }
def tlbDoesRow : OpenClaim := { program := "ytcbplnodooaeiaa", sum := "e1bf3c1ecccc78d805499c4c6ce1b87b1e465edd14ea953d5dd17c48a370e11b", func := "camshaft/camshaftlaw04.TlbDoes", spec := "tlbDoes", unfollowed := true, recurses := true, apart := false }
def TlbDoesSaid : Prop := tlbDoesRow.holds Try.pinned (OpenSpec.ofChange tlbDoesSpec)

/-- ITS FALSE NEIGHBOUR: 'it returns false'. Refute it at one input. -/
def tlbDoesWrong : ChangeSpec := { name := "tlbDoes", fn := fun _ => fun
  | [d] => { results := [.lit (.bool false)], args := [d] }
  | _ => none }
def TlbDoesWrongFalsely : Prop := tlbDoesRow.holds Try.pinned (OpenSpec.ofChange tlbDoesWrong)

/-- 'camshaftlaw04.TlbLasts': WHATEVER THE INPUT: true; the input reads as it did. -/
def tlbLastsSpec : ChangeSpec := { name := "tlbLasts", fn := fun _ => fun
  | [d1, d2, d3] => { results := [.lit (.bool true)], args := [d1, d2, d3] }
  | _ => none }
def tlbLastsRow : OpenClaim := { program := "ytcbplnodooaeiaa", sum := "e1bf3c1ecccc78d805499c4c6ce1b87b1e465edd14ea953d5dd17c48a370e11b", func := "camshaft/camshaftlaw04.TlbLasts", spec := "tlbLasts", unfollowed := true, recurses := true, apart := false }
def TlbLastsSaid : Prop := tlbLastsRow.holds Try.pinned (OpenSpec.ofChange tlbLastsSpec)

/-- ITS FALSE NEIGHBOUR: 'it returns false'. Refute it at one input. -/
def tlbLastsWrong : ChangeSpec := { name := "tlbLasts", fn := fun _ => fun
  | [d1, d2, d3] => { results := [.lit (.bool false)], args := [d1, d2, d3] }
  | _ => none }
def TlbLastsWrongFalsely : Prop := tlbLastsRow.holds Try.pinned (OpenSpec.ofChange tlbLastsWrong)

/-- 'camshaftlaw04.TlbKeeps': WHATEVER THE INPUT: true; the input reads as it did. -/
def tlbKeepsSpec : ChangeSpec := { name := "tlbKeeps", fn := fun _ => fun
  | [d] => { results := [.lit (.bool true)], args := [d] }
  | _ => none }
def tlbKeepsRow : OpenClaim := { program := "ytcbplnodooaeiaa", sum := "e1bf3c1ecccc78d805499c4c6ce1b87b1e465edd14ea953d5dd17c48a370e11b", func := "camshaft/camshaftlaw04.TlbKeeps", spec := "tlbKeeps", unfollowed := true, recurses := true, apart := false }
def TlbKeepsSaid : Prop := tlbKeepsRow.holds Try.pinned (OpenSpec.ofChange tlbKeepsSpec)

/-- ITS FALSE NEIGHBOUR: 'it returns false'. Refute it at one input. -/
def tlbKeepsWrong : ChangeSpec := { name := "tlbKeeps", fn := fun _ => fun
  | [d] => { results := [.lit (.bool false)], args := [d] }
  | _ => none }
def TlbKeepsWrongFalsely : Prop := tlbKeepsRow.holds Try.pinned (OpenSpec.ofChange tlbKeepsWrong)

/-- 'camshaftlaw04.TlbTwice': WHATEVER THE INPUT: true; the input reads as it did. -/
def tlbTwiceSpec : ChangeSpec := { name := "tlbTwice", fn := fun _ => fun
  | [d1, d2, d3] => { results := [.lit (.bool true)], args := [d1, d2, d3] }
  | _ => none }
def tlbTwiceRow : OpenClaim := { program := "ytcbplnodooaeiaa", sum := "e1bf3c1ecccc78d805499c4c6ce1b87b1e465edd14ea953d5dd17c48a370e11b", func := "camshaft/camshaftlaw04.TlbTwice", spec := "tlbTwice", unfollowed := true, recurses := true, apart := false }
def TlbTwiceSaid : Prop := tlbTwiceRow.holds Try.pinned (OpenSpec.ofChange tlbTwiceSpec)

/-- ITS FALSE NEIGHBOUR: 'it returns false'. Refute it at one input. -/
def tlbTwiceWrong : ChangeSpec := { name := "tlbTwice", fn := fun _ => fun
  | [d1, d2, d3] => { results := [.lit (.bool false)], args := [d1, d2, d3] }
  | _ => none }
def TlbTwiceWrongFalsely : Prop := tlbTwiceRow.holds Try.pinned (OpenSpec.ofChange tlbTwiceWrong)

/-- 'camshaftlaw04.TlbApart': WHATEVER THE INPUT: true; the input reads as it did. -/
def tlbApartSpec : ChangeSpec := { name := "tlbApart", fn := fun _ => fun
  | [d1, d2] => { results := [.lit (.bool true)], args := [d1, d2] }
  | _ => none }
def tlbApartRow : OpenClaim := { program := "ytcbplnodooaeiaa", sum := "e1bf3c1ecccc78d805499c4c6ce1b87b1e465edd14ea953d5dd17c48a370e11b", func := "camshaft/camshaftlaw04.TlbApart", spec := "tlbApart", unfollowed := true, recurses := true, apart := false }
def TlbApartSaid : Prop := tlbApartRow.holds Try.pinned (OpenSpec.ofChange tlbApartSpec)

/-- ITS FALSE NEIGHBOUR: 'it returns false'. Refute it at one input. -/
def tlbApartWrong : ChangeSpec := { name := "tlbApart", fn := fun _ => fun
  | [d1, d2] => { results := [.lit (.bool false)], args := [d1, d2] }
  | _ => none }
def TlbApartWrongFalsely : Prop := tlbApartRow.holds Try.pinned (OpenSpec.ofChange tlbApartWrong)

/- THE SECOND FORM. 'bulk': how many values and letters a reading holds, each counted each time it is reached (what is shared counts as often as it is met; a slice's spare places count too). A statement '..UptoSaid' is the law's where the arguments, and the package variables that the reading takes, are together of bulk at most 1048576: NARROWER than '..Said'. Prove '..Said' where nothing that the law and all that it calls make is longer than what came in: it says more and counts as full. Else prove '..UptoSaid'. A law counts once. -/
mutual
def uptoBulk {H : Type} : DataW H → Nat
  | .lit (.string bytes) => bytes.length + 1
  | .lit _ => 1
  | .nil => 1
  | .ptr d => uptoBulk d + 1
  | .slice elems spare => uptoBulkAll elems + uptoBulkAll spare + 1
  | .agg parts => uptoBulkAll parts + 1
  | .iface _ d => uptoBulk d + 1
  | .map entries => uptoBulkEntries entries + 1
  | .held _ => 1
def uptoBulkAll {H : Type} : List (DataW H) → Nat
  | [] => 0
  | d :: r => uptoBulk d + uptoBulkAll r
def uptoBulkEntries {H : Type} : List (Lit × DataW H) → Nat
  | [] => 0
  | x :: r => uptoBulkEntry x + uptoBulkEntries r
def uptoBulkEntry {H : Type} : Lit × DataW H → Nat
  | (.string bytes, d) => bytes.length + uptoBulk d + 1
  | (_, d) => uptoBulk d + 1
 end
def uptoSmall : (H : Type) → List (DataW H) → Bool := fun _ ds => decide (uptoBulkAll ds ≤ 1048576)
def OpenSpec.upto (s : _root_.Go.ChangeSpec) : _root_.Go.OpenSpec := { _root_.Go.OpenSpec.ofChange s with cond := some uptoSmall }

/-- 'camshaftlaw04.TlbDoes', WHERE WHAT IT READS IS OF BULK AT MOST 1048576: true; the input reads as it did. -/
def tlbDoesUptoRow : OpenClaim := { program := "ytcbplnodooaeiaa", sum := "e1bf3c1ecccc78d805499c4c6ce1b87b1e465edd14ea953d5dd17c48a370e11b", func := "camshaft/camshaftlaw04.TlbDoes", spec := "tlbDoes", unfollowed := true, recurses := true, apart := false, narrowed := true }
def TlbDoesUptoSaid : Prop := tlbDoesUptoRow.holds Try.pinned (OpenSpec.upto tlbDoesSpec)

/-- 'camshaftlaw04.TlbLasts', WHERE WHAT IT READS IS OF BULK AT MOST 1048576: true; the input reads as it did. -/
def tlbLastsUptoRow : OpenClaim := { program := "ytcbplnodooaeiaa", sum := "e1bf3c1ecccc78d805499c4c6ce1b87b1e465edd14ea953d5dd17c48a370e11b", func := "camshaft/camshaftlaw04.TlbLasts", spec := "tlbLasts", unfollowed := true, recurses := true, apart := false, narrowed := true }
def TlbLastsUptoSaid : Prop := tlbLastsUptoRow.holds Try.pinned (OpenSpec.upto tlbLastsSpec)

/-- 'camshaftlaw04.TlbKeeps', WHERE WHAT IT READS IS OF BULK AT MOST 1048576: true; the input reads as it did. -/
def tlbKeepsUptoRow : OpenClaim := { program := "ytcbplnodooaeiaa", sum := "e1bf3c1ecccc78d805499c4c6ce1b87b1e465edd14ea953d5dd17c48a370e11b", func := "camshaft/camshaftlaw04.TlbKeeps", spec := "tlbKeeps", unfollowed := true, recurses := true, apart := false, narrowed := true }
def TlbKeepsUptoSaid : Prop := tlbKeepsUptoRow.holds Try.pinned (OpenSpec.upto tlbKeepsSpec)

/-- 'camshaftlaw04.TlbTwice', WHERE WHAT IT READS IS OF BULK AT MOST 1048576: true; the input reads as it did. -/
def tlbTwiceUptoRow : OpenClaim := { program := "ytcbplnodooaeiaa", sum := "e1bf3c1ecccc78d805499c4c6ce1b87b1e465edd14ea953d5dd17c48a370e11b", func := "camshaft/camshaftlaw04.TlbTwice", spec := "tlbTwice", unfollowed := true, recurses := true, apart := false, narrowed := true }
def TlbTwiceUptoSaid : Prop := tlbTwiceUptoRow.holds Try.pinned (OpenSpec.upto tlbTwiceSpec)

/-- 'camshaftlaw04.TlbApart', WHERE WHAT IT READS IS OF BULK AT MOST 1048576: true; the input reads as it did. -/
def tlbApartUptoRow : OpenClaim := { program := "ytcbplnodooaeiaa", sum := "e1bf3c1ecccc78d805499c4c6ce1b87b1e465edd14ea953d5dd17c48a370e11b", func := "camshaft/camshaftlaw04.TlbApart", spec := "tlbApart", unfollowed := true, recurses := true, apart := false, narrowed := true }
def TlbApartUptoSaid : Prop := tlbApartUptoRow.holds Try.pinned (OpenSpec.upto tlbApartSpec)

end Rows
end Go.Proofs.Ytcbplnodooaeiaa
