/-
  No cell of these rows narrows 'for every input' (looked for: loops, veiled, ifaces, maps, wideKeys, modest, calm, conditions, laid).
  DERIVED. THE GIVEN ROWS OF THIS SEAT. 5 by the template 'for every input the law returns true; each argument reads behind the call as it read before'; 0 by the template 'total and deterministic' (their statements: YtifcaeifolcemaaTotals.lean).
  GIVEN WITH THE SEED: the statements are not yours to turn. If you find one false, say at which input.
  Laid BY PROGRAM, IN A SANDBOX (cutbox-rows.mjs): the forced cells as the released guide's own fill.sh prints them over the translation 2fcc42d47d3b3624… (all of the seat's roots in one cut). By AI agents, Wed Nov 11 2026. No macro, syntax, notation, axiom, sorry.
-/
import Derived.Test.YtifcaeifolcemaaChecked
import GoSem.Claim
import GoSem.ClaimJoined
import GoSem.ClaimMapViews
import Derived.JoinedTies
import Derived.KernelRfl
namespace Go.Proofs.Ytifcaeifolcemaa
/- THE CELL 'sum', in the pinned program and in every row, IS THE sha256 OF THE DUMP (.gsa) THAT YtifcaeifolcemaaProg.lean LOADS. Nothing in Lean hashes anything: it is a label: what it is worth is what the hold of that sum in a sandbox is worth. -/
noncomputable def Try.pinned : Pinned := { name := "ytifcaeifolcemaa", sum := "2fcc42d47d3b36249372e6e85adcaeb1b9626242597a2f6fcf1fad9bba9cf30b", checked := Try.checked }
namespace Rows
def none {H : Type} : Left H := { results := [], args := [] }

/-- 'camshaftlaw03.PteReads': WHATEVER THE INPUT: true; the input reads as it did. -/
def pteReadsSpec : ChangeSpec := { name := "pteReads", fn := fun _ => fun
  | [d1, d2, d3, d4] => { results := [.lit (.bool true)], args := [d1, d2, d3, d4] }
  | _ => none }
def pteReadsRow : OpenClaim := { program := "ytifcaeifolcemaa", sum := "2fcc42d47d3b36249372e6e85adcaeb1b9626242597a2f6fcf1fad9bba9cf30b", func := "camshaft/camshaftlaw03.PteReads", spec := "pteReads", apart := false }
def PteReadsSaid : Prop := pteReadsRow.holds Try.pinned (OpenSpec.ofChange pteReadsSpec)

/-- ITS FALSE NEIGHBOUR: 'it returns false'. Refute it at one input. -/
def pteReadsWrong : ChangeSpec := { name := "pteReads", fn := fun _ => fun
  | [d1, d2, d3, d4] => { results := [.lit (.bool false)], args := [d1, d2, d3, d4] }
  | _ => none }
def PteReadsWrongFalsely : Prop := pteReadsRow.holds Try.pinned (OpenSpec.ofChange pteReadsWrong)

/-- 'camshaftlaw03.PteMakes': WHATEVER THE INPUT: true; the input reads as it did. -/
def pteMakesSpec : ChangeSpec := { name := "pteMakes", fn := fun _ => fun
  | [d1, d2, d3, d4] => { results := [.lit (.bool true)], args := [d1, d2, d3, d4] }
  | _ => none }
def pteMakesRow : OpenClaim := { program := "ytifcaeifolcemaa", sum := "2fcc42d47d3b36249372e6e85adcaeb1b9626242597a2f6fcf1fad9bba9cf30b", func := "camshaft/camshaftlaw03.PteMakes", spec := "pteMakes", apart := false }
def PteMakesSaid : Prop := pteMakesRow.holds Try.pinned (OpenSpec.ofChange pteMakesSpec)

/-- ITS FALSE NEIGHBOUR: 'it returns false'. Refute it at one input. -/
def pteMakesWrong : ChangeSpec := { name := "pteMakes", fn := fun _ => fun
  | [d1, d2, d3, d4] => { results := [.lit (.bool false)], args := [d1, d2, d3, d4] }
  | _ => none }
def PteMakesWrongFalsely : Prop := pteMakesRow.holds Try.pinned (OpenSpec.ofChange pteMakesWrong)

/-- 'camshaftlaw03.PteRights': WHATEVER THE INPUT: true; the input reads as it did. -/
def pteRightsSpec : ChangeSpec := { name := "pteRights", fn := fun _ => fun
  | [d] => { results := [.lit (.bool true)], args := [d] }
  | _ => none }
def pteRightsRow : OpenClaim := { program := "ytifcaeifolcemaa", sum := "2fcc42d47d3b36249372e6e85adcaeb1b9626242597a2f6fcf1fad9bba9cf30b", func := "camshaft/camshaftlaw03.PteRights", spec := "pteRights", apart := false }
def PteRightsSaid : Prop := pteRightsRow.holds Try.pinned (OpenSpec.ofChange pteRightsSpec)

/-- ITS FALSE NEIGHBOUR: 'it returns false'. Refute it at one input. -/
def pteRightsWrong : ChangeSpec := { name := "pteRights", fn := fun _ => fun
  | [d] => { results := [.lit (.bool false)], args := [d] }
  | _ => none }
def PteRightsWrongFalsely : Prop := pteRightsRow.holds Try.pinned (OpenSpec.ofChange pteRightsWrong)

/-- 'camshaftlaw03.PtePlaces': WHATEVER THE INPUT: true; the input reads as it did. -/
def ptePlacesSpec : ChangeSpec := { name := "ptePlaces", fn := fun _ => fun
  | [d1, d2, d3, d4] => { results := [.lit (.bool true)], args := [d1, d2, d3, d4] }
  | _ => none }
def ptePlacesRow : OpenClaim := { program := "ytifcaeifolcemaa", sum := "2fcc42d47d3b36249372e6e85adcaeb1b9626242597a2f6fcf1fad9bba9cf30b", func := "camshaft/camshaftlaw03.PtePlaces", spec := "ptePlaces", apart := false }
def PtePlacesSaid : Prop := ptePlacesRow.holds Try.pinned (OpenSpec.ofChange ptePlacesSpec)

/-- ITS FALSE NEIGHBOUR: 'it returns false'. Refute it at one input. -/
def ptePlacesWrong : ChangeSpec := { name := "ptePlaces", fn := fun _ => fun
  | [d1, d2, d3, d4] => { results := [.lit (.bool false)], args := [d1, d2, d3, d4] }
  | _ => none }
def PtePlacesWrongFalsely : Prop := ptePlacesRow.holds Try.pinned (OpenSpec.ofChange ptePlacesWrong)

/-- 'camshaftlaw03.PteBits': WHATEVER THE INPUT: true; the input reads as it did. -/
def pteBitsSpec : ChangeSpec := { name := "pteBits", fn := fun _ => fun
  | [d1, d2, d3, d4] => { results := [.lit (.bool true)], args := [d1, d2, d3, d4] }
  | _ => none }
def pteBitsRow : OpenClaim := { program := "ytifcaeifolcemaa", sum := "2fcc42d47d3b36249372e6e85adcaeb1b9626242597a2f6fcf1fad9bba9cf30b", func := "camshaft/camshaftlaw03.PteBits", spec := "pteBits", apart := false }
def PteBitsSaid : Prop := pteBitsRow.holds Try.pinned (OpenSpec.ofChange pteBitsSpec)

/-- ITS FALSE NEIGHBOUR: 'it returns false'. Refute it at one input. -/
def pteBitsWrong : ChangeSpec := { name := "pteBits", fn := fun _ => fun
  | [d1, d2, d3, d4] => { results := [.lit (.bool false)], args := [d1, d2, d3, d4] }
  | _ => none }
def PteBitsWrongFalsely : Prop := pteBitsRow.holds Try.pinned (OpenSpec.ofChange pteBitsWrong)

/- THE SECOND FORM. 'bulk': how many values and letters a reading holds, each counted each time it is reached (what is shared counts as often as it is met; a slice's spare places count too). A statement '..UptoSaid' is the law's where the arguments, and the package variables that the reading takes, are together of bulk at most 1048576: NARROWER than '..Said'. Prove '..Said' where nothing that the law and all that it calls make is longer than what came in: it says more and counts as full. Else prove '..UptoSaid'. A law counts once. -/
mutual
def uptoBulk {H : Type} : DataW H → Nat
  | .lit (.string bytes) => bytes.length + 1
  | .lit _ => 1
  | .nil => 1
  | .ptr d => uptoBulk d + 1
  | .slice elems spare => uptoBulkAll elems + uptoBulkAll spare + 1
  | .agg parts => uptoBulkAll parts + 1
  | .iface _ d => uptoBulk d + 1
  | .map entries => uptoBulkEntries entries + 1
  | .held _ => 1
def uptoBulkAll {H : Type} : List (DataW H) → Nat
  | [] => 0
  | d :: r => uptoBulk d + uptoBulkAll r
def uptoBulkEntries {H : Type} : List (Lit × DataW H) → Nat
  | [] => 0
  | x :: r => uptoBulkEntry x + uptoBulkEntries r
def uptoBulkEntry {H : Type} : Lit × DataW H → Nat
  | (.string bytes, d) => bytes.length + uptoBulk d + 1
  | (_, d) => uptoBulk d + 1
 end
def uptoSmall : (H : Type) → List (DataW H) → Bool := fun _ ds => decide (uptoBulkAll ds ≤ 1048576)
def OpenSpec.upto (s : _root_.Go.ChangeSpec) : _root_.Go.OpenSpec := { _root_.Go.OpenSpec.ofChange s with cond := some uptoSmall }

/-- 'camshaftlaw03.PteReads', WHERE WHAT IT READS IS OF BULK AT MOST 1048576: true; the input reads as it did. -/
def pteReadsUptoRow : OpenClaim := { program := "ytifcaeifolcemaa", sum := "2fcc42d47d3b36249372e6e85adcaeb1b9626242597a2f6fcf1fad9bba9cf30b", func := "camshaft/camshaftlaw03.PteReads", spec := "pteReads", apart := false, narrowed := true }
def PteReadsUptoSaid : Prop := pteReadsUptoRow.holds Try.pinned (OpenSpec.upto pteReadsSpec)

/-- 'camshaftlaw03.PteMakes', WHERE WHAT IT READS IS OF BULK AT MOST 1048576: true; the input reads as it did. -/
def pteMakesUptoRow : OpenClaim := { program := "ytifcaeifolcemaa", sum := "2fcc42d47d3b36249372e6e85adcaeb1b9626242597a2f6fcf1fad9bba9cf30b", func := "camshaft/camshaftlaw03.PteMakes", spec := "pteMakes", apart := false, narrowed := true }
def PteMakesUptoSaid : Prop := pteMakesUptoRow.holds Try.pinned (OpenSpec.upto pteMakesSpec)

/-- 'camshaftlaw03.PteRights', WHERE WHAT IT READS IS OF BULK AT MOST 1048576: true; the input reads as it did. -/
def pteRightsUptoRow : OpenClaim := { program := "ytifcaeifolcemaa", sum := "2fcc42d47d3b36249372e6e85adcaeb1b9626242597a2f6fcf1fad9bba9cf30b", func := "camshaft/camshaftlaw03.PteRights", spec := "pteRights", apart := false, narrowed := true }
def PteRightsUptoSaid : Prop := pteRightsUptoRow.holds Try.pinned (OpenSpec.upto pteRightsSpec)

/-- 'camshaftlaw03.PtePlaces', WHERE WHAT IT READS IS OF BULK AT MOST 1048576: true; the input reads as it did. -/
def ptePlacesUptoRow : OpenClaim := { program := "ytifcaeifolcemaa", sum := "2fcc42d47d3b36249372e6e85adcaeb1b9626242597a2f6fcf1fad9bba9cf30b", func := "camshaft/camshaftlaw03.PtePlaces", spec := "ptePlaces", apart := false, narrowed := true }
def PtePlacesUptoSaid : Prop := ptePlacesUptoRow.holds Try.pinned (OpenSpec.upto ptePlacesSpec)

/-- 'camshaftlaw03.PteBits', WHERE WHAT IT READS IS OF BULK AT MOST 1048576: true; the input reads as it did. -/
def pteBitsUptoRow : OpenClaim := { program := "ytifcaeifolcemaa", sum := "2fcc42d47d3b36249372e6e85adcaeb1b9626242597a2f6fcf1fad9bba9cf30b", func := "camshaft/camshaftlaw03.PteBits", spec := "pteBits", apart := false, narrowed := true }
def PteBitsUptoSaid : Prop := pteBitsUptoRow.holds Try.pinned (OpenSpec.upto pteBitsSpec)

end Rows
end Go.Proofs.Ytifcaeifolcemaa
