/-
  No cell of these rows narrows 'for every input' (looked for: loops, veiled, ifaces, maps, wideKeys, modest, calm, conditions, laid).
  DERIVED. THE GIVEN ROWS OF THIS SEAT. 6 by the template 'for every input the law returns true; each argument reads behind the call as it read before'; 0 by the template 'total and deterministic' (their statements: YtlijffjfaggkoaaTotals.lean).
  GIVEN WITH THE SEED: the statements are not yours to turn. If you find one false, say at which input.
  Laid BY PROGRAM, IN A SANDBOX (cutbox-rows.mjs): the forced cells as the released guide's own fill.sh prints them over the translation 5751d8333112b76a… (all of the seat's roots in one cut). By AI agents, Wed Nov 11 2026. No macro, syntax, notation, axiom, sorry.
-/
import Derived.Test.YtlijffjfaggkoaaChecked
import GoSem.Claim
import GoSem.ClaimJoined
import GoSem.ClaimMapViews
import Derived.JoinedTies
import Derived.KernelRfl
namespace Go.Proofs.Ytlijffjfaggkoaa
/- THE CELL 'sum', in the pinned program and in every row, IS THE sha256 OF THE DUMP (.gsa) THAT YtlijffjfaggkoaaProg.lean LOADS. Nothing in Lean hashes anything: it is a label: what it is worth is what the hold of that sum in a sandbox is worth. -/
noncomputable def Try.pinned : Pinned := { name := "ytlijffjfaggkoaa", sum := "5751d8333112b76aa06fbb26dcad2d983f76e005690c70ff855c069ad671d709", checked := Try.checked }
namespace Rows
def none {H : Type} : Left H := { results := [], args := [] }

/-- 'camshaftlaw06.PslReads': WHATEVER THE INPUT: true; the input reads as it did. -/
def pslReadsSpec : ChangeSpec := { name := "pslReads", fn := fun _ => fun
  | [d] => { results := [.lit (.bool true)], args := [d] }
  | _ => none }
def pslReadsRow : OpenClaim := { program := "ytlijffjfaggkoaa", sum := "5751d8333112b76aa06fbb26dcad2d983f76e005690c70ff855c069ad671d709", func := "camshaft/camshaftlaw06.PslReads", spec := "pslReads", apart := false }
def PslReadsSaid : Prop := pslReadsRow.holds Try.pinned (OpenSpec.ofChange pslReadsSpec)

/-- ITS FALSE NEIGHBOUR: 'it returns false'. Refute it at one input. -/
def pslReadsWrong : ChangeSpec := { name := "pslReads", fn := fun _ => fun
  | [d] => { results := [.lit (.bool false)], args := [d] }
  | _ => none }
def PslReadsWrongFalsely : Prop := pslReadsRow.holds Try.pinned (OpenSpec.ofChange pslReadsWrong)

/-- 'camshaftlaw06.PslMakes': WHATEVER THE INPUT: true; the input reads as it did. -/
def pslMakesSpec : ChangeSpec := { name := "pslMakes", fn := fun _ => fun
  | [d1, d2, d3] => { results := [.lit (.bool true)], args := [d1, d2, d3] }
  | _ => none }
def pslMakesRow : OpenClaim := { program := "ytlijffjfaggkoaa", sum := "5751d8333112b76aa06fbb26dcad2d983f76e005690c70ff855c069ad671d709", func := "camshaft/camshaftlaw06.PslMakes", spec := "pslMakes", apart := false }
def PslMakesSaid : Prop := pslMakesRow.holds Try.pinned (OpenSpec.ofChange pslMakesSpec)

/-- ITS FALSE NEIGHBOUR: 'it returns false'. Refute it at one input. -/
def pslMakesWrong : ChangeSpec := { name := "pslMakes", fn := fun _ => fun
  | [d1, d2, d3] => { results := [.lit (.bool false)], args := [d1, d2, d3] }
  | _ => none }
def PslMakesWrongFalsely : Prop := pslMakesRow.holds Try.pinned (OpenSpec.ofChange pslMakesWrong)

/-- 'camshaftlaw06.PslBack': WHATEVER THE INPUT: true; the input reads as it did. -/
def pslBackSpec : ChangeSpec := { name := "pslBack", fn := fun _ => fun
  | [d1, d2] => { results := [.lit (.bool true)], args := [d1, d2] }
  | _ => none }
def pslBackRow : OpenClaim := { program := "ytlijffjfaggkoaa", sum := "5751d8333112b76aa06fbb26dcad2d983f76e005690c70ff855c069ad671d709", func := "camshaft/camshaftlaw06.PslBack", spec := "pslBack", apart := false }
def PslBackSaid : Prop := pslBackRow.holds Try.pinned (OpenSpec.ofChange pslBackSpec)

/-- ITS FALSE NEIGHBOUR: 'it returns false'. Refute it at one input. -/
def pslBackWrong : ChangeSpec := { name := "pslBack", fn := fun _ => fun
  | [d1, d2] => { results := [.lit (.bool false)], args := [d1, d2] }
  | _ => none }
def PslBackWrongFalsely : Prop := pslBackRow.holds Try.pinned (OpenSpec.ofChange pslBackWrong)

/-- 'camshaftlaw06.PslBranches': WHATEVER THE INPUT: true; the input reads as it did. -/
def pslBranchesSpec : ChangeSpec := { name := "pslBranches", fn := fun _ => fun
  | [d1, d2] => { results := [.lit (.bool true)], args := [d1, d2] }
  | _ => none }
def pslBranchesRow : OpenClaim := { program := "ytlijffjfaggkoaa", sum := "5751d8333112b76aa06fbb26dcad2d983f76e005690c70ff855c069ad671d709", func := "camshaft/camshaftlaw06.PslBranches", spec := "pslBranches", apart := false }
def PslBranchesSaid : Prop := pslBranchesRow.holds Try.pinned (OpenSpec.ofChange pslBranchesSpec)

/-- ITS FALSE NEIGHBOUR: 'it returns false'. Refute it at one input. -/
def pslBranchesWrong : ChangeSpec := { name := "pslBranches", fn := fun _ => fun
  | [d1, d2] => { results := [.lit (.bool false)], args := [d1, d2] }
  | _ => none }
def PslBranchesWrongFalsely : Prop := pslBranchesRow.holds Try.pinned (OpenSpec.ofChange pslBranchesWrong)

/-- 'camshaftlaw06.PslParts': WHATEVER THE INPUT: true; the input reads as it did. -/
def pslPartsSpec : ChangeSpec := { name := "pslParts", fn := fun _ => fun
  | [d1, d2, d3] => { results := [.lit (.bool true)], args := [d1, d2, d3] }
  | _ => none }
def pslPartsRow : OpenClaim := { program := "ytlijffjfaggkoaa", sum := "5751d8333112b76aa06fbb26dcad2d983f76e005690c70ff855c069ad671d709", func := "camshaft/camshaftlaw06.PslParts", spec := "pslParts", apart := false }
def PslPartsSaid : Prop := pslPartsRow.holds Try.pinned (OpenSpec.ofChange pslPartsSpec)

/-- ITS FALSE NEIGHBOUR: 'it returns false'. Refute it at one input. -/
def pslPartsWrong : ChangeSpec := { name := "pslParts", fn := fun _ => fun
  | [d1, d2, d3] => { results := [.lit (.bool false)], args := [d1, d2, d3] }
  | _ => none }
def PslPartsWrongFalsely : Prop := pslPartsRow.holds Try.pinned (OpenSpec.ofChange pslPartsWrong)

/-- 'camshaftlaw06.PslEnters': WHATEVER THE INPUT: true; the input reads as it did. -/
def pslEntersSpec : ChangeSpec := { name := "pslEnters", fn := fun _ => fun
  | [d1, d2, d3] => { results := [.lit (.bool true)], args := [d1, d2, d3] }
  | _ => none }
def pslEntersRow : OpenClaim := { program := "ytlijffjfaggkoaa", sum := "5751d8333112b76aa06fbb26dcad2d983f76e005690c70ff855c069ad671d709", func := "camshaft/camshaftlaw06.PslEnters", spec := "pslEnters", apart := false }
def PslEntersSaid : Prop := pslEntersRow.holds Try.pinned (OpenSpec.ofChange pslEntersSpec)

/-- ITS FALSE NEIGHBOUR: 'it returns false'. Refute it at one input. -/
def pslEntersWrong : ChangeSpec := { name := "pslEnters", fn := fun _ => fun
  | [d1, d2, d3] => { results := [.lit (.bool false)], args := [d1, d2, d3] }
  | _ => none }
def PslEntersWrongFalsely : Prop := pslEntersRow.holds Try.pinned (OpenSpec.ofChange pslEntersWrong)

/- THE SECOND FORM. 'bulk': how many values and letters a reading holds, each counted each time it is reached (what is shared counts as often as it is met; a slice's spare places count too). A statement '..UptoSaid' is the law's where the arguments, and the package variables that the reading takes, are together of bulk at most 1048576: NARROWER than '..Said'. Prove '..Said' where nothing that the law and all that it calls make is longer than what came in: it says more and counts as full. Else prove '..UptoSaid'. A law counts once. -/
mutual
def uptoBulk {H : Type} : DataW H → Nat
  | .lit (.string bytes) => bytes.length + 1
  | .lit _ => 1
  | .nil => 1
  | .ptr d => uptoBulk d + 1
  | .slice elems spare => uptoBulkAll elems + uptoBulkAll spare + 1
  | .agg parts => uptoBulkAll parts + 1
  | .iface _ d => uptoBulk d + 1
  | .map entries => uptoBulkEntries entries + 1
  | .held _ => 1
def uptoBulkAll {H : Type} : List (DataW H) → Nat
  | [] => 0
  | d :: r => uptoBulk d + uptoBulkAll r
def uptoBulkEntries {H : Type} : List (Lit × DataW H) → Nat
  | [] => 0
  | x :: r => uptoBulkEntry x + uptoBulkEntries r
def uptoBulkEntry {H : Type} : Lit × DataW H → Nat
  | (.string bytes, d) => bytes.length + uptoBulk d + 1
  | (_, d) => uptoBulk d + 1
 end
def uptoSmall : (H : Type) → List (DataW H) → Bool := fun _ ds => decide (uptoBulkAll ds ≤ 1048576)
def OpenSpec.upto (s : _root_.Go.ChangeSpec) : _root_.Go.OpenSpec := { _root_.Go.OpenSpec.ofChange s with cond := some uptoSmall }

/-- 'camshaftlaw06.PslReads', WHERE WHAT IT READS IS OF BULK AT MOST 1048576: true; the input reads as it did. -/
def pslReadsUptoRow : OpenClaim := { program := "ytlijffjfaggkoaa", sum := "5751d8333112b76aa06fbb26dcad2d983f76e005690c70ff855c069ad671d709", func := "camshaft/camshaftlaw06.PslReads", spec := "pslReads", apart := false, narrowed := true }
def PslReadsUptoSaid : Prop := pslReadsUptoRow.holds Try.pinned (OpenSpec.upto pslReadsSpec)

/-- 'camshaftlaw06.PslMakes', WHERE WHAT IT READS IS OF BULK AT MOST 1048576: true; the input reads as it did. -/
def pslMakesUptoRow : OpenClaim := { program := "ytlijffjfaggkoaa", sum := "5751d8333112b76aa06fbb26dcad2d983f76e005690c70ff855c069ad671d709", func := "camshaft/camshaftlaw06.PslMakes", spec := "pslMakes", apart := false, narrowed := true }
def PslMakesUptoSaid : Prop := pslMakesUptoRow.holds Try.pinned (OpenSpec.upto pslMakesSpec)

/-- 'camshaftlaw06.PslBack', WHERE WHAT IT READS IS OF BULK AT MOST 1048576: true; the input reads as it did. -/
def pslBackUptoRow : OpenClaim := { program := "ytlijffjfaggkoaa", sum := "5751d8333112b76aa06fbb26dcad2d983f76e005690c70ff855c069ad671d709", func := "camshaft/camshaftlaw06.PslBack", spec := "pslBack", apart := false, narrowed := true }
def PslBackUptoSaid : Prop := pslBackUptoRow.holds Try.pinned (OpenSpec.upto pslBackSpec)

/-- 'camshaftlaw06.PslBranches', WHERE WHAT IT READS IS OF BULK AT MOST 1048576: true; the input reads as it did. -/
def pslBranchesUptoRow : OpenClaim := { program := "ytlijffjfaggkoaa", sum := "5751d8333112b76aa06fbb26dcad2d983f76e005690c70ff855c069ad671d709", func := "camshaft/camshaftlaw06.PslBranches", spec := "pslBranches", apart := false, narrowed := true }
def PslBranchesUptoSaid : Prop := pslBranchesUptoRow.holds Try.pinned (OpenSpec.upto pslBranchesSpec)

/-- 'camshaftlaw06.PslParts', WHERE WHAT IT READS IS OF BULK AT MOST 1048576: true; the input reads as it did. -/
def pslPartsUptoRow : OpenClaim := { program := "ytlijffjfaggkoaa", sum := "5751d8333112b76aa06fbb26dcad2d983f76e005690c70ff855c069ad671d709", func := "camshaft/camshaftlaw06.PslParts", spec := "pslParts", apart := false, narrowed := true }
def PslPartsUptoSaid : Prop := pslPartsUptoRow.holds Try.pinned (OpenSpec.upto pslPartsSpec)

/-- 'camshaftlaw06.PslEnters', WHERE WHAT IT READS IS OF BULK AT MOST 1048576: true; the input reads as it did. -/
def pslEntersUptoRow : OpenClaim := { program := "ytlijffjfaggkoaa", sum := "5751d8333112b76aa06fbb26dcad2d983f76e005690c70ff855c069ad671d709", func := "camshaft/camshaftlaw06.PslEnters", spec := "pslEnters", apart := false, narrowed := true }
def PslEntersUptoSaid : Prop := pslEntersUptoRow.holds Try.pinned (OpenSpec.upto pslEntersSpec)

end Rows
end Go.Proofs.Ytlijffjfaggkoaa
