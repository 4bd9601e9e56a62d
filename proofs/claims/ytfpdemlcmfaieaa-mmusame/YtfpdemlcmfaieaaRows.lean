/-
  No cell of these rows narrows 'for every input' (looked for: loops, veiled, ifaces, maps, wideKeys, modest, calm, conditions, laid).
  DERIVED. THE GIVEN ROWS OF THIS SEAT. 6 by the template 'for every input the law returns true; each argument reads behind the call as it read before'; 0 by the template 'total and deterministic' (their statements: YtfpdemlcmfaieaaTotals.lean).
  GIVEN WITH THE SEED: the statements are not yours to turn. If you find one false, say at which input.
  Laid BY PROGRAM, IN A SANDBOX (cutbox-rows.mjs): the forced cells as the released guide's own fill.sh prints them over the translation b826349f8f31da0b… (all of the seat's roots in one cut). By AI agents, Wed Nov 11 2026. No macro, syntax, notation, axiom, sorry.
-/
import Derived.Test.YtfpdemlcmfaieaaChecked
import GoSem.Claim
import GoSem.ClaimJoined
import GoSem.ClaimMapViews
import Derived.JoinedTies
import Derived.KernelRfl
namespace Go.Proofs.Ytfpdemlcmfaieaa
/- THE CELL 'sum', in the pinned program and in every row, IS THE sha256 OF THE DUMP (.gsa) THAT YtfpdemlcmfaieaaProg.lean LOADS. Nothing in Lean hashes anything: it is a label: what it is worth is what the hold of that sum in a sandbox is worth. -/
noncomputable def Try.pinned : Pinned := { name := "ytfpdemlcmfaieaa", sum := "b826349f8f31da0bfaa5322cb6821fc37e012c1c9fb3aac354df9fe56bdc7f2a", checked := Try.checked }
namespace Rows
def none {H : Type} : Left H := { results := [], args := [] }

/-- 'camshaftlaw05.MmuDoes': WHATEVER THE INPUT: true; the input reads as it did. -/
def mmuDoesSpec : ChangeSpec := { name := "mmuDoes", fn := fun _ => fun
  | [d1, d2, d3] => { results := [.lit (.bool true)], args := [d1, d2, d3] }
  | _ => none }
def mmuDoesRow : OpenClaim := { program := "ytfpdemlcmfaieaa", sum := "b826349f8f31da0bfaa5322cb6821fc37e012c1c9fb3aac354df9fe56bdc7f2a", func := "camshaft/camshaftlaw05.MmuDoes", spec := "mmuDoes", unfollowed := true, recurses := true, apart := false }
def MmuDoesSaid : Prop := mmuDoesRow.holds Try.pinned (OpenSpec.ofChange mmuDoesSpec)

/-- ITS FALSE NEIGHBOUR: 'it returns false'. Refute it at one input. -/
def mmuDoesWrong : ChangeSpec := { name := "mmuDoes", fn := fun _ => fun
  | [d1, d2, d3] => { results := [.lit (.bool false)], args := [d1, d2, d3] }
  | _ => none }
def MmuDoesWrongFalsely : Prop := mmuDoesRow.holds Try.pinned (OpenSpec.ofChange mmuDoesWrong)

/-- 'camshaftlaw05.MmuSame': WHATEVER THE INPUT: true; the input reads as it did. -/
def mmuSameSpec : ChangeSpec := { name := "mmuSame", fn := fun _ => fun
  | [d1, d2, d3] => { results := [.lit (.bool true)], args := [d1, d2, d3] }
  | _ => none }
def mmuSameRow : OpenClaim := { program := "ytfpdemlcmfaieaa", sum := "b826349f8f31da0bfaa5322cb6821fc37e012c1c9fb3aac354df9fe56bdc7f2a", func := "camshaft/camshaftlaw05.MmuSame", spec := "mmuSame", unfollowed := true, recurses := true, apart := false }
def MmuSameSaid : Prop := mmuSameRow.holds Try.pinned (OpenSpec.ofChange mmuSameSpec)

/-- ITS FALSE NEIGHBOUR: 'it returns false'. Refute it at one input. -/
def mmuSameWrong : ChangeSpec := { name := "mmuSame", fn := fun _ => fun
  | [d1, d2, d3] => { results := [.lit (.bool false)], args := [d1, d2, d3] }
  | _ => none }
def MmuSameWrongFalsely : Prop := mmuSameRow.holds Try.pinned (OpenSpec.ofChange mmuSameWrong)

/-- 'camshaftlaw05.MmuAll': WHATEVER THE INPUT: true; the input reads as it did. -/
def mmuAllSpec : ChangeSpec := { name := "mmuAll", fn := fun _ => fun
  | [d1, d2, d3, d4, d5] => { results := [.lit (.bool true)], args := [d1, d2, d3, d4, d5] }
  | _ => none }
def mmuAllRow : OpenClaim := { program := "ytfpdemlcmfaieaa", sum := "b826349f8f31da0bfaa5322cb6821fc37e012c1c9fb3aac354df9fe56bdc7f2a", func := "camshaft/camshaftlaw05.MmuAll", spec := "mmuAll", unfollowed := true, recurses := true, apart := false }
def MmuAllSaid : Prop := mmuAllRow.holds Try.pinned (OpenSpec.ofChange mmuAllSpec)

/-- ITS FALSE NEIGHBOUR: 'it returns false'. Refute it at one input. -/
def mmuAllWrong : ChangeSpec := { name := "mmuAll", fn := fun _ => fun
  | [d1, d2, d3, d4, d5] => { results := [.lit (.bool false)], args := [d1, d2, d3, d4, d5] }
  | _ => none }
def MmuAllWrongFalsely : Prop := mmuAllRow.holds Try.pinned (OpenSpec.ofChange mmuAllWrong)

/-- 'camshaftlaw05.MmuPeeks': WHATEVER THE INPUT: true; the input reads as it did. -/
def mmuPeeksSpec : ChangeSpec := { name := "mmuPeeks", fn := fun _ => fun
  | [d1, d2, d3, d4, d5] => { results := [.lit (.bool true)], args := [d1, d2, d3, d4, d5] }
  | _ => none }
def mmuPeeksRow : OpenClaim := { program := "ytfpdemlcmfaieaa", sum := "b826349f8f31da0bfaa5322cb6821fc37e012c1c9fb3aac354df9fe56bdc7f2a", func := "camshaft/camshaftlaw05.MmuPeeks", spec := "mmuPeeks", unfollowed := true, recurses := true, apart := false }
def MmuPeeksSaid : Prop := mmuPeeksRow.holds Try.pinned (OpenSpec.ofChange mmuPeeksSpec)

/-- ITS FALSE NEIGHBOUR: 'it returns false'. Refute it at one input. -/
def mmuPeeksWrong : ChangeSpec := { name := "mmuPeeks", fn := fun _ => fun
  | [d1, d2, d3, d4, d5] => { results := [.lit (.bool false)], args := [d1, d2, d3, d4, d5] }
  | _ => none }
def MmuPeeksWrongFalsely : Prop := mmuPeeksRow.holds Try.pinned (OpenSpec.ofChange mmuPeeksWrong)

/-- 'camshaftlaw05.MmuMarks': WHATEVER THE INPUT: true; the input reads as it did. -/
def mmuMarksSpec : ChangeSpec := { name := "mmuMarks", fn := fun _ => fun
  | [d1, d2, d3, d4] => { results := [.lit (.bool true)], args := [d1, d2, d3, d4] }
  | _ => none }
def mmuMarksRow : OpenClaim := { program := "ytfpdemlcmfaieaa", sum := "b826349f8f31da0bfaa5322cb6821fc37e012c1c9fb3aac354df9fe56bdc7f2a", func := "camshaft/camshaftlaw05.MmuMarks", spec := "mmuMarks", unfollowed := true, recurses := true, apart := false }
def MmuMarksSaid : Prop := mmuMarksRow.holds Try.pinned (OpenSpec.ofChange mmuMarksSpec)

/-- ITS FALSE NEIGHBOUR: 'it returns false'. Refute it at one input. -/
def mmuMarksWrong : ChangeSpec := { name := "mmuMarks", fn := fun _ => fun
  | [d1, d2, d3, d4] => { results := [.lit (.bool false)], args := [d1, d2, d3, d4] }
  | _ => none }
def MmuMarksWrongFalsely : Prop := mmuMarksRow.holds Try.pinned (OpenSpec.ofChange mmuMarksWrong)

/-- 'camshaftlaw05.MmuRest': WHATEVER THE INPUT: true; the input reads as it did. -/
def mmuRestSpec : ChangeSpec := { name := "mmuRest", fn := fun _ => fun
  | [d1, d2, d3, d4] => { results := [.lit (.bool true)], args := [d1, d2, d3, d4] }
  | _ => none }
def mmuRestRow : OpenClaim := { program := "ytfpdemlcmfaieaa", sum := "b826349f8f31da0bfaa5322cb6821fc37e012c1c9fb3aac354df9fe56bdc7f2a", func := "camshaft/camshaftlaw05.MmuRest", spec := "mmuRest", unfollowed := true, recurses := true, apart := false }
def MmuRestSaid : Prop := mmuRestRow.holds Try.pinned (OpenSpec.ofChange mmuRestSpec)

/-- ITS FALSE NEIGHBOUR: 'it returns false'. Refute it at one input. -/
def mmuRestWrong : ChangeSpec := { name := "mmuRest", fn := fun _ => fun
  | [d1, d2, d3, d4] => { results := [.lit (.bool false)], args := [d1, d2, d3, d4] }
  | _ => none }
def MmuRestWrongFalsely : Prop := mmuRestRow.holds Try.pinned (OpenSpec.ofChange mmuRestWrong)

/- THE SECOND FORM. 'bulk': how many values and letters a reading holds, each counted each time it is reached (what is shared counts as often as it is met; a slice's spare places count too). A statement '..UptoSaid' is the law's where the arguments, and the package variables that the reading takes, are together of bulk at most 1048576: NARROWER than '..Said'. Prove '..Said' where nothing that the law and all that it calls make is longer than what came in: it says more and counts as full. Else prove '..UptoSaid'. A law counts once. -/
mutual
def uptoBulk {H : Type} : DataW H → Nat
  | .lit (.string bytes) => bytes.length + 1
  | .lit _ => 1
  | .nil => 1
  | .ptr d => uptoBulk d + 1
  | .slice elems spare => uptoBulkAll elems + uptoBulkAll spare + 1
  | .agg parts => uptoBulkAll parts + 1
  | .iface _ d => uptoBulk d + 1
  | .map entries => uptoBulkEntries entries + 1
  | .held _ => 1
def uptoBulkAll {H : Type} : List (DataW H) → Nat
  | [] => 0
  | d :: r => uptoBulk d + uptoBulkAll r
def uptoBulkEntries {H : Type} : List (Lit × DataW H) → Nat
  | [] => 0
  | x :: r => uptoBulkEntry x + uptoBulkEntries r
def uptoBulkEntry {H : Type} : Lit × DataW H → Nat
  | (.string bytes, d) => bytes.length + uptoBulk d + 1
  | (_, d) => uptoBulk d + 1
 end
def uptoSmall : (H : Type) → List (DataW H) → Bool := fun _ ds => decide (uptoBulkAll ds ≤ 1048576)
def OpenSpec.upto (s : _root_.Go.ChangeSpec) : _root_.Go.OpenSpec := { _root_.Go.OpenSpec.ofChange s with cond := some uptoSmall }

/-- 'camshaftlaw05.MmuDoes', WHERE WHAT IT READS IS OF BULK AT MOST 1048576: true; the input reads as it did. -/
def mmuDoesUptoRow : OpenClaim := { program := "ytfpdemlcmfaieaa", sum := "b826349f8f31da0bfaa5322cb6821fc37e012c1c9fb3aac354df9fe56bdc7f2a", func := "camshaft/camshaftlaw05.MmuDoes", spec := "mmuDoes", unfollowed := true, recurses := true, apart := false, narrowed := true }
def MmuDoesUptoSaid : Prop := mmuDoesUptoRow.holds Try.pinned (OpenSpec.upto mmuDoesSpec)

/-- 'camshaftlaw05.MmuSame', WHERE WHAT IT READS IS OF BULK AT MOST 1048576: true; the input reads as it did. -/
def mmuSameUptoRow : OpenClaim := { program := "ytfpdemlcmfaieaa", sum := "b826349f8f31da0bfaa5322cb6821fc37e012c1c9fb3aac354df9fe56bdc7f2a", func := "camshaft/camshaftlaw05.MmuSame", spec := "mmuSame", unfollowed := true, recurses := true, apart := false, narrowed := true }
def MmuSameUptoSaid : Prop := mmuSameUptoRow.holds Try.pinned (OpenSpec.upto mmuSameSpec)

/-- 'camshaftlaw05.MmuAll', WHERE WHAT IT READS IS OF BULK AT MOST 1048576: true; the input reads as it did. -/
def mmuAllUptoRow : OpenClaim := { program := "ytfpdemlcmfaieaa", sum := "b826349f8f31da0bfaa5322cb6821fc37e012c1c9fb3aac354df9fe56bdc7f2a", func := "camshaft/camshaftlaw05.MmuAll", spec := "mmuAll", unfollowed := true, recurses := true, apart := false, narrowed := true }
def MmuAllUptoSaid : Prop := mmuAllUptoRow.holds Try.pinned (OpenSpec.upto mmuAllSpec)

/-- 'camshaftlaw05.MmuPeeks', WHERE WHAT IT READS IS OF BULK AT MOST 1048576: true; the input reads as it did. -/
def mmuPeeksUptoRow : OpenClaim := { program := "ytfpdemlcmfaieaa", sum := "b826349f8f31da0bfaa5322cb6821fc37e012c1c9fb3aac354df9fe56bdc7f2a", func := "camshaft/camshaftlaw05.MmuPeeks", spec := "mmuPeeks", unfollowed := true, recurses := true, apart := false, narrowed := true }
def MmuPeeksUptoSaid : Prop := mmuPeeksUptoRow.holds Try.pinned (OpenSpec.upto mmuPeeksSpec)

/-- 'camshaftlaw05.MmuMarks', WHERE WHAT IT READS IS OF BULK AT MOST 1048576: true; the input reads as it did. -/
def mmuMarksUptoRow : OpenClaim := { program := "ytfpdemlcmfaieaa", sum := "b826349f8f31da0bfaa5322cb6821fc37e012c1c9fb3aac354df9fe56bdc7f2a", func := "camshaft/camshaftlaw05.MmuMarks", spec := "mmuMarks", unfollowed := true, recurses := true, apart := false, narrowed := true }
def MmuMarksUptoSaid : Prop := mmuMarksUptoRow.holds Try.pinned (OpenSpec.upto mmuMarksSpec)

/-- 'camshaftlaw05.MmuRest', WHERE WHAT IT READS IS OF BULK AT MOST 1048576: true; the input reads as it did. -/
def mmuRestUptoRow : OpenClaim := { program := "ytfpdemlcmfaieaa", sum := "b826349f8f31da0bfaa5322cb6821fc37e012c1c9fb3aac354df9fe56bdc7f2a", func := "camshaft/camshaftlaw05.MmuRest", spec := "mmuRest", unfollowed := true, recurses := true, apart := false, narrowed := true }
def MmuRestUptoSaid : Prop := mmuRestUptoRow.holds Try.pinned (OpenSpec.upto mmuRestSpec)

end Rows
end Go.Proofs.Ytfpdemlcmfaieaa
