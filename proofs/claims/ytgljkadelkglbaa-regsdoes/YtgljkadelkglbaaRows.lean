/-
  No cell of these rows narrows 'for every input' (looked for: loops, veiled, ifaces, maps, wideKeys, modest, calm, conditions, laid).
  DERIVED. THE GIVEN ROWS OF THIS SEAT. 5 by the template 'for every input the law returns true; each argument reads behind the call as it read before'; 0 by the template 'total and deterministic' (their statements: YtgljkadelkglbaaTotals.lean).
  GIVEN WITH THE SEED: the statements are not yours to turn. If you find one false, say at which input.
  Laid BY PROGRAM, IN A SANDBOX (cutbox-rows.mjs): the forced cells as the released guide's own fill.sh prints them over the translation 8f1e976cb3a44dff… (all of the seat's roots in one cut). By AI agents, Wed Nov 11 2026. No macro, syntax, notation, axiom, sorry.
-/
import Derived.Test.YtgljkadelkglbaaChecked
import GoSem.Claim
import GoSem.ClaimJoined
import GoSem.ClaimMapViews
import Derived.JoinedTies
import Derived.KernelRfl
namespace Go.Proofs.Ytgljkadelkglbaa
/- THE CELL 'sum', in the pinned program and in every row, IS THE sha256 OF THE DUMP (.gsa) THAT YtgljkadelkglbaaProg.lean LOADS. Nothing in Lean hashes anything: it is a label: what it is worth is what the hold of that sum in a sandbox is worth. -/
noncomputable def Try.pinned : Pinned := { name := "ytgljkadelkglbaa", sum := "8f1e976cb3a44dff0ff916f7f1a4dd05d55e993558d923fa17b4497ebd3cca37", checked := Try.checked }
namespace Rows
def none {H : Type} : Left H := { results := [], args := [] }

/-- 'camshaftlaw07.RegsDoes': WHATEVER THE INPUT: true; the input reads as it did. -/
def regsDoesSpec : ChangeSpec := { name := "regsDoes", fn := fun _ => fun
  | [d1, d2] => { results := [.lit (.bool true)], args := [d1, d2] }
  | _ => none }
def regsDoesRow : OpenClaim := { program := "ytgljkadelkglbaa", sum := "8f1e976cb3a44dff0ff916f7f1a4dd05d55e993558d923fa17b4497ebd3cca37", func := "camshaft/camshaftlaw07.RegsDoes", spec := "regsDoes", apart := false }
def RegsDoesSaid : Prop := regsDoesRow.holds Try.pinned (OpenSpec.ofChange regsDoesSpec)

/-- ITS FALSE NEIGHBOUR: 'it returns false'. Refute it at one input. -/
def regsDoesWrong : ChangeSpec := { name := "regsDoes", fn := fun _ => fun
  | [d1, d2] => { results := [.lit (.bool false)], args := [d1, d2] }
  | _ => none }
def RegsDoesWrongFalsely : Prop := regsDoesRow.holds Try.pinned (OpenSpec.ofChange regsDoesWrong)

/-- 'camshaftlaw07.RegsBack': WHATEVER THE INPUT: true; the input reads as it did. -/
def regsBackSpec : ChangeSpec := { name := "regsBack", fn := fun _ => fun
  | [d1, d2, d3] => { results := [.lit (.bool true)], args := [d1, d2, d3] }
  | _ => none }
def regsBackRow : OpenClaim := { program := "ytgljkadelkglbaa", sum := "8f1e976cb3a44dff0ff916f7f1a4dd05d55e993558d923fa17b4497ebd3cca37", func := "camshaft/camshaftlaw07.RegsBack", spec := "regsBack", apart := false }
def RegsBackSaid : Prop := regsBackRow.holds Try.pinned (OpenSpec.ofChange regsBackSpec)

/-- ITS FALSE NEIGHBOUR: 'it returns false'. Refute it at one input. -/
def regsBackWrong : ChangeSpec := { name := "regsBack", fn := fun _ => fun
  | [d1, d2, d3] => { results := [.lit (.bool false)], args := [d1, d2, d3] }
  | _ => none }
def RegsBackWrongFalsely : Prop := regsBackRow.holds Try.pinned (OpenSpec.ofChange regsBackWrong)

/-- 'camshaftlaw07.RegsStacks': WHATEVER THE INPUT: true; the input reads as it did. -/
def regsStacksSpec : ChangeSpec := { name := "regsStacks", fn := fun _ => fun
  | [d1, d2, d3, d4, d5] => { results := [.lit (.bool true)], args := [d1, d2, d3, d4, d5] }
  | _ => none }
def regsStacksRow : OpenClaim := { program := "ytgljkadelkglbaa", sum := "8f1e976cb3a44dff0ff916f7f1a4dd05d55e993558d923fa17b4497ebd3cca37", func := "camshaft/camshaftlaw07.RegsStacks", spec := "regsStacks", apart := false }
def RegsStacksSaid : Prop := regsStacksRow.holds Try.pinned (OpenSpec.ofChange regsStacksSpec)

/-- ITS FALSE NEIGHBOUR: 'it returns false'. Refute it at one input. -/
def regsStacksWrong : ChangeSpec := { name := "regsStacks", fn := fun _ => fun
  | [d1, d2, d3, d4, d5] => { results := [.lit (.bool false)], args := [d1, d2, d3, d4, d5] }
  | _ => none }
def RegsStacksWrongFalsely : Prop := regsStacksRow.holds Try.pinned (OpenSpec.ofChange regsStacksWrong)

/-- 'camshaftlaw07.RegsSets': WHATEVER THE INPUT: true; the input reads as it did. -/
def regsSetsSpec : ChangeSpec := { name := "regsSets", fn := fun _ => fun
  | [d1, d2, d3, d4] => { results := [.lit (.bool true)], args := [d1, d2, d3, d4] }
  | _ => none }
def regsSetsRow : OpenClaim := { program := "ytgljkadelkglbaa", sum := "8f1e976cb3a44dff0ff916f7f1a4dd05d55e993558d923fa17b4497ebd3cca37", func := "camshaft/camshaftlaw07.RegsSets", spec := "regsSets", apart := false }
def RegsSetsSaid : Prop := regsSetsRow.holds Try.pinned (OpenSpec.ofChange regsSetsSpec)

/-- ITS FALSE NEIGHBOUR: 'it returns false'. Refute it at one input. -/
def regsSetsWrong : ChangeSpec := { name := "regsSets", fn := fun _ => fun
  | [d1, d2, d3, d4] => { results := [.lit (.bool false)], args := [d1, d2, d3, d4] }
  | _ => none }
def RegsSetsWrongFalsely : Prop := regsSetsRow.holds Try.pinned (OpenSpec.ofChange regsSetsWrong)

/-- 'camshaftlaw07.RegsForgets': WHATEVER THE INPUT: true; the input reads as it did. -/
def regsForgetsSpec : ChangeSpec := { name := "regsForgets", fn := fun _ => fun
  | [d1, d2, d3, d4] => { results := [.lit (.bool true)], args := [d1, d2, d3, d4] }
  | _ => none }
def regsForgetsRow : OpenClaim := { program := "ytgljkadelkglbaa", sum := "8f1e976cb3a44dff0ff916f7f1a4dd05d55e993558d923fa17b4497ebd3cca37", func := "camshaft/camshaftlaw07.RegsForgets", spec := "regsForgets", apart := false }
def RegsForgetsSaid : Prop := regsForgetsRow.holds Try.pinned (OpenSpec.ofChange regsForgetsSpec)

/-- ITS FALSE NEIGHBOUR: 'it returns false'. Refute it at one input. -/
def regsForgetsWrong : ChangeSpec := { name := "regsForgets", fn := fun _ => fun
  | [d1, d2, d3, d4] => { results := [.lit (.bool false)], args := [d1, d2, d3, d4] }
  | _ => none }
def RegsForgetsWrongFalsely : Prop := regsForgetsRow.holds Try.pinned (OpenSpec.ofChange regsForgetsWrong)

/- THE SECOND FORM. 'bulk': how many values and letters a reading holds, each counted each time it is reached (what is shared counts as often as it is met; a slice's spare places count too). A statement '..UptoSaid' is the law's where the arguments, and the package variables that the reading takes, are together of bulk at most 1048576: NARROWER than '..Said'. Prove '..Said' where nothing that the law and all that it calls make is longer than what came in: it says more and counts as full. Else prove '..UptoSaid'. A law counts once. -/
mutual
def uptoBulk {H : Type} : DataW H → Nat
  | .lit (.string bytes) => bytes.length + 1
  | .lit _ => 1
  | .nil => 1
  | .ptr d => uptoBulk d + 1
  | .slice elems spare => uptoBulkAll elems + uptoBulkAll spare + 1
  | .agg parts => uptoBulkAll parts + 1
  | .iface _ d => uptoBulk d + 1
  | .map entries => uptoBulkEntries entries + 1
  | .held _ => 1
def uptoBulkAll {H : Type} : List (DataW H) → Nat
  | [] => 0
  | d :: r => uptoBulk d + uptoBulkAll r
def uptoBulkEntries {H : Type} : List (Lit × DataW H) → Nat
  | [] => 0
  | x :: r => uptoBulkEntry x + uptoBulkEntries r
def uptoBulkEntry {H : Type} : Lit × DataW H → Nat
  | (.string bytes, d) => bytes.length + uptoBulk d + 1
  | (_, d) => uptoBulk d + 1
 end
def uptoSmall : (H : Type) → List (DataW H) → Bool := fun _ ds => decide (uptoBulkAll ds ≤ 1048576)
def OpenSpec.upto (s : _root_.Go.ChangeSpec) : _root_.Go.OpenSpec := { _root_.Go.OpenSpec.ofChange s with cond := some uptoSmall }

/-- 'camshaftlaw07.RegsDoes', WHERE WHAT IT READS IS OF BULK AT MOST 1048576: true; the input reads as it did. -/
def regsDoesUptoRow : OpenClaim := { program := "ytgljkadelkglbaa", sum := "8f1e976cb3a44dff0ff916f7f1a4dd05d55e993558d923fa17b4497ebd3cca37", func := "camshaft/camshaftlaw07.RegsDoes", spec := "regsDoes", apart := false, narrowed := true }
def RegsDoesUptoSaid : Prop := regsDoesUptoRow.holds Try.pinned (OpenSpec.upto regsDoesSpec)

/-- 'camshaftlaw07.RegsBack', WHERE WHAT IT READS IS OF BULK AT MOST 1048576: true; the input reads as it did. -/
def regsBackUptoRow : OpenClaim := { program := "ytgljkadelkglbaa", sum := "8f1e976cb3a44dff0ff916f7f1a4dd05d55e993558d923fa17b4497ebd3cca37", func := "camshaft/camshaftlaw07.RegsBack", spec := "regsBack", apart := false, narrowed := true }
def RegsBackUptoSaid : Prop := regsBackUptoRow.holds Try.pinned (OpenSpec.upto regsBackSpec)

/-- 'camshaftlaw07.RegsStacks', WHERE WHAT IT READS IS OF BULK AT MOST 1048576: true; the input reads as it did. -/
def regsStacksUptoRow : OpenClaim := { program := "ytgljkadelkglbaa", sum := "8f1e976cb3a44dff0ff916f7f1a4dd05d55e993558d923fa17b4497ebd3cca37", func := "camshaft/camshaftlaw07.RegsStacks", spec := "regsStacks", apart := false, narrowed := true }
def RegsStacksUptoSaid : Prop := regsStacksUptoRow.holds Try.pinned (OpenSpec.upto regsStacksSpec)

/-- 'camshaftlaw07.RegsSets', WHERE WHAT IT READS IS OF BULK AT MOST 1048576: true; the input reads as it did. -/
def regsSetsUptoRow : OpenClaim := { program := "ytgljkadelkglbaa", sum := "8f1e976cb3a44dff0ff916f7f1a4dd05d55e993558d923fa17b4497ebd3cca37", func := "camshaft/camshaftlaw07.RegsSets", spec := "regsSets", apart := false, narrowed := true }
def RegsSetsUptoSaid : Prop := regsSetsUptoRow.holds Try.pinned (OpenSpec.upto regsSetsSpec)

/-- 'camshaftlaw07.RegsForgets', WHERE WHAT IT READS IS OF BULK AT MOST 1048576: true; the input reads as it did. -/
def regsForgetsUptoRow : OpenClaim := { program := "ytgljkadelkglbaa", sum := "8f1e976cb3a44dff0ff916f7f1a4dd05d55e993558d923fa17b4497ebd3cca37", func := "camshaft/camshaftlaw07.RegsForgets", spec := "regsForgets", apart := false, narrowed := true }
def RegsForgetsUptoSaid : Prop := regsForgetsUptoRow.holds Try.pinned (OpenSpec.upto regsForgetsSpec)

end Rows
end Go.Proofs.Ytgljkadelkglbaa
