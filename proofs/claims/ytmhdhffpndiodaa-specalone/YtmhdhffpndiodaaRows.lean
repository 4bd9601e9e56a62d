/-
  No cell of these rows narrows 'for every input' (looked for: loops, veiled, ifaces, maps, wideKeys, modest, calm, conditions, laid).
  DERIVED. THE GIVEN ROWS OF THIS SEAT. 5 by the template 'for every input the law returns true; each argument reads behind the call as it read before'; 0 by the template 'total and deterministic' (their statements: YtmhdhffpndiodaaTotals.lean).
  GIVEN WITH THE SEED: the statements are not yours to turn. If you find one false, say at which input.
  Laid BY PROGRAM, IN A SANDBOX (cutbox-rows.mjs): the forced cells as the released guide's own fill.sh prints them over the translation 40935a9020f08aba… (all of the seat's roots in one cut). By AI agents, Wed Nov 11 2026. No macro, syntax, notation, axiom, sorry.
-/
import Derived.Test.YtmhdhffpndiodaaChecked
import GoSem.Claim
import GoSem.ClaimJoined
import GoSem.ClaimMapViews
import Derived.JoinedTies
import Derived.KernelRfl
namespace Go.Proofs.Ytmhdhffpndiodaa
/- THE CELL 'sum', in the pinned program and in every row, IS THE sha256 OF THE DUMP (.gsa) THAT YtmhdhffpndiodaaProg.lean LOADS. Nothing in Lean hashes anything: it is a label: what it is worth is what the hold of that sum in a sandbox is worth. -/
noncomputable def Try.pinned : Pinned := { name := "ytmhdhffpndiodaa", sum := "40935a9020f08aba160153ddc7a985951424dcd2a2615f5294f68c478fae333e", checked := Try.checked }
namespace Rows
def none {H : Type} : Left H := { results := [], args := [] }

/-- 'camshaftlaw11.SpecDecodes': WHATEVER THE INPUT: true; the input reads as it did. -/
def specDecodesSpec : ChangeSpec := { name := "specDecodes", fn := fun _ => fun
  | [d1, d2] => { results := [.lit (.bool true)], args := [d1, d2] }
  | _ => none }
def specDecodesRow : OpenClaim := { program := "ytmhdhffpndiodaa", sum := "40935a9020f08aba160153ddc7a985951424dcd2a2615f5294f68c478fae333e", func := "camshaft/camshaftlaw11.SpecDecodes", spec := "specDecodes", inPlace := ["internal/bytealg.IndexByteString"], apart := false }
def SpecDecodesSaid : Prop := specDecodesRow.holds Try.pinned (OpenSpec.ofChange specDecodesSpec)

/-- ITS FALSE NEIGHBOUR: 'it returns false'. Refute it at one input. -/
def specDecodesWrong : ChangeSpec := { name := "specDecodes", fn := fun _ => fun
  | [d1, d2] => { results := [.lit (.bool false)], args := [d1, d2] }
  | _ => none }
def SpecDecodesWrongFalsely : Prop := specDecodesRow.holds Try.pinned (OpenSpec.ofChange specDecodesWrong)

/-- 'camshaftlaw11.SpecBack': WHATEVER THE INPUT: true; the input reads as it did. -/
def specBackSpec : ChangeSpec := { name := "specBack", fn := fun _ => fun
  | [d1, d2, d3] => { results := [.lit (.bool true)], args := [d1, d2, d3] }
  | _ => none }
def specBackRow : OpenClaim := { program := "ytmhdhffpndiodaa", sum := "40935a9020f08aba160153ddc7a985951424dcd2a2615f5294f68c478fae333e", func := "camshaft/camshaftlaw11.SpecBack", spec := "specBack", inPlace := ["internal/bytealg.IndexByteString"], apart := false }
def SpecBackSaid : Prop := specBackRow.holds Try.pinned (OpenSpec.ofChange specBackSpec)

/-- ITS FALSE NEIGHBOUR: 'it returns false'. Refute it at one input. -/
def specBackWrong : ChangeSpec := { name := "specBack", fn := fun _ => fun
  | [d1, d2, d3] => { results := [.lit (.bool false)], args := [d1, d2, d3] }
  | _ => none }
def SpecBackWrongFalsely : Prop := specBackRow.holds Try.pinned (OpenSpec.ofChange specBackWrong)

/-- 'camshaftlaw11.SpecAlone': WHATEVER THE INPUT: true; the input reads as it did. -/
def specAloneSpec : ChangeSpec := { name := "specAlone", fn := fun _ => fun
  | [d1, d2, d3] => { results := [.lit (.bool true)], args := [d1, d2, d3] }
  | _ => none }
def specAloneRow : OpenClaim := { program := "ytmhdhffpndiodaa", sum := "40935a9020f08aba160153ddc7a985951424dcd2a2615f5294f68c478fae333e", func := "camshaft/camshaftlaw11.SpecAlone", spec := "specAlone", inPlace := ["internal/bytealg.IndexByteString"], apart := false }
def SpecAloneSaid : Prop := specAloneRow.holds Try.pinned (OpenSpec.ofChange specAloneSpec)

/-- ITS FALSE NEIGHBOUR: 'it returns false'. Refute it at one input. -/
def specAloneWrong : ChangeSpec := { name := "specAlone", fn := fun _ => fun
  | [d1, d2, d3] => { results := [.lit (.bool false)], args := [d1, d2, d3] }
  | _ => none }
def SpecAloneWrongFalsely : Prop := specAloneRow.holds Try.pinned (OpenSpec.ofChange specAloneWrong)

/-- 'camshaftlaw11.SpecIndexed': WHATEVER THE INPUT: true; the input reads as it did. -/
def specIndexedSpec : ChangeSpec := { name := "specIndexed", fn := fun _ => fun
  | [d1, d2, d3] => { results := [.lit (.bool true)], args := [d1, d2, d3] }
  | _ => none }
def specIndexedRow : OpenClaim := { program := "ytmhdhffpndiodaa", sum := "40935a9020f08aba160153ddc7a985951424dcd2a2615f5294f68c478fae333e", func := "camshaft/camshaftlaw11.SpecIndexed", spec := "specIndexed", inPlace := ["internal/bytealg.IndexByteString"], apart := false }
def SpecIndexedSaid : Prop := specIndexedRow.holds Try.pinned (OpenSpec.ofChange specIndexedSpec)

/-- ITS FALSE NEIGHBOUR: 'it returns false'. Refute it at one input. -/
def specIndexedWrong : ChangeSpec := { name := "specIndexed", fn := fun _ => fun
  | [d1, d2, d3] => { results := [.lit (.bool false)], args := [d1, d2, d3] }
  | _ => none }
def SpecIndexedWrongFalsely : Prop := specIndexedRow.holds Try.pinned (OpenSpec.ofChange specIndexedWrong)

/-- 'camshaftlaw11.SpecSizes': WHATEVER THE INPUT: true; the input reads as it did. -/
def specSizesSpec : ChangeSpec := { name := "specSizes", fn := fun _ => fun
  | [d1, d2] => { results := [.lit (.bool true)], args := [d1, d2] }
  | _ => none }
def specSizesRow : OpenClaim := { program := "ytmhdhffpndiodaa", sum := "40935a9020f08aba160153ddc7a985951424dcd2a2615f5294f68c478fae333e", func := "camshaft/camshaftlaw11.SpecSizes", spec := "specSizes", inPlace := ["internal/bytealg.IndexByteString"], apart := false }
def SpecSizesSaid : Prop := specSizesRow.holds Try.pinned (OpenSpec.ofChange specSizesSpec)

/-- ITS FALSE NEIGHBOUR: 'it returns false'. Refute it at one input. -/
def specSizesWrong : ChangeSpec := { name := "specSizes", fn := fun _ => fun
  | [d1, d2] => { results := [.lit (.bool false)], args := [d1, d2] }
  | _ => none }
def SpecSizesWrongFalsely : Prop := specSizesRow.holds Try.pinned (OpenSpec.ofChange specSizesWrong)

/- THE SECOND FORM. 'bulk': how many values and letters a reading holds, each counted each time it is reached (what is shared counts as often as it is met; a slice's spare places count too). A statement '..UptoSaid' is the law's where the arguments, and the package variables that the reading takes, are together of bulk at most 1048576: NARROWER than '..Said'. Prove '..Said' where nothing that the law and all that it calls make is longer than what came in: it says more and counts as full. Else prove '..UptoSaid'. A law counts once. -/
mutual
def uptoBulk {H : Type} : DataW H → Nat
  | .lit (.string bytes) => bytes.length + 1
  | .lit _ => 1
  | .nil => 1
  | .ptr d => uptoBulk d + 1
  | .slice elems spare => uptoBulkAll elems + uptoBulkAll spare + 1
  | .agg parts => uptoBulkAll parts + 1
  | .iface _ d => uptoBulk d + 1
  | .map entries => uptoBulkEntries entries + 1
  | .held _ => 1
def uptoBulkAll {H : Type} : List (DataW H) → Nat
  | [] => 0
  | d :: r => uptoBulk d + uptoBulkAll r
def uptoBulkEntries {H : Type} : List (Lit × DataW H) → Nat
  | [] => 0
  | x :: r => uptoBulkEntry x + uptoBulkEntries r
def uptoBulkEntry {H : Type} : Lit × DataW H → Nat
  | (.string bytes, d) => bytes.length + uptoBulk d + 1
  | (_, d) => uptoBulk d + 1
 end
def uptoSmall : (H : Type) → List (DataW H) → Bool := fun _ ds => decide (uptoBulkAll ds ≤ 1048576)
def OpenSpec.upto (s : _root_.Go.ChangeSpec) : _root_.Go.OpenSpec := { _root_.Go.OpenSpec.ofChange s with cond := some uptoSmall }

/-- 'camshaftlaw11.SpecDecodes', WHERE WHAT IT READS IS OF BULK AT MOST 1048576: true; the input reads as it did. -/
def specDecodesUptoRow : OpenClaim := { program := "ytmhdhffpndiodaa", sum := "40935a9020f08aba160153ddc7a985951424dcd2a2615f5294f68c478fae333e", func := "camshaft/camshaftlaw11.SpecDecodes", spec := "specDecodes", inPlace := ["internal/bytealg.IndexByteString"], apart := false, narrowed := true }
def SpecDecodesUptoSaid : Prop := specDecodesUptoRow.holds Try.pinned (OpenSpec.upto specDecodesSpec)

/-- 'camshaftlaw11.SpecBack', WHERE WHAT IT READS IS OF BULK AT MOST 1048576: true; the input reads as it did. -/
def specBackUptoRow : OpenClaim := { program := "ytmhdhffpndiodaa", sum := "40935a9020f08aba160153ddc7a985951424dcd2a2615f5294f68c478fae333e", func := "camshaft/camshaftlaw11.SpecBack", spec := "specBack", inPlace := ["internal/bytealg.IndexByteString"], apart := false, narrowed := true }
def SpecBackUptoSaid : Prop := specBackUptoRow.holds Try.pinned (OpenSpec.upto specBackSpec)

/-- 'camshaftlaw11.SpecAlone', WHERE WHAT IT READS IS OF BULK AT MOST 1048576: true; the input reads as it did. -/
def specAloneUptoRow : OpenClaim := { program := "ytmhdhffpndiodaa", sum := "40935a9020f08aba160153ddc7a985951424dcd2a2615f5294f68c478fae333e", func := "camshaft/camshaftlaw11.SpecAlone", spec := "specAlone", inPlace := ["internal/bytealg.IndexByteString"], apart := false, narrowed := true }
def SpecAloneUptoSaid : Prop := specAloneUptoRow.holds Try.pinned (OpenSpec.upto specAloneSpec)

/-- 'camshaftlaw11.SpecIndexed', WHERE WHAT IT READS IS OF BULK AT MOST 1048576: true; the input reads as it did. -/
def specIndexedUptoRow : OpenClaim := { program := "ytmhdhffpndiodaa", sum := "40935a9020f08aba160153ddc7a985951424dcd2a2615f5294f68c478fae333e", func := "camshaft/camshaftlaw11.SpecIndexed", spec := "specIndexed", inPlace := ["internal/bytealg.IndexByteString"], apart := false, narrowed := true }
def SpecIndexedUptoSaid : Prop := specIndexedUptoRow.holds Try.pinned (OpenSpec.upto specIndexedSpec)

/-- 'camshaftlaw11.SpecSizes', WHERE WHAT IT READS IS OF BULK AT MOST 1048576: true; the input reads as it did. -/
def specSizesUptoRow : OpenClaim := { program := "ytmhdhffpndiodaa", sum := "40935a9020f08aba160153ddc7a985951424dcd2a2615f5294f68c478fae333e", func := "camshaft/camshaftlaw11.SpecSizes", spec := "specSizes", inPlace := ["internal/bytealg.IndexByteString"], apart := false, narrowed := true }
def SpecSizesUptoSaid : Prop := specSizesUptoRow.holds Try.pinned (OpenSpec.upto specSizesSpec)

end Rows
end Go.Proofs.Ytmhdhffpndiodaa
