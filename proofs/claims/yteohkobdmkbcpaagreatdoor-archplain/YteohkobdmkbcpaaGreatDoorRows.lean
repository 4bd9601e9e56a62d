/-
  NARROWER THAN 'FOR EVERY INPUT', by the rows' own cells (each row's printed sentence says how): ArchFaults: laid · ArchMoves: laid · ArchFinds: laid · ArchLevels: laid · ArchApart: laid · ArchPlain: laid · ArchInterrupts: laid.
  DERIVED. THE GIVEN ROWS OF THIS SEAT. 7 by the template 'for every input the law returns true; each argument reads behind the call as it read before'; 0 by the template 'total and deterministic' (their statements: YteohkobdmkbcpaaGreatDoorTotals.lean).
  GIVEN WITH THE SEED: the statements are not yours to turn. If you find one false, say at which input.
  Laid BY PROGRAM, IN A SANDBOX (cutbox-rows.mjs): the forced cells as the released guide's own fill.sh prints them over the translation fb59d5d75f1f8f65… (all of the seat's roots in one cut). By AI agents, Wed Nov 11 2026. No macro, syntax, notation, axiom, sorry.
-/
import Derived.Test.YteohkobdmkbcpaaGreatDoorChecked
import GoSem.PinnedTables
import GoSem.Claim
import GoSem.ClaimJoined
import GoSem.ClaimMapViews
import Derived.JoinedTies
import Derived.KernelRfl
namespace Go.Proofs.YteohkobdmkbcpaaGreatDoor
/- THE CELL 'sum', in the pinned program and in every row, IS THE sha256 OF THE DUMP (.gsa) THAT YteohkobdmkbcpaaGreatDoorProg.lean LOADS. Nothing in Lean hashes anything: it is a label: what it is worth is what the hold of that sum in a sandbox is worth. -/
noncomputable def Tryz.pinned : Pinned := { name := "yteohkobdmkbcpaagreatdoor", sum := "fb59d5d75f1f8f65ed9fbe7ec172ae6782a02d747431645c1fb1dda0f52368c7", checked := Tryz.checked }
namespace Rows
def none {H : Type} : Left H := { results := [], args := [] }

/- WHAT THE LISTED PACKAGE-LEVEL VARIABLES READ AS WHEN THE CALL BEGINS. Each datum BY PROGRAM (the guide's laid-datum.mjs) off the statement by which the dump's own 'gosem.cut.vars' lays the variable. In a bare row this is a premise. The card (YteohkobdmkbcpaaGreatDoorCards.lean) ties it to the program's text. -/
def laid_unicode_utf8_acceptRanges {H : Type} : DataW H := .agg [.agg [.lit (.int .u8 128), .lit (.int .u8 191)], .agg [.lit (.int .u8 160), .lit (.int .u8 191)], .agg [.lit (.int .u8 128), .lit (.int .u8 159)], .agg [.lit (.int .u8 144), .lit (.int .u8 191)], .agg [.lit (.int .u8 128), .lit (.int .u8 143)], .agg [.lit (.int .u8 0), .lit (.int .u8 0)], .agg [.lit (.int .u8 0), .lit (.int .u8 0)], .agg [.lit (.int .u8 0), .lit (.int .u8 0)], .agg [.lit (.int .u8 0), .lit (.int .u8 0)], .agg [.lit (.int .u8 0), .lit (.int .u8 0)], .agg [.lit (.int .u8 0), .lit (.int .u8 0)], .agg [.lit (.int .u8 0), .lit (.int .u8 0)], .agg [.lit (.int .u8 0), .lit (.int .u8 0)], .agg [.lit (.int .u8 0), .lit (.int .u8 0)], .agg [.lit (.int .u8 0), .lit (.int .u8 0)], .agg [.lit (.int .u8 0), .lit (.int .u8 0)]]
def laid_camshaft_isa_earlyNames {H : Type} : DataW H := .agg [.lit (.string [72, 65, 76, 84]), .lit (.string [78, 79, 80]), .lit (.string [82, 69, 73]), .lit (.string [66, 80, 84]), .lit (.string [82, 69, 84]), .lit (.string [82, 83, 66]), .lit (.string []), .lit (.string []), .lit (.string []), .lit (.string []), .lit (.string []), .lit (.string []), .lit (.string []), .lit (.string []), .lit (.string []), .lit (.string []), .lit (.string [66, 83, 66, 66]), .lit (.string [66, 82, 66]), .lit (.string [66, 78, 69, 81]), .lit (.string [66, 69, 81, 76]), .lit (.string [66, 71, 84, 82]), .lit (.string [66, 76, 69, 81]), .lit (.string [74, 83, 66]), .lit (.string [74, 77, 80]), .lit (.string [66, 71, 69, 81]), .lit (.string [66, 76, 83, 83]), .lit (.string [66, 71, 84, 82, 85]), .lit (.string [66, 76, 69, 81, 85]), .lit (.string [66, 86, 67]), .lit (.string [66, 86, 83]), .lit (.string [66, 67, 67]), .lit (.string [66, 67, 83]), .lit (.string []), .lit (.string []), .lit (.string []), .lit (.string []), .lit (.string []), .lit (.string []), .lit (.string []), .lit (.string []), .lit (.string [77, 79, 86, 67, 51]), .lit (.string [67, 77, 80, 67, 51]), .lit (.string []), .lit (.string []), .lit (.string [77, 79, 86, 67, 53]), .lit (.string [67, 77, 80, 67, 53]), .lit (.string []), .lit (.string []), .lit (.string [66, 83, 66, 87]), .lit (.string [66, 82, 87]), .lit (.string [67, 86, 84, 87, 76]), .lit (.string [67, 86, 84, 87, 66]), .lit (.string []), .lit (.string []), .lit (.string []), .lit (.string []), .lit (.string []), .lit (.string []), .lit (.string [76, 79, 67, 67]), .lit (.string [83, 75, 80, 67]), .lit (.string [77, 79, 86, 90, 87, 76]), .lit (.string []), .lit (.string []), .lit (.string [])]
def laid_camshaft_isa_oddNames {H : Type} : DataW H := .agg [.agg [.lit (.string [65, 83, 72, 76]), .lit (.string []), .lit (.string []), .lit (.string []), .lit (.string []), .lit (.string []), .lit (.string []), .lit (.string [])], .agg [.lit (.string [67, 86, 84, 66, 76]), .lit (.string [67, 86, 84, 66, 87]), .lit (.string [77, 79, 86, 90, 66, 76]), .lit (.string [77, 79, 86, 90, 66, 87]), .lit (.string [82, 79, 84, 76]), .lit (.string []), .lit (.string [77, 79, 86, 65, 66]), .lit (.string [80, 85, 83, 72, 65, 66])], .agg [.lit (.string [66, 73, 83, 80, 83, 87]), .lit (.string [66, 73, 67, 80, 83, 87]), .lit (.string [80, 79, 80, 82]), .lit (.string [80, 85, 83, 72, 82]), .lit (.string [67, 72, 77, 75]), .lit (.string []), .lit (.string [77, 79, 86, 65, 87]), .lit (.string [80, 85, 83, 72, 65, 87])], .agg [.lit (.string [65, 68, 87, 67]), .lit (.string [83, 66, 87, 67]), .lit (.string [77, 84, 80, 82]), .lit (.string [77, 70, 80, 82]), .lit (.string [77, 79, 86, 80, 83, 76]), .lit (.string [80, 85, 83, 72, 76]), .lit (.string [77, 79, 86, 65, 76]), .lit (.string [80, 85, 83, 72, 65, 76])]]
def laid_camshaft_isa_lateNames {H : Type} : DataW H := .agg [.lit (.string [66, 66, 83]), .lit (.string [66, 66, 67]), .lit (.string []), .lit (.string []), .lit (.string []), .lit (.string []), .lit (.string []), .lit (.string []), .lit (.string [66, 76, 66, 83]), .lit (.string [66, 76, 66, 67]), .lit (.string []), .lit (.string []), .lit (.string []), .lit (.string []), .lit (.string [69, 88, 84, 86]), .lit (.string [69, 88, 84, 90, 86]), .lit (.string [73, 78, 83, 86]), .lit (.string []), .lit (.string [65, 79, 66, 76, 83, 83]), .lit (.string [65, 79, 66, 76, 69, 81]), .lit (.string [83, 79, 66, 71, 69, 81]), .lit (.string [83, 79, 66, 71, 84, 82]), .lit (.string [67, 86, 84, 76, 66]), .lit (.string [67, 86, 84, 76, 87]), .lit (.string []), .lit (.string []), .lit (.string []), .lit (.string [67, 65, 76, 76, 83]), .lit (.string []), .lit (.string []), .lit (.string []), .lit (.string [])]
def laid_camshaft_isa_familyNames {H : Type} : DataW H := .agg [.lit (.string [65, 68, 68, 50]), .lit (.string [65, 68, 68, 51]), .lit (.string [83, 85, 66, 50]), .lit (.string [83, 85, 66, 51]), .lit (.string [77, 85, 76, 50]), .lit (.string [77, 85, 76, 51]), .lit (.string [68, 73, 86, 50]), .lit (.string [68, 73, 86, 51]), .lit (.string [66, 73, 83, 50]), .lit (.string [66, 73, 83, 51]), .lit (.string [66, 73, 67, 50]), .lit (.string [66, 73, 67, 51]), .lit (.string [88, 79, 82, 50]), .lit (.string [88, 79, 82, 51]), .lit (.string [77, 78, 69, 71]), .lit (.string []), .lit (.string [77, 79, 86]), .lit (.string [67, 77, 80]), .lit (.string [77, 67, 79, 77]), .lit (.string [66, 73, 84]), .lit (.string [67, 76, 82]), .lit (.string [84, 83, 84]), .lit (.string [73, 78, 67]), .lit (.string [68, 69, 67])]
/-- One of Go's own tables, pinned by name: the form's constant. -/
def laid_unicode_utf8_first : DataW Unit := Go.Pinned.utf8First

/-- 'camshaftlaw13.ArchFaults': WHATEVER THE INPUT: true; the input reads as it did. -/
def archFaultsSpec : ChangeSpec := { name := "archFaults", fn := fun _ => fun
  | [d1, d2] => { results := [.lit (.bool true)], args := [d1, d2] }
  | _ => none }
def archFaultsRow : OpenClaim := { program := "yteohkobdmkbcpaagreatdoor", sum := "fb59d5d75f1f8f65ed9fbe7ec172ae6782a02d747431645c1fb1dda0f52368c7", func := "camshaft/camshaftlaw13.ArchFaults", spec := "archFaults", inPlace := ["internal/bytealg.CountString", "internal/bytealg.IndexByteString", "internal/bytealg.IndexString", "internal/abi.NoEscape", "internal/bytealg.MakeNoZero"], unfollowed := true, recurses := true, named := ["camshaft/isa.earlyNames", "camshaft/isa.lateNames", "camshaft/isa.oddNames", "camshaft/isa.familyNames", "internal/bytealg.MaxLen", "unicode/utf8.first", "unicode/utf8.acceptRanges"], apart := false, laid := [("unicode/utf8.acceptRanges", laid_unicode_utf8_acceptRanges), ("camshaft/isa.earlyNames", laid_camshaft_isa_earlyNames), ("camshaft/isa.oddNames", laid_camshaft_isa_oddNames), ("camshaft/isa.lateNames", laid_camshaft_isa_lateNames), ("camshaft/isa.familyNames", laid_camshaft_isa_familyNames), ("unicode/utf8.first", laid_unicode_utf8_first)] }
def ArchFaultsSaid : Prop := archFaultsRow.holds Tryz.pinned (OpenSpec.ofChange archFaultsSpec)

/-- ITS FALSE NEIGHBOUR: 'it returns false'. Refute it at one input. -/
def archFaultsWrong : ChangeSpec := { name := "archFaults", fn := fun _ => fun
  | [d1, d2] => { results := [.lit (.bool false)], args := [d1, d2] }
  | _ => none }
def ArchFaultsWrongFalsely : Prop := archFaultsRow.holds Tryz.pinned (OpenSpec.ofChange archFaultsWrong)

/-- 'camshaftlaw13.ArchMoves': WHATEVER THE INPUT: true; the input reads as it did. -/
def archMovesSpec : ChangeSpec := { name := "archMoves", fn := fun _ => fun
  | [d1, d2, d3, d4, d5, d6, d7] => { results := [.lit (.bool true)], args := [d1, d2, d3, d4, d5, d6, d7] }
  | _ => none }
def archMovesRow : OpenClaim := { program := "yteohkobdmkbcpaagreatdoor", sum := "fb59d5d75f1f8f65ed9fbe7ec172ae6782a02d747431645c1fb1dda0f52368c7", func := "camshaft/camshaftlaw13.ArchMoves", spec := "archMoves", inPlace := ["internal/bytealg.CountString", "internal/bytealg.IndexByteString", "internal/bytealg.IndexString", "internal/abi.NoEscape", "internal/bytealg.MakeNoZero"], unfollowed := true, recurses := true, named := ["camshaft/isa.earlyNames", "camshaft/isa.lateNames", "camshaft/isa.oddNames", "camshaft/isa.familyNames", "internal/bytealg.MaxLen", "unicode/utf8.first", "unicode/utf8.acceptRanges"], apart := false, laid := [("unicode/utf8.acceptRanges", laid_unicode_utf8_acceptRanges), ("camshaft/isa.earlyNames", laid_camshaft_isa_earlyNames), ("camshaft/isa.oddNames", laid_camshaft_isa_oddNames), ("camshaft/isa.lateNames", laid_camshaft_isa_lateNames), ("camshaft/isa.familyNames", laid_camshaft_isa_familyNames), ("unicode/utf8.first", laid_unicode_utf8_first)] }
def ArchMovesSaid : Prop := archMovesRow.holds Tryz.pinned (OpenSpec.ofChange archMovesSpec)

/-- ITS FALSE NEIGHBOUR: 'it returns false'. Refute it at one input. -/
def archMovesWrong : ChangeSpec := { name := "archMoves", fn := fun _ => fun
  | [d1, d2, d3, d4, d5, d6, d7] => { results := [.lit (.bool false)], args := [d1, d2, d3, d4, d5, d6, d7] }
  | _ => none }
def ArchMovesWrongFalsely : Prop := archMovesRow.holds Tryz.pinned (OpenSpec.ofChange archMovesWrong)

/-- 'camshaftlaw13.ArchFinds': WHATEVER THE INPUT: true; the input reads as it did. -/
def archFindsSpec : ChangeSpec := { name := "archFinds", fn := fun _ => fun
  | [d1, d2, d3, d4] => { results := [.lit (.bool true)], args := [d1, d2, d3, d4] }
  | _ => none }
def archFindsRow : OpenClaim := { program := "yteohkobdmkbcpaagreatdoor", sum := "fb59d5d75f1f8f65ed9fbe7ec172ae6782a02d747431645c1fb1dda0f52368c7", func := "camshaft/camshaftlaw13.ArchFinds", spec := "archFinds", inPlace := ["internal/bytealg.CountString", "internal/bytealg.IndexByteString", "internal/bytealg.IndexString", "internal/abi.NoEscape", "internal/bytealg.MakeNoZero"], unfollowed := true, recurses := true, named := ["camshaft/isa.earlyNames", "camshaft/isa.lateNames", "camshaft/isa.oddNames", "camshaft/isa.familyNames", "internal/bytealg.MaxLen", "unicode/utf8.first", "unicode/utf8.acceptRanges"], apart := false, laid := [("unicode/utf8.acceptRanges", laid_unicode_utf8_acceptRanges), ("camshaft/isa.earlyNames", laid_camshaft_isa_earlyNames), ("camshaft/isa.oddNames", laid_camshaft_isa_oddNames), ("camshaft/isa.lateNames", laid_camshaft_isa_lateNames), ("camshaft/isa.familyNames", laid_camshaft_isa_familyNames), ("unicode/utf8.first", laid_unicode_utf8_first)] }
def ArchFindsSaid : Prop := archFindsRow.holds Tryz.pinned (OpenSpec.ofChange archFindsSpec)

/-- ITS FALSE NEIGHBOUR: 'it returns false'. Refute it at one input. -/
def archFindsWrong : ChangeSpec := { name := "archFinds", fn := fun _ => fun
  | [d1, d2, d3, d4] => { results := [.lit (.bool false)], args := [d1, d2, d3, d4] }
  | _ => none }
def ArchFindsWrongFalsely : Prop := archFindsRow.holds Tryz.pinned (OpenSpec.ofChange archFindsWrong)

/-- 'camshaftlaw13.ArchLevels': WHATEVER THE INPUT: true; the input reads as it did. -/
def archLevelsSpec : ChangeSpec := { name := "archLevels", fn := fun _ => fun
  | [d1, d2] => { results := [.lit (.bool true)], args := [d1, d2] }
  | _ => none }
def archLevelsRow : OpenClaim := { program := "yteohkobdmkbcpaagreatdoor", sum := "fb59d5d75f1f8f65ed9fbe7ec172ae6782a02d747431645c1fb1dda0f52368c7", func := "camshaft/camshaftlaw13.ArchLevels", spec := "archLevels", inPlace := ["internal/bytealg.CountString", "internal/bytealg.IndexByteString", "internal/bytealg.IndexString", "internal/abi.NoEscape", "internal/bytealg.MakeNoZero"], unfollowed := true, recurses := true, named := ["camshaft/isa.earlyNames", "camshaft/isa.lateNames", "camshaft/isa.oddNames", "camshaft/isa.familyNames", "internal/bytealg.MaxLen", "unicode/utf8.first", "unicode/utf8.acceptRanges"], apart := false, laid := [("unicode/utf8.acceptRanges", laid_unicode_utf8_acceptRanges), ("camshaft/isa.earlyNames", laid_camshaft_isa_earlyNames), ("camshaft/isa.oddNames", laid_camshaft_isa_oddNames), ("camshaft/isa.lateNames", laid_camshaft_isa_lateNames), ("camshaft/isa.familyNames", laid_camshaft_isa_familyNames), ("unicode/utf8.first", laid_unicode_utf8_first)] }
def ArchLevelsSaid : Prop := archLevelsRow.holds Tryz.pinned (OpenSpec.ofChange archLevelsSpec)

/-- ITS FALSE NEIGHBOUR: 'it returns false'. Refute it at one input. -/
def archLevelsWrong : ChangeSpec := { name := "archLevels", fn := fun _ => fun
  | [d1, d2] => { results := [.lit (.bool false)], args := [d1, d2] }
  | _ => none }
def ArchLevelsWrongFalsely : Prop := archLevelsRow.holds Tryz.pinned (OpenSpec.ofChange archLevelsWrong)

/-- 'camshaftlaw13.ArchApart': WHATEVER THE INPUT: true; the input reads as it did. -/
def archApartSpec : ChangeSpec := { name := "archApart", fn := fun _ => fun
  | [d1, d2, d3, d4] => { results := [.lit (.bool true)], args := [d1, d2, d3, d4] }
  | _ => none }
def archApartRow : OpenClaim := { program := "yteohkobdmkbcpaagreatdoor", sum := "fb59d5d75f1f8f65ed9fbe7ec172ae6782a02d747431645c1fb1dda0f52368c7", func := "camshaft/camshaftlaw13.ArchApart", spec := "archApart", inPlace := ["internal/bytealg.CountString", "internal/bytealg.IndexByteString", "internal/bytealg.IndexString", "internal/abi.NoEscape", "internal/bytealg.MakeNoZero"], unfollowed := true, recurses := true, named := ["camshaft/isa.earlyNames", "camshaft/isa.lateNames", "camshaft/isa.oddNames", "camshaft/isa.familyNames", "internal/bytealg.MaxLen", "unicode/utf8.first", "unicode/utf8.acceptRanges"], apart := false, laid := [("unicode/utf8.acceptRanges", laid_unicode_utf8_acceptRanges), ("camshaft/isa.earlyNames", laid_camshaft_isa_earlyNames), ("camshaft/isa.oddNames", laid_camshaft_isa_oddNames), ("camshaft/isa.lateNames", laid_camshaft_isa_lateNames), ("camshaft/isa.familyNames", laid_camshaft_isa_familyNames), ("unicode/utf8.first", laid_unicode_utf8_first)] }
def ArchApartSaid : Prop := archApartRow.holds Tryz.pinned (OpenSpec.ofChange archApartSpec)

/-- ITS FALSE NEIGHBOUR: 'it returns false'. Refute it at one input. -/
def archApartWrong : ChangeSpec := { name := "archApart", fn := fun _ => fun
  | [d1, d2, d3, d4] => { results := [.lit (.bool false)], args := [d1, d2, d3, d4] }
  | _ => none }
def ArchApartWrongFalsely : Prop := archApartRow.holds Tryz.pinned (OpenSpec.ofChange archApartWrong)

/-- 'camshaftlaw13.ArchPlain': WHATEVER THE INPUT: true; the input reads as it did. -/
def archPlainSpec : ChangeSpec := { name := "archPlain", fn := fun _ => fun
  | [d1, d2, d3, d4] => { results := [.lit (.bool true)], args := [d1, d2, d3, d4] }
  | _ => none }
def archPlainRow : OpenClaim := { program := "yteohkobdmkbcpaagreatdoor", sum := "fb59d5d75f1f8f65ed9fbe7ec172ae6782a02d747431645c1fb1dda0f52368c7", func := "camshaft/camshaftlaw13.ArchPlain", spec := "archPlain", inPlace := ["internal/bytealg.CountString", "internal/bytealg.IndexByteString", "internal/bytealg.IndexString", "internal/abi.NoEscape", "internal/bytealg.MakeNoZero"], unfollowed := true, recurses := true, named := ["camshaft/isa.earlyNames", "camshaft/isa.lateNames", "camshaft/isa.oddNames", "camshaft/isa.familyNames", "internal/bytealg.MaxLen", "unicode/utf8.first", "unicode/utf8.acceptRanges"], apart := false, laid := [("unicode/utf8.acceptRanges", laid_unicode_utf8_acceptRanges), ("camshaft/isa.earlyNames", laid_camshaft_isa_earlyNames), ("camshaft/isa.oddNames", laid_camshaft_isa_oddNames), ("camshaft/isa.lateNames", laid_camshaft_isa_lateNames), ("camshaft/isa.familyNames", laid_camshaft_isa_familyNames), ("unicode/utf8.first", laid_unicode_utf8_first)] }
def ArchPlainSaid : Prop := archPlainRow.holds Tryz.pinned (OpenSpec.ofChange archPlainSpec)

/-- ITS FALSE NEIGHBOUR: 'it returns false'. Refute it at one input. -/
def archPlainWrong : ChangeSpec := { name := "archPlain", fn := fun _ => fun
  | [d1, d2, d3, d4] => { results := [.lit (.bool false)], args := [d1, d2, d3, d4] }
  | _ => none }
def ArchPlainWrongFalsely : Prop := archPlainRow.holds Tryz.pinned (OpenSpec.ofChange archPlainWrong)

/-- 'camshaftlaw13.ArchInterrupts': WHATEVER THE INPUT: true; the input reads as it did. -/
def archInterruptsSpec : ChangeSpec := { name := "archInterrupts", fn := fun _ => fun
  | [d1, d2] => { results := [.lit (.bool true)], args := [d1, d2] }
  | _ => none }
def archInterruptsRow : OpenClaim := { program := "yteohkobdmkbcpaagreatdoor", sum := "fb59d5d75f1f8f65ed9fbe7ec172ae6782a02d747431645c1fb1dda0f52368c7", func := "camshaft/camshaftlaw13.ArchInterrupts", spec := "archInterrupts", inPlace := ["internal/bytealg.CountString", "internal/bytealg.IndexByteString", "internal/bytealg.IndexString", "internal/abi.NoEscape", "internal/bytealg.MakeNoZero"], unfollowed := true, recurses := true, named := ["camshaft/isa.earlyNames", "camshaft/isa.lateNames", "camshaft/isa.oddNames", "camshaft/isa.familyNames", "internal/bytealg.MaxLen", "unicode/utf8.first", "unicode/utf8.acceptRanges"], apart := false, laid := [("unicode/utf8.acceptRanges", laid_unicode_utf8_acceptRanges), ("camshaft/isa.earlyNames", laid_camshaft_isa_earlyNames), ("camshaft/isa.oddNames", laid_camshaft_isa_oddNames), ("camshaft/isa.lateNames", laid_camshaft_isa_lateNames), ("camshaft/isa.familyNames", laid_camshaft_isa_familyNames), ("unicode/utf8.first", laid_unicode_utf8_first)] }
def ArchInterruptsSaid : Prop := archInterruptsRow.holds Tryz.pinned (OpenSpec.ofChange archInterruptsSpec)

/-- ITS FALSE NEIGHBOUR: 'it returns false'. Refute it at one input. -/
def archInterruptsWrong : ChangeSpec := { name := "archInterrupts", fn := fun _ => fun
  | [d1, d2] => { results := [.lit (.bool false)], args := [d1, d2] }
  | _ => none }
def ArchInterruptsWrongFalsely : Prop := archInterruptsRow.holds Tryz.pinned (OpenSpec.ofChange archInterruptsWrong)

/- THE SECOND FORM. 'bulk': how many values and letters a reading holds, each counted each time it is reached (what is shared counts as often as it is met; a slice's spare places count too). A statement '..UptoSaid' is the law's where the arguments, and the package variables that the reading takes, are together of bulk at most 1048576: NARROWER than '..Said'. Prove '..Said' where nothing that the law and all that it calls make is longer than what came in: it says more and counts as full. Else prove '..UptoSaid'. A law counts once. -/
mutual
def uptoBulk {H : Type} : DataW H → Nat
  | .lit (.string bytes) => bytes.length + 1
  | .lit _ => 1
  | .nil => 1
  | .ptr d => uptoBulk d + 1
  | .slice elems spare => uptoBulkAll elems + uptoBulkAll spare + 1
  | .agg parts => uptoBulkAll parts + 1
  | .iface _ d => uptoBulk d + 1
  | .map entries => uptoBulkEntries entries + 1
  | .held _ => 1
def uptoBulkAll {H : Type} : List (DataW H) → Nat
  | [] => 0
  | d :: r => uptoBulk d + uptoBulkAll r
def uptoBulkEntries {H : Type} : List (Lit × DataW H) → Nat
  | [] => 0
  | x :: r => uptoBulkEntry x + uptoBulkEntries r
def uptoBulkEntry {H : Type} : Lit × DataW H → Nat
  | (.string bytes, d) => bytes.length + uptoBulk d + 1
  | (_, d) => uptoBulk d + 1
 end
def uptoSmall : (H : Type) → List (DataW H) → Bool := fun _ ds => decide (uptoBulkAll ds ≤ 1048576)
def OpenSpec.upto (s : _root_.Go.ChangeSpec) : _root_.Go.OpenSpec := { _root_.Go.OpenSpec.ofChange s with cond := some uptoSmall }

/-- 'camshaftlaw13.ArchFaults', WHERE WHAT IT READS IS OF BULK AT MOST 1048576: true; the input reads as it did. -/
def archFaultsUptoRow : OpenClaim := { program := "yteohkobdmkbcpaagreatdoor", sum := "fb59d5d75f1f8f65ed9fbe7ec172ae6782a02d747431645c1fb1dda0f52368c7", func := "camshaft/camshaftlaw13.ArchFaults", spec := "archFaults", inPlace := ["internal/bytealg.CountString", "internal/bytealg.IndexByteString", "internal/bytealg.IndexString", "internal/abi.NoEscape", "internal/bytealg.MakeNoZero"], unfollowed := true, recurses := true, named := ["camshaft/isa.earlyNames", "camshaft/isa.lateNames", "camshaft/isa.oddNames", "camshaft/isa.familyNames", "internal/bytealg.MaxLen", "unicode/utf8.first", "unicode/utf8.acceptRanges"], apart := false, laid := [("unicode/utf8.acceptRanges", laid_unicode_utf8_acceptRanges), ("camshaft/isa.earlyNames", laid_camshaft_isa_earlyNames), ("camshaft/isa.oddNames", laid_camshaft_isa_oddNames), ("camshaft/isa.lateNames", laid_camshaft_isa_lateNames), ("camshaft/isa.familyNames", laid_camshaft_isa_familyNames), ("unicode/utf8.first", laid_unicode_utf8_first)], narrowed := true }
def ArchFaultsUptoSaid : Prop := archFaultsUptoRow.holds Tryz.pinned (OpenSpec.upto archFaultsSpec)

/-- 'camshaftlaw13.ArchMoves', WHERE WHAT IT READS IS OF BULK AT MOST 1048576: true; the input reads as it did. -/
def archMovesUptoRow : OpenClaim := { program := "yteohkobdmkbcpaagreatdoor", sum := "fb59d5d75f1f8f65ed9fbe7ec172ae6782a02d747431645c1fb1dda0f52368c7", func := "camshaft/camshaftlaw13.ArchMoves", spec := "archMoves", inPlace := ["internal/bytealg.CountString", "internal/bytealg.IndexByteString", "internal/bytealg.IndexString", "internal/abi.NoEscape", "internal/bytealg.MakeNoZero"], unfollowed := true, recurses := true, named := ["camshaft/isa.earlyNames", "camshaft/isa.lateNames", "camshaft/isa.oddNames", "camshaft/isa.familyNames", "internal/bytealg.MaxLen", "unicode/utf8.first", "unicode/utf8.acceptRanges"], apart := false, laid := [("unicode/utf8.acceptRanges", laid_unicode_utf8_acceptRanges), ("camshaft/isa.earlyNames", laid_camshaft_isa_earlyNames), ("camshaft/isa.oddNames", laid_camshaft_isa_oddNames), ("camshaft/isa.lateNames", laid_camshaft_isa_lateNames), ("camshaft/isa.familyNames", laid_camshaft_isa_familyNames), ("unicode/utf8.first", laid_unicode_utf8_first)], narrowed := true }
def ArchMovesUptoSaid : Prop := archMovesUptoRow.holds Tryz.pinned (OpenSpec.upto archMovesSpec)

/-- 'camshaftlaw13.ArchFinds', WHERE WHAT IT READS IS OF BULK AT MOST 1048576: true; the input reads as it did. -/
def archFindsUptoRow : OpenClaim := { program := "yteohkobdmkbcpaagreatdoor", sum := "fb59d5d75f1f8f65ed9fbe7ec172ae6782a02d747431645c1fb1dda0f52368c7", func := "camshaft/camshaftlaw13.ArchFinds", spec := "archFinds", inPlace := ["internal/bytealg.CountString", "internal/bytealg.IndexByteString", "internal/bytealg.IndexString", "internal/abi.NoEscape", "internal/bytealg.MakeNoZero"], unfollowed := true, recurses := true, named := ["camshaft/isa.earlyNames", "camshaft/isa.lateNames", "camshaft/isa.oddNames", "camshaft/isa.familyNames", "internal/bytealg.MaxLen", "unicode/utf8.first", "unicode/utf8.acceptRanges"], apart := false, laid := [("unicode/utf8.acceptRanges", laid_unicode_utf8_acceptRanges), ("camshaft/isa.earlyNames", laid_camshaft_isa_earlyNames), ("camshaft/isa.oddNames", laid_camshaft_isa_oddNames), ("camshaft/isa.lateNames", laid_camshaft_isa_lateNames), ("camshaft/isa.familyNames", laid_camshaft_isa_familyNames), ("unicode/utf8.first", laid_unicode_utf8_first)], narrowed := true }
def ArchFindsUptoSaid : Prop := archFindsUptoRow.holds Tryz.pinned (OpenSpec.upto archFindsSpec)

/-- 'camshaftlaw13.ArchLevels', WHERE WHAT IT READS IS OF BULK AT MOST 1048576: true; the input reads as it did. -/
def archLevelsUptoRow : OpenClaim := { program := "yteohkobdmkbcpaagreatdoor", sum := "fb59d5d75f1f8f65ed9fbe7ec172ae6782a02d747431645c1fb1dda0f52368c7", func := "camshaft/camshaftlaw13.ArchLevels", spec := "archLevels", inPlace := ["internal/bytealg.CountString", "internal/bytealg.IndexByteString", "internal/bytealg.IndexString", "internal/abi.NoEscape", "internal/bytealg.MakeNoZero"], unfollowed := true, recurses := true, named := ["camshaft/isa.earlyNames", "camshaft/isa.lateNames", "camshaft/isa.oddNames", "camshaft/isa.familyNames", "internal/bytealg.MaxLen", "unicode/utf8.first", "unicode/utf8.acceptRanges"], apart := false, laid := [("unicode/utf8.acceptRanges", laid_unicode_utf8_acceptRanges), ("camshaft/isa.earlyNames", laid_camshaft_isa_earlyNames), ("camshaft/isa.oddNames", laid_camshaft_isa_oddNames), ("camshaft/isa.lateNames", laid_camshaft_isa_lateNames), ("camshaft/isa.familyNames", laid_camshaft_isa_familyNames), ("unicode/utf8.first", laid_unicode_utf8_first)], narrowed := true }
def ArchLevelsUptoSaid : Prop := archLevelsUptoRow.holds Tryz.pinned (OpenSpec.upto archLevelsSpec)

/-- 'camshaftlaw13.ArchApart', WHERE WHAT IT READS IS OF BULK AT MOST 1048576: true; the input reads as it did. -/
def archApartUptoRow : OpenClaim := { program := "yteohkobdmkbcpaagreatdoor", sum := "fb59d5d75f1f8f65ed9fbe7ec172ae6782a02d747431645c1fb1dda0f52368c7", func := "camshaft/camshaftlaw13.ArchApart", spec := "archApart", inPlace := ["internal/bytealg.CountString", "internal/bytealg.IndexByteString", "internal/bytealg.IndexString", "internal/abi.NoEscape", "internal/bytealg.MakeNoZero"], unfollowed := true, recurses := true, named := ["camshaft/isa.earlyNames", "camshaft/isa.lateNames", "camshaft/isa.oddNames", "camshaft/isa.familyNames", "internal/bytealg.MaxLen", "unicode/utf8.first", "unicode/utf8.acceptRanges"], apart := false, laid := [("unicode/utf8.acceptRanges", laid_unicode_utf8_acceptRanges), ("camshaft/isa.earlyNames", laid_camshaft_isa_earlyNames), ("camshaft/isa.oddNames", laid_camshaft_isa_oddNames), ("camshaft/isa.lateNames", laid_camshaft_isa_lateNames), ("camshaft/isa.familyNames", laid_camshaft_isa_familyNames), ("unicode/utf8.first", laid_unicode_utf8_first)], narrowed := true }
def ArchApartUptoSaid : Prop := archApartUptoRow.holds Tryz.pinned (OpenSpec.upto archApartSpec)

/-- 'camshaftlaw13.ArchPlain', WHERE WHAT IT READS IS OF BULK AT MOST 1048576: true; the input reads as it did. -/
def archPlainUptoRow : OpenClaim := { program := "yteohkobdmkbcpaagreatdoor", sum := "fb59d5d75f1f8f65ed9fbe7ec172ae6782a02d747431645c1fb1dda0f52368c7", func := "camshaft/camshaftlaw13.ArchPlain", spec := "archPlain", inPlace := ["internal/bytealg.CountString", "internal/bytealg.IndexByteString", "internal/bytealg.IndexString", "internal/abi.NoEscape", "internal/bytealg.MakeNoZero"], unfollowed := true, recurses := true, named := ["camshaft/isa.earlyNames", "camshaft/isa.lateNames", "camshaft/isa.oddNames", "camshaft/isa.familyNames", "internal/bytealg.MaxLen", "unicode/utf8.first", "unicode/utf8.acceptRanges"], apart := false, laid := [("unicode/utf8.acceptRanges", laid_unicode_utf8_acceptRanges), ("camshaft/isa.earlyNames", laid_camshaft_isa_earlyNames), ("camshaft/isa.oddNames", laid_camshaft_isa_oddNames), ("camshaft/isa.lateNames", laid_camshaft_isa_lateNames), ("camshaft/isa.familyNames", laid_camshaft_isa_familyNames), ("unicode/utf8.first", laid_unicode_utf8_first)], narrowed := true }
def ArchPlainUptoSaid : Prop := archPlainUptoRow.holds Tryz.pinned (OpenSpec.upto archPlainSpec)

/-- 'camshaftlaw13.ArchInterrupts', WHERE WHAT IT READS IS OF BULK AT MOST 1048576: true; the input reads as it did. -/
def archInterruptsUptoRow : OpenClaim := { program := "yteohkobdmkbcpaagreatdoor", sum := "fb59d5d75f1f8f65ed9fbe7ec172ae6782a02d747431645c1fb1dda0f52368c7", func := "camshaft/camshaftlaw13.ArchInterrupts", spec := "archInterrupts", inPlace := ["internal/bytealg.CountString", "internal/bytealg.IndexByteString", "internal/bytealg.IndexString", "internal/abi.NoEscape", "internal/bytealg.MakeNoZero"], unfollowed := true, recurses := true, named := ["camshaft/isa.earlyNames", "camshaft/isa.lateNames", "camshaft/isa.oddNames", "camshaft/isa.familyNames", "internal/bytealg.MaxLen", "unicode/utf8.first", "unicode/utf8.acceptRanges"], apart := false, laid := [("unicode/utf8.acceptRanges", laid_unicode_utf8_acceptRanges), ("camshaft/isa.earlyNames", laid_camshaft_isa_earlyNames), ("camshaft/isa.oddNames", laid_camshaft_isa_oddNames), ("camshaft/isa.lateNames", laid_camshaft_isa_lateNames), ("camshaft/isa.familyNames", laid_camshaft_isa_familyNames), ("unicode/utf8.first", laid_unicode_utf8_first)], narrowed := true }
def ArchInterruptsUptoSaid : Prop := archInterruptsUptoRow.holds Tryz.pinned (OpenSpec.upto archInterruptsSpec)

end Rows
end Go.Proofs.YteohkobdmkbcpaaGreatDoor
