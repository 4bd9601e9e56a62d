/-
  DERIVED. GIVEN WITH THE SEED: THE CARDS: each row of YteohkobdmkbcpaaGreatDoorRows.lean that lists a variable, with what it lists TIED to the program's text (the seventh form; the later family's looks); each row that meets fmt, with fmt's text TOLD by the authors' own Lean function (tested against real Go, not proved from fmt's source: count such statements apart). THE CARD IS WHAT COUNTS. Prove the row's statement (the work); the ties are given (YteohkobdmkbcpaaGreatDoorTie.lean); close each card by the builder's one call (the guide's Derived/Test/ToyasCard.lean, 'card_holds'). Laid BY PROGRAM, IN A SANDBOX (cutbox-door.mjs). By AI agents, Wed Nov 11 2026. No macro, syntax, notation, axiom, sorry.
-/
import Derived.Test.YteohkobdmkbcpaaGreatDoorRows
import GoSem.ClaimSeven
namespace Go.Proofs.YteohkobdmkbcpaaGreatDoor
namespace Rows

/-- THE TIED CARD OF 'camshaftlaw13.ArchFaults'. -/
def archFaultsCard : Claim7 := { stood := { row := archFaultsRow, standIns := [], harness := (true, "bdf0031499485689a4f82bc0ccd4a116729a3e9a4ca1066ff2aa172a3f351332"), looks := false }, kinds := [], alts := [], laidByText := true, laidKinds := [.data, .data, .data, .data, .data, .pinned], laidTests := true, laidLooks := .later }
def ArchFaultsCardSaid : Prop := Claim7.holds Tryz.pinned (.plain (OpenSpec.ofChange archFaultsSpec)) archFaultsCard

/-- THE TIED CARD OF 'camshaftlaw13.ArchMoves'. -/
def archMovesCard : Claim7 := { stood := { row := archMovesRow, standIns := [], harness := (true, "bdf0031499485689a4f82bc0ccd4a116729a3e9a4ca1066ff2aa172a3f351332"), looks := false }, kinds := [], alts := [], laidByText := true, laidKinds := [.data, .data, .data, .data, .data, .pinned], laidTests := true, laidLooks := .later }
def ArchMovesCardSaid : Prop := Claim7.holds Tryz.pinned (.plain (OpenSpec.ofChange archMovesSpec)) archMovesCard

/-- THE TIED CARD OF 'camshaftlaw13.ArchFinds'. -/
def archFindsCard : Claim7 := { stood := { row := archFindsRow, standIns := [], harness := (true, "bdf0031499485689a4f82bc0ccd4a116729a3e9a4ca1066ff2aa172a3f351332"), looks := false }, kinds := [], alts := [], laidByText := true, laidKinds := [.data, .data, .data, .data, .data, .pinned], laidTests := true, laidLooks := .later }
def ArchFindsCardSaid : Prop := Claim7.holds Tryz.pinned (.plain (OpenSpec.ofChange archFindsSpec)) archFindsCard

/-- THE TIED CARD OF 'camshaftlaw13.ArchLevels'. -/
def archLevelsCard : Claim7 := { stood := { row := archLevelsRow, standIns := [], harness := (true, "bdf0031499485689a4f82bc0ccd4a116729a3e9a4ca1066ff2aa172a3f351332"), looks := false }, kinds := [], alts := [], laidByText := true, laidKinds := [.data, .data, .data, .data, .data, .pinned], laidTests := true, laidLooks := .later }
def ArchLevelsCardSaid : Prop := Claim7.holds Tryz.pinned (.plain (OpenSpec.ofChange archLevelsSpec)) archLevelsCard

/-- THE TIED CARD OF 'camshaftlaw13.ArchApart'. -/
def archApartCard : Claim7 := { stood := { row := archApartRow, standIns := [], harness := (true, "bdf0031499485689a4f82bc0ccd4a116729a3e9a4ca1066ff2aa172a3f351332"), looks := false }, kinds := [], alts := [], laidByText := true, laidKinds := [.data, .data, .data, .data, .data, .pinned], laidTests := true, laidLooks := .later }
def ArchApartCardSaid : Prop := Claim7.holds Tryz.pinned (.plain (OpenSpec.ofChange archApartSpec)) archApartCard

/-- THE TIED CARD OF 'camshaftlaw13.ArchPlain'. -/
def archPlainCard : Claim7 := { stood := { row := archPlainRow, standIns := [], harness := (true, "bdf0031499485689a4f82bc0ccd4a116729a3e9a4ca1066ff2aa172a3f351332"), looks := false }, kinds := [], alts := [], laidByText := true, laidKinds := [.data, .data, .data, .data, .data, .pinned], laidTests := true, laidLooks := .later }
def ArchPlainCardSaid : Prop := Claim7.holds Tryz.pinned (.plain (OpenSpec.ofChange archPlainSpec)) archPlainCard

/-- THE TIED CARD OF 'camshaftlaw13.ArchInterrupts'. -/
def archInterruptsCard : Claim7 := { stood := { row := archInterruptsRow, standIns := [], harness := (true, "bdf0031499485689a4f82bc0ccd4a116729a3e9a4ca1066ff2aa172a3f351332"), looks := false }, kinds := [], alts := [], laidByText := true, laidKinds := [.data, .data, .data, .data, .data, .pinned], laidTests := true, laidLooks := .later }
def ArchInterruptsCardSaid : Prop := Claim7.holds Tryz.pinned (.plain (OpenSpec.ofChange archInterruptsSpec)) archInterruptsCard

/-- THE SECOND FORM's CARD OF 'camshaftlaw13.ArchFaults'. -/
def archFaultsUptoCard : Claim7 := { stood := { row := archFaultsUptoRow, standIns := [], harness := (true, "bdf0031499485689a4f82bc0ccd4a116729a3e9a4ca1066ff2aa172a3f351332"), looks := false }, kinds := [], alts := [], laidByText := true, laidKinds := [.data, .data, .data, .data, .data, .pinned], laidTests := true, laidLooks := .later }
def ArchFaultsUptoCardSaid : Prop := Claim7.holds Tryz.pinned (.plain (OpenSpec.upto archFaultsSpec)) archFaultsUptoCard

/-- THE SECOND FORM's CARD OF 'camshaftlaw13.ArchMoves'. -/
def archMovesUptoCard : Claim7 := { stood := { row := archMovesUptoRow, standIns := [], harness := (true, "bdf0031499485689a4f82bc0ccd4a116729a3e9a4ca1066ff2aa172a3f351332"), looks := false }, kinds := [], alts := [], laidByText := true, laidKinds := [.data, .data, .data, .data, .data, .pinned], laidTests := true, laidLooks := .later }
def ArchMovesUptoCardSaid : Prop := Claim7.holds Tryz.pinned (.plain (OpenSpec.upto archMovesSpec)) archMovesUptoCard

/-- THE SECOND FORM's CARD OF 'camshaftlaw13.ArchFinds'. -/
def archFindsUptoCard : Claim7 := { stood := { row := archFindsUptoRow, standIns := [], harness := (true, "bdf0031499485689a4f82bc0ccd4a116729a3e9a4ca1066ff2aa172a3f351332"), looks := false }, kinds := [], alts := [], laidByText := true, laidKinds := [.data, .data, .data, .data, .data, .pinned], laidTests := true, laidLooks := .later }
def ArchFindsUptoCardSaid : Prop := Claim7.holds Tryz.pinned (.plain (OpenSpec.upto archFindsSpec)) archFindsUptoCard

/-- THE SECOND FORM's CARD OF 'camshaftlaw13.ArchLevels'. -/
def archLevelsUptoCard : Claim7 := { stood := { row := archLevelsUptoRow, standIns := [], harness := (true, "bdf0031499485689a4f82bc0ccd4a116729a3e9a4ca1066ff2aa172a3f351332"), looks := false }, kinds := [], alts := [], laidByText := true, laidKinds := [.data, .data, .data, .data, .data, .pinned], laidTests := true, laidLooks := .later }
def ArchLevelsUptoCardSaid : Prop := Claim7.holds Tryz.pinned (.plain (OpenSpec.upto archLevelsSpec)) archLevelsUptoCard

/-- THE SECOND FORM's CARD OF 'camshaftlaw13.ArchApart'. -/
def archApartUptoCard : Claim7 := { stood := { row := archApartUptoRow, standIns := [], harness := (true, "bdf0031499485689a4f82bc0ccd4a116729a3e9a4ca1066ff2aa172a3f351332"), looks := false }, kinds := [], alts := [], laidByText := true, laidKinds := [.data, .data, .data, .data, .data, .pinned], laidTests := true, laidLooks := .later }
def ArchApartUptoCardSaid : Prop := Claim7.holds Tryz.pinned (.plain (OpenSpec.upto archApartSpec)) archApartUptoCard

/-- THE SECOND FORM's CARD OF 'camshaftlaw13.ArchPlain'. -/
def archPlainUptoCard : Claim7 := { stood := { row := archPlainUptoRow, standIns := [], harness := (true, "bdf0031499485689a4f82bc0ccd4a116729a3e9a4ca1066ff2aa172a3f351332"), looks := false }, kinds := [], alts := [], laidByText := true, laidKinds := [.data, .data, .data, .data, .data, .pinned], laidTests := true, laidLooks := .later }
def ArchPlainUptoCardSaid : Prop := Claim7.holds Tryz.pinned (.plain (OpenSpec.upto archPlainSpec)) archPlainUptoCard

/-- THE SECOND FORM's CARD OF 'camshaftlaw13.ArchInterrupts'. -/
def archInterruptsUptoCard : Claim7 := { stood := { row := archInterruptsUptoRow, standIns := [], harness := (true, "bdf0031499485689a4f82bc0ccd4a116729a3e9a4ca1066ff2aa172a3f351332"), looks := false }, kinds := [], alts := [], laidByText := true, laidKinds := [.data, .data, .data, .data, .data, .pinned], laidTests := true, laidLooks := .later }
def ArchInterruptsUptoCardSaid : Prop := Claim7.holds Tryz.pinned (.plain (OpenSpec.upto archInterruptsSpec)) archInterruptsUptoCard
end Rows
end Go.Proofs.YteohkobdmkbcpaaGreatDoor
