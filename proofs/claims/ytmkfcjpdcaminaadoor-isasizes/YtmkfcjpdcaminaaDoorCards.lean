/-
  DERIVED. GIVEN WITH THE SEED: THE CARDS: each row of YtmkfcjpdcaminaaDoorRows.lean that lists a variable, with what it lists TIED to the program's text (the seventh form; the later family's looks); each row that meets fmt, with fmt's text TOLD by the authors' own Lean function (tested against real Go, not proved from fmt's source: count such statements apart). THE CARD IS WHAT COUNTS. Prove the row's statement (the work); the ties are given (YtmkfcjpdcaminaaDoorTie.lean); close each card by the builder's one call (the guide's Derived/Test/ToyasCard.lean, 'card_holds'). Laid BY PROGRAM, IN A SANDBOX (cutbox-door.mjs). By AI agents, Wed Nov 11 2026. No macro, syntax, notation, axiom, sorry.
-/
import Derived.Test.YtmkfcjpdcaminaaDoorRows
import GoSem.ClaimSeven
namespace Go.Proofs.YtmkfcjpdcaminaaDoor
namespace Rows

/-- THE TIED CARD OF 'camshaftlaw10.IsaOf'. -/
def isaOfCard : Claim7 := { stood := { row := isaOfRow, standIns := [], harness := (true, "b33a910ebab60a2fb05f1ff9cca66e73ee70cdbd3b012d3dc9acb46141055afb"), looks := false }, kinds := [], alts := [], laidByText := true, laidKinds := [.data, .data, .data, .data, .data, .pinned], laidTests := true, laidLooks := .later }
def IsaOfCardSaid : Prop := Claim7.holds Tryd.pinned (.plain (OpenSpec.ofChange isaOfSpec)) isaOfCard

/-- THE TIED CARD OF 'camshaftlaw10.IsaFinds'. -/
def isaFindsCard : Claim7 := { stood := { row := isaFindsRow, standIns := [], harness := (true, "b33a910ebab60a2fb05f1ff9cca66e73ee70cdbd3b012d3dc9acb46141055afb"), looks := false }, kinds := [], alts := [], laidByText := true, laidKinds := [.data, .data, .data, .data, .data, .pinned], laidTests := true, laidLooks := .later }
def IsaFindsCardSaid : Prop := Claim7.holds Tryd.pinned (.plain (OpenSpec.ofChange isaFindsSpec)) isaFindsCard

/-- THE TIED CARD OF 'camshaftlaw10.IsaNames'. -/
def isaNamesCard : Claim7 := { stood := { row := isaNamesRow, standIns := [], harness := (true, "b33a910ebab60a2fb05f1ff9cca66e73ee70cdbd3b012d3dc9acb46141055afb"), looks := false }, kinds := [], alts := [], laidByText := true, laidKinds := [.data, .data, .data, .data, .data, .pinned], laidTests := true, laidLooks := .later }
def IsaNamesCardSaid : Prop := Claim7.holds Tryd.pinned (.plain (OpenSpec.ofChange isaNamesSpec)) isaNamesCard

/-- THE TIED CARD OF 'camshaftlaw10.IsaOperands'. -/
def isaOperandsCard : Claim7 := { stood := { row := isaOperandsRow, standIns := [], harness := (true, "b33a910ebab60a2fb05f1ff9cca66e73ee70cdbd3b012d3dc9acb46141055afb"), looks := false }, kinds := [], alts := [], laidByText := true, laidKinds := [.data, .data, .data, .data, .data, .pinned], laidTests := true, laidLooks := .later }
def IsaOperandsCardSaid : Prop := Claim7.holds Tryd.pinned (.plain (OpenSpec.ofChange isaOperandsSpec)) isaOperandsCard

/-- THE TIED CARD OF 'camshaftlaw10.IsaSizes'. -/
def isaSizesCard : Claim7 := { stood := { row := isaSizesRow, standIns := [], harness := (true, "b33a910ebab60a2fb05f1ff9cca66e73ee70cdbd3b012d3dc9acb46141055afb"), looks := false }, kinds := [], alts := [], laidByText := true, laidKinds := [.data, .data, .data, .data, .data, .pinned], laidTests := true, laidLooks := .later }
def IsaSizesCardSaid : Prop := Claim7.holds Tryd.pinned (.plain (OpenSpec.ofChange isaSizesSpec)) isaSizesCard

/-- THE SECOND FORM's CARD OF 'camshaftlaw10.IsaOf'. -/
def isaOfUptoCard : Claim7 := { stood := { row := isaOfUptoRow, standIns := [], harness := (true, "b33a910ebab60a2fb05f1ff9cca66e73ee70cdbd3b012d3dc9acb46141055afb"), looks := false }, kinds := [], alts := [], laidByText := true, laidKinds := [.data, .data, .data, .data, .data, .pinned], laidTests := true, laidLooks := .later }
def IsaOfUptoCardSaid : Prop := Claim7.holds Tryd.pinned (.plain (OpenSpec.upto isaOfSpec)) isaOfUptoCard

/-- THE SECOND FORM's CARD OF 'camshaftlaw10.IsaFinds'. -/
def isaFindsUptoCard : Claim7 := { stood := { row := isaFindsUptoRow, standIns := [], harness := (true, "b33a910ebab60a2fb05f1ff9cca66e73ee70cdbd3b012d3dc9acb46141055afb"), looks := false }, kinds := [], alts := [], laidByText := true, laidKinds := [.data, .data, .data, .data, .data, .pinned], laidTests := true, laidLooks := .later }
def IsaFindsUptoCardSaid : Prop := Claim7.holds Tryd.pinned (.plain (OpenSpec.upto isaFindsSpec)) isaFindsUptoCard

/-- THE SECOND FORM's CARD OF 'camshaftlaw10.IsaNames'. -/
def isaNamesUptoCard : Claim7 := { stood := { row := isaNamesUptoRow, standIns := [], harness := (true, "b33a910ebab60a2fb05f1ff9cca66e73ee70cdbd3b012d3dc9acb46141055afb"), looks := false }, kinds := [], alts := [], laidByText := true, laidKinds := [.data, .data, .data, .data, .data, .pinned], laidTests := true, laidLooks := .later }
def IsaNamesUptoCardSaid : Prop := Claim7.holds Tryd.pinned (.plain (OpenSpec.upto isaNamesSpec)) isaNamesUptoCard

/-- THE SECOND FORM's CARD OF 'camshaftlaw10.IsaOperands'. -/
def isaOperandsUptoCard : Claim7 := { stood := { row := isaOperandsUptoRow, standIns := [], harness := (true, "b33a910ebab60a2fb05f1ff9cca66e73ee70cdbd3b012d3dc9acb46141055afb"), looks := false }, kinds := [], alts := [], laidByText := true, laidKinds := [.data, .data, .data, .data, .data, .pinned], laidTests := true, laidLooks := .later }
def IsaOperandsUptoCardSaid : Prop := Claim7.holds Tryd.pinned (.plain (OpenSpec.upto isaOperandsSpec)) isaOperandsUptoCard

/-- THE SECOND FORM's CARD OF 'camshaftlaw10.IsaSizes'. -/
def isaSizesUptoCard : Claim7 := { stood := { row := isaSizesUptoRow, standIns := [], harness := (true, "b33a910ebab60a2fb05f1ff9cca66e73ee70cdbd3b012d3dc9acb46141055afb"), looks := false }, kinds := [], alts := [], laidByText := true, laidKinds := [.data, .data, .data, .data, .data, .pinned], laidTests := true, laidLooks := .later }
def IsaSizesUptoCardSaid : Prop := Claim7.holds Tryd.pinned (.plain (OpenSpec.upto isaSizesSpec)) isaSizesUptoCard
end Rows
end Go.Proofs.YtmkfcjpdcaminaaDoor
