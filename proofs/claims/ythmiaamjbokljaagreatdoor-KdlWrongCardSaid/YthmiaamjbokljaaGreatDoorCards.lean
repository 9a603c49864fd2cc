/-
  DERIVED. GIVEN WITH THE SEED: THE CARDS: each row of YthmiaamjbokljaaGreatDoorRows.lean that lists a variable, with what it lists TIED to the program's text (the seventh form; the later family's looks); each row that meets fmt, with fmt's text TOLD by the authors' own Lean function (tested against real Go, not proved from fmt's source: count such statements apart). THE CARD IS WHAT COUNTS. Prove the row's statement (the work); the ties are given (YthmiaamjbokljaaGreatDoorTie.lean); close each card by the builder's one call (the guide's Derived/Test/ToyasCard.lean, 'card_holds'). Laid BY PROGRAM, IN A SANDBOX (cutbox-door.mjs). By AI agents, Wed Nov 11 2026. No macro, syntax, notation, axiom, sorry.
-/
import Derived.Test.YthmiaamjbokljaaGreatDoorRows
import GoSem.ClaimSeven
namespace Go.Proofs.YthmiaamjbokljaaGreatDoor
namespace Rows

/-- THE TIED CARD OF 'casementlaw08.KdlWrites'. -/
def kdlWritesCard : Claim7 := { stood := { row := kdlWritesRow, standIns := [], harness := (true, "a56fd2bda3534e2197bac92924e29072c95ec5998e6b092d1c7fdf8752b94204"), looks := true }, kinds := [], alts := [], laidByText := true, laidKinds := [.data, .data, .data, .sentinel, .sentinel], laidTests := true, laidLooks := .later }
def KdlWritesCardSaid : Prop := Claim7.holds Tryz.pinned (.plain (OpenSpec.ofChange kdlWritesSpec)) kdlWritesCard

/-- THE TIED CARD OF 'casementlaw08.KdlBack'. -/
def kdlBackCard : Claim7 := { stood := { row := kdlBackRow, standIns := [], harness := (true, "a56fd2bda3534e2197bac92924e29072c95ec5998e6b092d1c7fdf8752b94204"), looks := true }, kinds := [], alts := [], laidByText := true, laidKinds := [.data, .data, .data, .sentinel, .sentinel], laidTests := true, laidLooks := .later }
def KdlBackCardSaid : Prop := Claim7.holds Tryz.pinned (.plain (OpenSpec.ofChange kdlBackSpec)) kdlBackCard

/-- THE TIED CARD OF 'casementlaw08.KdlJoins'. -/
def kdlJoinsCard : Claim7 := { stood := { row := kdlJoinsRow, standIns := [], harness := (true, "a56fd2bda3534e2197bac92924e29072c95ec5998e6b092d1c7fdf8752b94204"), looks := true }, kinds := [], alts := [], laidByText := true, laidKinds := [.data, .data, .data, .sentinel, .sentinel], laidTests := true, laidLooks := .later }
def KdlJoinsCardSaid : Prop := Claim7.holds Tryz.pinned (.plain (OpenSpec.ofChange kdlJoinsSpec)) kdlJoinsCard

/-- THE TIED CARD OF 'casementlaw08.KdlWrong'. -/
def kdlWrongCard : Claim7 := { stood := { row := kdlWrongRow, standIns := [], harness := (true, "a56fd2bda3534e2197bac92924e29072c95ec5998e6b092d1c7fdf8752b94204"), looks := true }, kinds := [], alts := [], laidByText := true, laidKinds := [.data, .data, .data, .sentinel, .sentinel], laidTests := true, laidLooks := .later }
def KdlWrongCardSaid : Prop := Claim7.holds Tryz.pinned (.plain (OpenSpec.ofChange kdlWrongSpec)) kdlWrongCard

/-- THE TIED CARD OF 'casementlaw08.KdlVals'. -/
def kdlValsCard : Claim7 := { stood := { row := kdlValsRow, standIns := [], harness := (true, "a56fd2bda3534e2197bac92924e29072c95ec5998e6b092d1c7fdf8752b94204"), looks := true }, kinds := [], alts := [], laidByText := true, laidKinds := [.data, .data, .data, .sentinel, .sentinel], laidTests := true, laidLooks := .later }
def KdlValsCardSaid : Prop := Claim7.holds Tryz.pinned (.plain (OpenSpec.ofChange kdlValsSpec)) kdlValsCard

/-- THE SECOND FORM's CARD OF 'casementlaw08.KdlWrites'. -/
def kdlWritesUptoCard : Claim7 := { stood := { row := kdlWritesUptoRow, standIns := [], harness := (true, "a56fd2bda3534e2197bac92924e29072c95ec5998e6b092d1c7fdf8752b94204"), looks := true }, kinds := [], alts := [], laidByText := true, laidKinds := [.data, .data, .data, .sentinel, .sentinel], laidTests := true, laidLooks := .later }
def KdlWritesUptoCardSaid : Prop := Claim7.holds Tryz.pinned (.plain (OpenSpec.upto kdlWritesSpec)) kdlWritesUptoCard

/-- THE SECOND FORM's CARD OF 'casementlaw08.KdlBack'. -/
def kdlBackUptoCard : Claim7 := { stood := { row := kdlBackUptoRow, standIns := [], harness := (true, "a56fd2bda3534e2197bac92924e29072c95ec5998e6b092d1c7fdf8752b94204"), looks := true }, kinds := [], alts := [], laidByText := true, laidKinds := [.data, .data, .data, .sentinel, .sentinel], laidTests := true, laidLooks := .later }
def KdlBackUptoCardSaid : Prop := Claim7.holds Tryz.pinned (.plain (OpenSpec.upto kdlBackSpec)) kdlBackUptoCard

/-- THE SECOND FORM's CARD OF 'casementlaw08.KdlJoins'. -/
def kdlJoinsUptoCard : Claim7 := { stood := { row := kdlJoinsUptoRow, standIns := [], harness := (true, "a56fd2bda3534e2197bac92924e29072c95ec5998e6b092d1c7fdf8752b94204"), looks := true }, kinds := [], alts := [], laidByText := true, laidKinds := [.data, .data, .data, .sentinel, .sentinel], laidTests := true, laidLooks := .later }
def KdlJoinsUptoCardSaid : Prop := Claim7.holds Tryz.pinned (.plain (OpenSpec.upto kdlJoinsSpec)) kdlJoinsUptoCard

/-- THE SECOND FORM's CARD OF 'casementlaw08.KdlWrong'. -/
def kdlWrongUptoCard : Claim7 := { stood := { row := kdlWrongUptoRow, standIns := [], harness := (true, "a56fd2bda3534e2197bac92924e29072c95ec5998e6b092d1c7fdf8752b94204"), looks := true }, kinds := [], alts := [], laidByText := true, laidKinds := [.data, .data, .data, .sentinel, .sentinel], laidTests := true, laidLooks := .later }
def KdlWrongUptoCardSaid : Prop := Claim7.holds Tryz.pinned (.plain (OpenSpec.upto kdlWrongSpec)) kdlWrongUptoCard

/-- THE SECOND FORM's CARD OF 'casementlaw08.KdlVals'. -/
def kdlValsUptoCard : Claim7 := { stood := { row := kdlValsUptoRow, standIns := [], harness := (true, "a56fd2bda3534e2197bac92924e29072c95ec5998e6b092d1c7fdf8752b94204"), looks := true }, kinds := [], alts := [], laidByText := true, laidKinds := [.data, .data, .data, .sentinel, .sentinel], laidTests := true, laidLooks := .later }
def KdlValsUptoCardSaid : Prop := Claim7.holds Tryz.pinned (.plain (OpenSpec.upto kdlValsSpec)) kdlValsUptoCard
end Rows
end Go.Proofs.YthmiaamjbokljaaGreatDoor
