/-
  DERIVED. GIVEN WITH THE SEED: THE CARDS: each row of YtoknolljfeaapaaDoorRows.lean that lists a variable, with what it lists TIED to the program's text (the seventh form; the later family's looks); each row that meets fmt, with fmt's text TOLD by the authors' own Lean function (tested against real Go, not proved from fmt's source: count such statements apart). THE CARD IS WHAT COUNTS. Prove the row's statement (the work); the ties are given (YtoknolljfeaapaaDoorTie.lean); close each card by the builder's one call (the guide's Derived/Test/ToyasCard.lean, 'card_holds'). Laid BY PROGRAM, IN A SANDBOX (cutbox-door.mjs). By AI agents, Wed Nov 11 2026. No macro, syntax, notation, axiom, sorry.
-/
import Derived.Test.YtoknolljfeaapaaDoorRows
import GoSem.ClaimSeven
namespace Go.Proofs.YtoknolljfeaapaaDoor
namespace Rows

/-- THE TIED CARD OF 'casementlaw13.CheckPlays'. -/
def checkPlaysCard : Claim7 := { stood := { row := checkPlaysRow, standIns := [], harness := (true, "7ea032b0127652bc4bda0e0af6ad70da29100e0a8e52822e58adc592ec7c0eba"), looks := false }, kinds := [], alts := [], laidByText := true, laidKinds := [.data], laidTests := true, laidLooks := .later }
def CheckPlaysCardSaid : Prop := Claim7.holds Tryd.pinned (.plain (OpenSpec.ofChange checkPlaysSpec)) checkPlaysCard

/-- THE TIED CARD OF 'casementlaw14.VmParts'. -/
def vmPartsCard : Claim7 := { stood := { row := vmPartsRow, standIns := [], harness := (true, "7ea032b0127652bc4bda0e0af6ad70da29100e0a8e52822e58adc592ec7c0eba"), looks := false }, kinds := [], alts := [], laidByText := true, laidKinds := [.data], laidTests := true, laidLooks := .later }
def VmPartsCardSaid : Prop := Claim7.holds Tryd.pinned (.plain (OpenSpec.ofChange vmPartsSpec)) vmPartsCard

/-- THE TIED CARD OF 'casementlaw14.VmEnds'. -/
def vmEndsCard : Claim7 := { stood := { row := vmEndsRow, standIns := [], harness := (true, "7ea032b0127652bc4bda0e0af6ad70da29100e0a8e52822e58adc592ec7c0eba"), looks := false }, kinds := [], alts := [], laidByText := true, laidKinds := [.data], laidTests := true, laidLooks := .later }
def VmEndsCardSaid : Prop := Claim7.holds Tryd.pinned (.plain (OpenSpec.ofChange vmEndsSpec)) vmEndsCard

/-- THE TIED CARD OF 'casementlaw14.VmSums'. -/
def vmSumsCard : Claim7 := { stood := { row := vmSumsRow, standIns := [], harness := (true, "7ea032b0127652bc4bda0e0af6ad70da29100e0a8e52822e58adc592ec7c0eba"), looks := false }, kinds := [], alts := [], laidByText := true, laidKinds := [.data], laidTests := true, laidLooks := .later }
def VmSumsCardSaid : Prop := Claim7.holds Tryd.pinned (.plain (OpenSpec.ofChange vmSumsSpec)) vmSumsCard

/-- THE TIED CARD OF 'casementlaw14.VmWorth'. -/
def vmWorthCard : Claim7 := { stood := { row := vmWorthRow, standIns := [], harness := (true, "7ea032b0127652bc4bda0e0af6ad70da29100e0a8e52822e58adc592ec7c0eba"), looks := false }, kinds := [], alts := [], laidByText := true, laidKinds := [.data], laidTests := true, laidLooks := .later }
def VmWorthCardSaid : Prop := Claim7.holds Tryd.pinned (.plain (OpenSpec.ofChange vmWorthSpec)) vmWorthCard

/-- THE TIED CARD OF 'casementlaw14.VmBounds'. -/
def vmBoundsCard : Claim7 := { stood := { row := vmBoundsRow, standIns := [], harness := (true, "7ea032b0127652bc4bda0e0af6ad70da29100e0a8e52822e58adc592ec7c0eba"), looks := false }, kinds := [], alts := [], laidByText := true, laidKinds := [.data], laidTests := true, laidLooks := .later }
def VmBoundsCardSaid : Prop := Claim7.holds Tryd.pinned (.plain (OpenSpec.ofChange vmBoundsSpec)) vmBoundsCard

/-- THE SECOND FORM's CARD OF 'casementlaw13.CheckPlays'. -/
def checkPlaysUptoCard : Claim7 := { stood := { row := checkPlaysUptoRow, standIns := [], harness := (true, "7ea032b0127652bc4bda0e0af6ad70da29100e0a8e52822e58adc592ec7c0eba"), looks := false }, kinds := [], alts := [], laidByText := true, laidKinds := [.data], laidTests := true, laidLooks := .later }
def CheckPlaysUptoCardSaid : Prop := Claim7.holds Tryd.pinned (.plain (OpenSpec.upto checkPlaysSpec)) checkPlaysUptoCard

/-- THE SECOND FORM's CARD OF 'casementlaw14.VmParts'. -/
def vmPartsUptoCard : Claim7 := { stood := { row := vmPartsUptoRow, standIns := [], harness := (true, "7ea032b0127652bc4bda0e0af6ad70da29100e0a8e52822e58adc592ec7c0eba"), looks := false }, kinds := [], alts := [], laidByText := true, laidKinds := [.data], laidTests := true, laidLooks := .later }
def VmPartsUptoCardSaid : Prop := Claim7.holds Tryd.pinned (.plain (OpenSpec.upto vmPartsSpec)) vmPartsUptoCard

/-- THE SECOND FORM's CARD OF 'casementlaw14.VmEnds'. -/
def vmEndsUptoCard : Claim7 := { stood := { row := vmEndsUptoRow, standIns := [], harness := (true, "7ea032b0127652bc4bda0e0af6ad70da29100e0a8e52822e58adc592ec7c0eba"), looks := false }, kinds := [], alts := [], laidByText := true, laidKinds := [.data], laidTests := true, laidLooks := .later }
def VmEndsUptoCardSaid : Prop := Claim7.holds Tryd.pinned (.plain (OpenSpec.upto vmEndsSpec)) vmEndsUptoCard

/-- THE SECOND FORM's CARD OF 'casementlaw14.VmSums'. -/
def vmSumsUptoCard : Claim7 := { stood := { row := vmSumsUptoRow, standIns := [], harness := (true, "7ea032b0127652bc4bda0e0af6ad70da29100e0a8e52822e58adc592ec7c0eba"), looks := false }, kinds := [], alts := [], laidByText := true, laidKinds := [.data], laidTests := true, laidLooks := .later }
def VmSumsUptoCardSaid : Prop := Claim7.holds Tryd.pinned (.plain (OpenSpec.upto vmSumsSpec)) vmSumsUptoCard

/-- THE SECOND FORM's CARD OF 'casementlaw14.VmWorth'. -/
def vmWorthUptoCard : Claim7 := { stood := { row := vmWorthUptoRow, standIns := [], harness := (true, "7ea032b0127652bc4bda0e0af6ad70da29100e0a8e52822e58adc592ec7c0eba"), looks := false }, kinds := [], alts := [], laidByText := true, laidKinds := [.data], laidTests := true, laidLooks := .later }
def VmWorthUptoCardSaid : Prop := Claim7.holds Tryd.pinned (.plain (OpenSpec.upto vmWorthSpec)) vmWorthUptoCard

/-- THE SECOND FORM's CARD OF 'casementlaw14.VmBounds'. -/
def vmBoundsUptoCard : Claim7 := { stood := { row := vmBoundsUptoRow, standIns := [], harness := (true, "7ea032b0127652bc4bda0e0af6ad70da29100e0a8e52822e58adc592ec7c0eba"), looks := false }, kinds := [], alts := [], laidByText := true, laidKinds := [.data], laidTests := true, laidLooks := .later }
def VmBoundsUptoCardSaid : Prop := Claim7.holds Tryd.pinned (.plain (OpenSpec.upto vmBoundsSpec)) vmBoundsUptoCard
end Rows
end Go.Proofs.YtoknolljfeaapaaDoor
