/-
  DERIVED. GIVEN WITH THE SEED: THE CARDS: each row of YtibpbnffennmeaaDoorRows.lean that lists a variable, with what it lists TIED to the program's text (the seventh form; the later family's looks); each row that meets fmt, with fmt's text TOLD by the authors' own Lean function (tested against real Go, not proved from fmt's source: count such statements apart). THE CARD IS WHAT COUNTS. Prove the row's statement (the work); the ties are given (YtibpbnffennmeaaDoorTie.lean); close each card by the builder's one call (the guide's Derived/Test/ToyasCard.lean, 'card_holds'). Laid BY PROGRAM, IN A SANDBOX (cutbox-door.mjs). By AI agents, Wed Nov 11 2026. No macro, syntax, notation, axiom, sorry.
-/
import Derived.Test.YtibpbnffennmeaaDoorRows
import GoSem.ClaimSeven
namespace Go.Proofs.YtibpbnffennmeaaDoor
namespace Rows

/-- THE TIED CARD OF 'casementlaw13.CheckPlays'. -/
def checkPlaysCard : Claim7 := { stood := { row := checkPlaysRow, standIns := [], harness := (true, "454668a2b261a69eb245105a18f7371f9ff5cac5816e4411b3367062d26295ef"), looks := false }, kinds := [], alts := [], laidByText := true, laidKinds := [.data], laidTests := true, laidLooks := .later }
def CheckPlaysCardSaid : Prop := Claim7.holds Tryd.pinned (.plain (OpenSpec.ofChange checkPlaysSpec)) checkPlaysCard

/-- THE TIED CARD OF 'casementlaw13.CheckEffects'. -/
def checkEffectsCard : Claim7 := { stood := { row := checkEffectsRow, standIns := [], harness := (true, "454668a2b261a69eb245105a18f7371f9ff5cac5816e4411b3367062d26295ef"), looks := false }, kinds := [], alts := [], laidByText := true, laidKinds := [.data], laidTests := true, laidLooks := .later }
def CheckEffectsCardSaid : Prop := Claim7.holds Tryd.pinned (.plain (OpenSpec.ofChange checkEffectsSpec)) checkEffectsCard

/-- THE TIED CARD OF 'casementlaw13.CheckSound'. -/
def checkSoundCard : Claim7 := { stood := { row := checkSoundRow, standIns := [], harness := (true, "454668a2b261a69eb245105a18f7371f9ff5cac5816e4411b3367062d26295ef"), looks := false }, kinds := [], alts := [], laidByText := true, laidKinds := [.data], laidTests := true, laidLooks := .later }
def CheckSoundCardSaid : Prop := Claim7.holds Tryd.pinned (.plain (OpenSpec.ofChange checkSoundSpec)) checkSoundCard

/-- THE TIED CARD OF 'casementlaw13.CheckDead'. -/
def checkDeadCard : Claim7 := { stood := { row := checkDeadRow, standIns := [], harness := (true, "454668a2b261a69eb245105a18f7371f9ff5cac5816e4411b3367062d26295ef"), looks := false }, kinds := [], alts := [], laidByText := true, laidKinds := [.data], laidTests := true, laidLooks := .later }
def CheckDeadCardSaid : Prop := Claim7.holds Tryd.pinned (.plain (OpenSpec.ofChange checkDeadSpec)) checkDeadCard

/-- THE TIED CARD OF 'casementlaw13.CheckOne'. -/
def checkOneCard : Claim7 := { stood := { row := checkOneRow, standIns := [], harness := (true, "454668a2b261a69eb245105a18f7371f9ff5cac5816e4411b3367062d26295ef"), looks := false }, kinds := [], alts := [], laidByText := true, laidKinds := [.data], laidTests := true, laidLooks := .later }
def CheckOneCardSaid : Prop := Claim7.holds Tryd.pinned (.plain (OpenSpec.ofChange checkOneSpec)) checkOneCard

/-- THE TIED CARD OF 'casementlaw14.VmParts'. -/
def vmPartsCard : Claim7 := { stood := { row := vmPartsRow, standIns := [], harness := (true, "454668a2b261a69eb245105a18f7371f9ff5cac5816e4411b3367062d26295ef"), looks := false }, kinds := [], alts := [], laidByText := true, laidKinds := [.data], laidTests := true, laidLooks := .later }
def VmPartsCardSaid : Prop := Claim7.holds Tryd.pinned (.plain (OpenSpec.ofChange vmPartsSpec)) vmPartsCard

/-- THE TIED CARD OF 'casementlaw14.VmEnds'. -/
def vmEndsCard : Claim7 := { stood := { row := vmEndsRow, standIns := [], harness := (true, "454668a2b261a69eb245105a18f7371f9ff5cac5816e4411b3367062d26295ef"), looks := false }, kinds := [], alts := [], laidByText := true, laidKinds := [.data], laidTests := true, laidLooks := .later }
def VmEndsCardSaid : Prop := Claim7.holds Tryd.pinned (.plain (OpenSpec.ofChange vmEndsSpec)) vmEndsCard

/-- THE TIED CARD OF 'casementlaw14.VmSums'. -/
def vmSumsCard : Claim7 := { stood := { row := vmSumsRow, standIns := [], harness := (true, "454668a2b261a69eb245105a18f7371f9ff5cac5816e4411b3367062d26295ef"), looks := false }, kinds := [], alts := [], laidByText := true, laidKinds := [.data], laidTests := true, laidLooks := .later }
def VmSumsCardSaid : Prop := Claim7.holds Tryd.pinned (.plain (OpenSpec.ofChange vmSumsSpec)) vmSumsCard

/-- THE TIED CARD OF 'casementlaw14.VmWorth'. -/
def vmWorthCard : Claim7 := { stood := { row := vmWorthRow, standIns := [], harness := (true, "454668a2b261a69eb245105a18f7371f9ff5cac5816e4411b3367062d26295ef"), looks := false }, kinds := [], alts := [], laidByText := true, laidKinds := [.data], laidTests := true, laidLooks := .later }
def VmWorthCardSaid : Prop := Claim7.holds Tryd.pinned (.plain (OpenSpec.ofChange vmWorthSpec)) vmWorthCard

/-- THE TIED CARD OF 'casementlaw14.VmBounds'. -/
def vmBoundsCard : Claim7 := { stood := { row := vmBoundsRow, standIns := [], harness := (true, "454668a2b261a69eb245105a18f7371f9ff5cac5816e4411b3367062d26295ef"), looks := false }, kinds := [], alts := [], laidByText := true, laidKinds := [.data], laidTests := true, laidLooks := .later }
def VmBoundsCardSaid : Prop := Claim7.holds Tryd.pinned (.plain (OpenSpec.ofChange vmBoundsSpec)) vmBoundsCard

/-- THE SECOND FORM's CARD OF 'casementlaw13.CheckPlays'. -/
def checkPlaysUptoCard : Claim7 := { stood := { row := checkPlaysUptoRow, standIns := [], harness := (true, "454668a2b261a69eb245105a18f7371f9ff5cac5816e4411b3367062d26295ef"), looks := false }, kinds := [], alts := [], laidByText := true, laidKinds := [.data], laidTests := true, laidLooks := .later }
def CheckPlaysUptoCardSaid : Prop := Claim7.holds Tryd.pinned (.plain (OpenSpec.upto checkPlaysSpec)) checkPlaysUptoCard

/-- THE SECOND FORM's CARD OF 'casementlaw13.CheckEffects'. -/
def checkEffectsUptoCard : Claim7 := { stood := { row := checkEffectsUptoRow, standIns := [], harness := (true, "454668a2b261a69eb245105a18f7371f9ff5cac5816e4411b3367062d26295ef"), looks := false }, kinds := [], alts := [], laidByText := true, laidKinds := [.data], laidTests := true, laidLooks := .later }
def CheckEffectsUptoCardSaid : Prop := Claim7.holds Tryd.pinned (.plain (OpenSpec.upto checkEffectsSpec)) checkEffectsUptoCard

/-- THE SECOND FORM's CARD OF 'casementlaw13.CheckSound'. -/
def checkSoundUptoCard : Claim7 := { stood := { row := checkSoundUptoRow, standIns := [], harness := (true, "454668a2b261a69eb245105a18f7371f9ff5cac5816e4411b3367062d26295ef"), looks := false }, kinds := [], alts := [], laidByText := true, laidKinds := [.data], laidTests := true, laidLooks := .later }
def CheckSoundUptoCardSaid : Prop := Claim7.holds Tryd.pinned (.plain (OpenSpec.upto checkSoundSpec)) checkSoundUptoCard

/-- THE SECOND FORM's CARD OF 'casementlaw13.CheckDead'. -/
def checkDeadUptoCard : Claim7 := { stood := { row := checkDeadUptoRow, standIns := [], harness := (true, "454668a2b261a69eb245105a18f7371f9ff5cac5816e4411b3367062d26295ef"), looks := false }, kinds := [], alts := [], laidByText := true, laidKinds := [.data], laidTests := true, laidLooks := .later }
def CheckDeadUptoCardSaid : Prop := Claim7.holds Tryd.pinned (.plain (OpenSpec.upto checkDeadSpec)) checkDeadUptoCard

/-- THE SECOND FORM's CARD OF 'casementlaw13.CheckOne'. -/
def checkOneUptoCard : Claim7 := { stood := { row := checkOneUptoRow, standIns := [], harness := (true, "454668a2b261a69eb245105a18f7371f9ff5cac5816e4411b3367062d26295ef"), looks := false }, kinds := [], alts := [], laidByText := true, laidKinds := [.data], laidTests := true, laidLooks := .later }
def CheckOneUptoCardSaid : Prop := Claim7.holds Tryd.pinned (.plain (OpenSpec.upto checkOneSpec)) checkOneUptoCard

/-- THE SECOND FORM's CARD OF 'casementlaw14.VmParts'. -/
def vmPartsUptoCard : Claim7 := { stood := { row := vmPartsUptoRow, standIns := [], harness := (true, "454668a2b261a69eb245105a18f7371f9ff5cac5816e4411b3367062d26295ef"), looks := false }, kinds := [], alts := [], laidByText := true, laidKinds := [.data], laidTests := true, laidLooks := .later }
def VmPartsUptoCardSaid : Prop := Claim7.holds Tryd.pinned (.plain (OpenSpec.upto vmPartsSpec)) vmPartsUptoCard

/-- THE SECOND FORM's CARD OF 'casementlaw14.VmEnds'. -/
def vmEndsUptoCard : Claim7 := { stood := { row := vmEndsUptoRow, standIns := [], harness := (true, "454668a2b261a69eb245105a18f7371f9ff5cac5816e4411b3367062d26295ef"), looks := false }, kinds := [], alts := [], laidByText := true, laidKinds := [.data], laidTests := true, laidLooks := .later }
def VmEndsUptoCardSaid : Prop := Claim7.holds Tryd.pinned (.plain (OpenSpec.upto vmEndsSpec)) vmEndsUptoCard

/-- THE SECOND FORM's CARD OF 'casementlaw14.VmSums'. -/
def vmSumsUptoCard : Claim7 := { stood := { row := vmSumsUptoRow, standIns := [], harness := (true, "454668a2b261a69eb245105a18f7371f9ff5cac5816e4411b3367062d26295ef"), looks := false }, kinds := [], alts := [], laidByText := true, laidKinds := [.data], laidTests := true, laidLooks := .later }
def VmSumsUptoCardSaid : Prop := Claim7.holds Tryd.pinned (.plain (OpenSpec.upto vmSumsSpec)) vmSumsUptoCard

/-- THE SECOND FORM's CARD OF 'casementlaw14.VmWorth'. -/
def vmWorthUptoCard : Claim7 := { stood := { row := vmWorthUptoRow, standIns := [], harness := (true, "454668a2b261a69eb245105a18f7371f9ff5cac5816e4411b3367062d26295ef"), looks := false }, kinds := [], alts := [], laidByText := true, laidKinds := [.data], laidTests := true, laidLooks := .later }
def VmWorthUptoCardSaid : Prop := Claim7.holds Tryd.pinned (.plain (OpenSpec.upto vmWorthSpec)) vmWorthUptoCard

/-- THE SECOND FORM's CARD OF 'casementlaw14.VmBounds'. -/
def vmBoundsUptoCard : Claim7 := { stood := { row := vmBoundsUptoRow, standIns := [], harness := (true, "454668a2b261a69eb245105a18f7371f9ff5cac5816e4411b3367062d26295ef"), looks := false }, kinds := [], alts := [], laidByText := true, laidKinds := [.data], laidTests := true, laidLooks := .later }
def VmBoundsUptoCardSaid : Prop := Claim7.holds Tryd.pinned (.plain (OpenSpec.upto vmBoundsSpec)) vmBoundsUptoCard
end Rows
end Go.Proofs.YtibpbnffennmeaaDoor
