/-
  DERIVED. GIVEN WITH THE SEED: THE CARDS: each row of YtgkodjkhhmcnnaaDoorRows.lean that lists a variable, with what it lists TIED to the program's text (the seventh form; the later family's looks); each row that meets fmt, with fmt's text TOLD by the authors' own Lean function (tested against real Go, not proved from fmt's source: count such statements apart). THE CARD IS WHAT COUNTS. Prove the row's statement (the work); the ties are given (YtgkodjkhhmcnnaaDoorTie.lean); close each card by the builder's one call (the guide's Derived/Test/ToyasCard.lean, 'card_holds'). Laid BY PROGRAM, IN A SANDBOX (cutbox-door.mjs). By AI agents, Wed Nov 11 2026. No macro, syntax, notation, axiom, sorry.
-/
import Derived.Test.YtgkodjkhhmcnnaaDoorRows
import GoSem.ClaimSeven
namespace Go.Proofs.YtgkodjkhhmcnnaaDoor
namespace Rows

/-- THE TIED CARD OF 'casementlaw04.EscPlays'. -/
def escPlaysCard : Claim7 := { stood := { row := escPlaysRow, standIns := [], harness := (true, "4a804b01698aac3fd784981c1e510760a31da005ec0cb9f42b5480f9588c69bd"), looks := false }, kinds := [], alts := [], laidByText := true, laidKinds := [.data, .data, .data, .data, .pinned], laidTests := true, laidLooks := .later }
def EscPlaysCardSaid : Prop := Claim7.holds Tryd.pinned (.plain (OpenSpec.ofChange escPlaysSpec)) escPlaysCard

/-- THE TIED CARD OF 'casementlaw05.SgrBetween'. -/
def sgrBetweenCard : Claim7 := { stood := { row := sgrBetweenRow, standIns := [], harness := (true, "4a804b01698aac3fd784981c1e510760a31da005ec0cb9f42b5480f9588c69bd"), looks := false }, kinds := [], alts := [], laidByText := true, laidKinds := [.data, .data, .data, .data, .data, .data, .pinned], laidTests := true, laidLooks := .later }
def SgrBetweenCardSaid : Prop := Claim7.holds Tryd.pinned (.plain (OpenSpec.ofChange sgrBetweenSpec)) sgrBetweenCard

/-- THE SECOND FORM's CARD OF 'casementlaw04.EscPlays'. -/
def escPlaysUptoCard : Claim7 := { stood := { row := escPlaysUptoRow, standIns := [], harness := (true, "4a804b01698aac3fd784981c1e510760a31da005ec0cb9f42b5480f9588c69bd"), looks := false }, kinds := [], alts := [], laidByText := true, laidKinds := [.data, .data, .data, .data, .pinned], laidTests := true, laidLooks := .later }
def EscPlaysUptoCardSaid : Prop := Claim7.holds Tryd.pinned (.plain (OpenSpec.upto escPlaysSpec)) escPlaysUptoCard

/-- THE SECOND FORM's CARD OF 'casementlaw05.SgrBetween'. -/
def sgrBetweenUptoCard : Claim7 := { stood := { row := sgrBetweenUptoRow, standIns := [], harness := (true, "4a804b01698aac3fd784981c1e510760a31da005ec0cb9f42b5480f9588c69bd"), looks := false }, kinds := [], alts := [], laidByText := true, laidKinds := [.data, .data, .data, .data, .data, .data, .pinned], laidTests := true, laidLooks := .later }
def SgrBetweenUptoCardSaid : Prop := Claim7.holds Tryd.pinned (.plain (OpenSpec.upto sgrBetweenSpec)) sgrBetweenUptoCard
end Rows
end Go.Proofs.YtgkodjkhhmcnnaaDoor
