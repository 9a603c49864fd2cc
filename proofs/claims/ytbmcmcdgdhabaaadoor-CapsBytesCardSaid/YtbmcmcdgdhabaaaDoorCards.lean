/-
  DERIVED. GIVEN WITH THE SEED: THE CARDS: each row of YtbmcmcdgdhabaaaDoorRows.lean that lists a variable, with what it lists TIED to the program's text (the seventh form; the later family's looks); each row that meets fmt, with fmt's text TOLD by the authors' own Lean function (tested against real Go, not proved from fmt's source: count such statements apart). THE CARD IS WHAT COUNTS. Prove the row's statement (the work); the ties are given (YtbmcmcdgdhabaaaDoorTie.lean); close each card by the builder's one call (the guide's Derived/Test/ToyasCard.lean, 'card_holds'). Laid BY PROGRAM, IN A SANDBOX (cutbox-door.mjs). By AI agents, Wed Nov 11 2026. No macro, syntax, notation, axiom, sorry.
-/
import Derived.Test.YtbmcmcdgdhabaaaDoorRows
import GoSem.ClaimSeven
namespace Go.Proofs.YtbmcmcdgdhabaaaDoor
namespace Rows

/-- THE TIED CARD OF 'casementlaw15.CapsKeeps'. -/
def capsKeepsCard : Claim7 := { stood := { row := capsKeepsRow, standIns := [], harness := (true, "25c1bc1ccfd00bdd86a7eb8d892162fe711a6d87ee016a9f0b951d6383c4dc3d"), looks := false }, kinds := [], alts := [], laidByText := true, laidKinds := [.data, .data, .data], laidTests := true, laidLooks := .later }
def CapsKeepsCardSaid : Prop := Claim7.holds Tryd.pinned (.plain (OpenSpec.ofChange capsKeepsSpec)) capsKeepsCard

/-- THE TIED CARD OF 'casementlaw15.CapsBytes'. -/
def capsBytesCard : Claim7 := { stood := { row := capsBytesRow, standIns := [], harness := (true, "25c1bc1ccfd00bdd86a7eb8d892162fe711a6d87ee016a9f0b951d6383c4dc3d"), looks := false }, kinds := [], alts := [], laidByText := true, laidKinds := [.data, .data, .data], laidTests := true, laidLooks := .later }
def CapsBytesCardSaid : Prop := Claim7.holds Tryd.pinned (.plain (OpenSpec.ofChange capsBytesSpec)) capsBytesCard

/-- THE TIED CARD OF 'casementlaw15.CapsStyles'. -/
def capsStylesCard : Claim7 := { stood := { row := capsStylesRow, standIns := [], harness := (true, "25c1bc1ccfd00bdd86a7eb8d892162fe711a6d87ee016a9f0b951d6383c4dc3d"), looks := false }, kinds := [], alts := [], laidByText := true, laidKinds := [.data, .data, .data], laidTests := true, laidLooks := .later }
def CapsStylesCardSaid : Prop := Claim7.holds Tryd.pinned (.plain (OpenSpec.ofChange capsStylesSpec)) capsStylesCard

/-- THE SECOND FORM's CARD OF 'casementlaw15.CapsKeeps'. -/
def capsKeepsUptoCard : Claim7 := { stood := { row := capsKeepsUptoRow, standIns := [], harness := (true, "25c1bc1ccfd00bdd86a7eb8d892162fe711a6d87ee016a9f0b951d6383c4dc3d"), looks := false }, kinds := [], alts := [], laidByText := true, laidKinds := [.data, .data, .data], laidTests := true, laidLooks := .later }
def CapsKeepsUptoCardSaid : Prop := Claim7.holds Tryd.pinned (.plain (OpenSpec.upto capsKeepsSpec)) capsKeepsUptoCard

/-- THE SECOND FORM's CARD OF 'casementlaw15.CapsBytes'. -/
def capsBytesUptoCard : Claim7 := { stood := { row := capsBytesUptoRow, standIns := [], harness := (true, "25c1bc1ccfd00bdd86a7eb8d892162fe711a6d87ee016a9f0b951d6383c4dc3d"), looks := false }, kinds := [], alts := [], laidByText := true, laidKinds := [.data, .data, .data], laidTests := true, laidLooks := .later }
def CapsBytesUptoCardSaid : Prop := Claim7.holds Tryd.pinned (.plain (OpenSpec.upto capsBytesSpec)) capsBytesUptoCard

/-- THE SECOND FORM's CARD OF 'casementlaw15.CapsStyles'. -/
def capsStylesUptoCard : Claim7 := { stood := { row := capsStylesUptoRow, standIns := [], harness := (true, "25c1bc1ccfd00bdd86a7eb8d892162fe711a6d87ee016a9f0b951d6383c4dc3d"), looks := false }, kinds := [], alts := [], laidByText := true, laidKinds := [.data, .data, .data], laidTests := true, laidLooks := .later }
def CapsStylesUptoCardSaid : Prop := Claim7.holds Tryd.pinned (.plain (OpenSpec.upto capsStylesSpec)) capsStylesUptoCard
end Rows
end Go.Proofs.YtbmcmcdgdhabaaaDoor
