/-
  NARROWER THAN 'FOR EVERY INPUT', by the rows' own cells (each row's printed sentence says how): CapsKeeps: laid · CapsBytes: laid · CapsStyles: laid.
  DERIVED. THE GIVEN ROWS OF THIS SEAT. 3 by the template 'for every input the law returns true; each argument reads behind the call as it read before'; 0 by the template 'total and deterministic' (their statements: YtbmcmcdgdhabaaaDoorTotals.lean).
  GIVEN WITH THE SEED: the statements are not yours to turn. If you find one false, say at which input.
  Laid BY PROGRAM, IN A SANDBOX (cutbox-rows.mjs): the forced cells as the released guide's own fill.sh prints them over the translation e5c884e372bb83de… (all of the seat's roots in one cut). By AI agents, Wed Nov 11 2026. No macro, syntax, notation, axiom, sorry.
-/
import Derived.Test.YtbmcmcdgdhabaaaDoorChecked
import GoSem.Claim
import GoSem.ClaimJoined
import GoSem.ClaimMapViews
import Derived.JoinedTies
import Derived.KernelRfl
namespace Go.Proofs.YtbmcmcdgdhabaaaDoor
/- THE CELL 'sum', in the pinned program and in every row, IS THE sha256 OF THE DUMP (.gsa) THAT YtbmcmcdgdhabaaaDoorProg.lean LOADS. Nothing in Lean hashes anything: it is a label: what it is worth is what the hold of that sum in a sandbox is worth. -/
noncomputable def Tryd.pinned : Pinned := { name := "ytbmcmcdgdhabaaadoor", sum := "e5c884e372bb83de1910d6ddecf3fd302ce9e80920e0e3e5fe999d7823081327", checked := Tryd.checked }
namespace Rows
def none {H : Type} : Left H := { results := [], args := [] }

/- WHAT THE LISTED PACKAGE-LEVEL VARIABLES READ AS WHEN THE CALL BEGINS. Each datum BY PROGRAM (the guide's laid-datum.mjs) off the statement by which the dump's own 'gosem.cut.vars' lays the variable. In a bare row this is a premise. The card (YtbmcmcdgdhabaaaDoorCards.lean) ties it to the program's text. -/
def laid_casement_check_hostTakes {H : Type} : DataW H := .agg [.lit (.int .i64 3), .lit (.int .i64 3), .lit (.int .i64 0), .lit (.int .i64 1), .lit (.int .i64 1), .lit (.int .i64 3), .lit (.int .i64 1), .lit (.int .i64 0), .lit (.int .i64 1), .lit (.int .i64 3), .lit (.int .i64 0), .lit (.int .i64 2)]
def laid_casement_caps_needs {H : Type} : DataW H := .agg [.lit (.int .i64 1), .lit (.int .i64 1), .lit (.int .i64 1), .lit (.int .i64 2), .lit (.int .i64 2), .lit (.int .i64 4), .lit (.int .i64 8), .lit (.int .i64 16), .lit (.int .i64 16), .lit (.int .i64 32), .lit (.int .i64 0), .lit (.int .i64 0)]
def laid_casement_caps_names {H : Type} : DataW H := .agg [.lit (.string [100, 114, 97, 119]), .lit (.string [119, 97, 116, 99, 104]), .lit (.string [116, 121, 112, 101]), .lit (.string [102, 111, 99, 117, 115]), .lit (.string [111, 112, 101, 110]), .lit (.string [108, 111, 111, 107])]

/-- 'casementlaw15.CapsKeeps': WHATEVER THE INPUT: true; the input reads as it did. -/
def capsKeepsSpec : ChangeSpec := { name := "capsKeeps", fn := fun _ => fun
  | [d1, d2, d3, d4, d5, d6] => { results := [.lit (.bool true)], args := [d1, d2, d3, d4, d5, d6] }
  | _ => none }
def capsKeepsRow : OpenClaim := { program := "ytbmcmcdgdhabaaadoor", sum := "e5c884e372bb83de1910d6ddecf3fd302ce9e80920e0e3e5fe999d7823081327", func := "casement/casementlaw15.CapsKeeps", spec := "capsKeeps", unfollowed := true, recurses := true, named := ["casement/check.hostTakes", "casement/caps.needs", "casement/caps.names"], apart := false, laid := [("casement/check.hostTakes", laid_casement_check_hostTakes), ("casement/caps.needs", laid_casement_caps_needs), ("casement/caps.names", laid_casement_caps_names)] }
def CapsKeepsSaid : Prop := capsKeepsRow.holds Tryd.pinned (OpenSpec.ofChange capsKeepsSpec)

/-- ITS FALSE NEIGHBOUR: 'it returns false'. Refute it at one input. -/
def capsKeepsWrong : ChangeSpec := { name := "capsKeeps", fn := fun _ => fun
  | [d1, d2, d3, d4, d5, d6] => { results := [.lit (.bool false)], args := [d1, d2, d3, d4, d5, d6] }
  | _ => none }
def CapsKeepsWrongFalsely : Prop := capsKeepsRow.holds Tryd.pinned (OpenSpec.ofChange capsKeepsWrong)

/-- 'casementlaw15.CapsBytes': WHATEVER THE INPUT: true; the input reads as it did. -/
def capsBytesSpec : ChangeSpec := { name := "capsBytes", fn := fun _ => fun
  | [d1, d2, d3] => { results := [.lit (.bool true)], args := [d1, d2, d3] }
  | _ => none }
def capsBytesRow : OpenClaim := { program := "ytbmcmcdgdhabaaadoor", sum := "e5c884e372bb83de1910d6ddecf3fd302ce9e80920e0e3e5fe999d7823081327", func := "casement/casementlaw15.CapsBytes", spec := "capsBytes", unfollowed := true, recurses := true, named := ["casement/check.hostTakes", "casement/caps.needs", "casement/caps.names"], apart := false, laid := [("casement/check.hostTakes", laid_casement_check_hostTakes), ("casement/caps.needs", laid_casement_caps_needs), ("casement/caps.names", laid_casement_caps_names)] }
def CapsBytesSaid : Prop := capsBytesRow.holds Tryd.pinned (OpenSpec.ofChange capsBytesSpec)

/-- ITS FALSE NEIGHBOUR: 'it returns false'. Refute it at one input. -/
def capsBytesWrong : ChangeSpec := { name := "capsBytes", fn := fun _ => fun
  | [d1, d2, d3] => { results := [.lit (.bool false)], args := [d1, d2, d3] }
  | _ => none }
def CapsBytesWrongFalsely : Prop := capsBytesRow.holds Tryd.pinned (OpenSpec.ofChange capsBytesWrong)

/-- 'casementlaw15.CapsStyles': WHATEVER THE INPUT: true; the input reads as it did. -/
def capsStylesSpec : ChangeSpec := { name := "capsStyles", fn := fun _ => fun
  | [d1, d2, d3, d4] => { results := [.lit (.bool true)], args := [d1, d2, d3, d4] }
  | _ => none }
def capsStylesRow : OpenClaim := { program := "ytbmcmcdgdhabaaadoor", sum := "e5c884e372bb83de1910d6ddecf3fd302ce9e80920e0e3e5fe999d7823081327", func := "casement/casementlaw15.CapsStyles", spec := "capsStyles", unfollowed := true, recurses := true, named := ["casement/check.hostTakes", "casement/caps.needs", "casement/caps.names"], apart := false, laid := [("casement/check.hostTakes", laid_casement_check_hostTakes), ("casement/caps.needs", laid_casement_caps_needs), ("casement/caps.names", laid_casement_caps_names)] }
def CapsStylesSaid : Prop := capsStylesRow.holds Tryd.pinned (OpenSpec.ofChange capsStylesSpec)

/-- ITS FALSE NEIGHBOUR: 'it returns false'. Refute it at one input. -/
def capsStylesWrong : ChangeSpec := { name := "capsStyles", fn := fun _ => fun
  | [d1, d2, d3, d4] => { results := [.lit (.bool false)], args := [d1, d2, d3, d4] }
  | _ => none }
def CapsStylesWrongFalsely : Prop := capsStylesRow.holds Tryd.pinned (OpenSpec.ofChange capsStylesWrong)

/- THE SECOND FORM. 'bulk': how many values and letters a reading holds, each counted each time it is reached (what is shared counts as often as it is met; a slice's spare places count too). A statement '..UptoSaid' is the law's where the arguments, and the package variables that the reading takes, are together of bulk at most 1048576: NARROWER than '..Said'. Prove '..Said' where nothing that the law and all that it calls make is longer than what came in: it says more and counts as full. Else prove '..UptoSaid'. A law counts once. -/
mutual
def uptoBulk {H : Type} : DataW H → Nat
  | .lit (.string bytes) => bytes.length + 1
  | .lit _ => 1
  | .nil => 1
  | .ptr d => uptoBulk d + 1
  | .slice elems spare => uptoBulkAll elems + uptoBulkAll spare + 1
  | .agg parts => uptoBulkAll parts + 1
  | .iface _ d => uptoBulk d + 1
  | .map entries => uptoBulkEntries entries + 1
  | .held _ => 1
def uptoBulkAll {H : Type} : List (DataW H) → Nat
  | [] => 0
  | d :: r => uptoBulk d + uptoBulkAll r
def uptoBulkEntries {H : Type} : List (Lit × DataW H) → Nat
  | [] => 0
  | x :: r => uptoBulkEntry x + uptoBulkEntries r
def uptoBulkEntry {H : Type} : Lit × DataW H → Nat
  | (.string bytes, d) => bytes.length + uptoBulk d + 1
  | (_, d) => uptoBulk d + 1
 end
def uptoSmall : (H : Type) → List (DataW H) → Bool := fun _ ds => decide (uptoBulkAll ds ≤ 1048576)
def OpenSpec.upto (s : _root_.Go.ChangeSpec) : _root_.Go.OpenSpec := { _root_.Go.OpenSpec.ofChange s with cond := some uptoSmall }

/-- 'casementlaw15.CapsKeeps', WHERE WHAT IT READS IS OF BULK AT MOST 1048576: true; the input reads as it did. -/
def capsKeepsUptoRow : OpenClaim := { program := "ytbmcmcdgdhabaaadoor", sum := "e5c884e372bb83de1910d6ddecf3fd302ce9e80920e0e3e5fe999d7823081327", func := "casement/casementlaw15.CapsKeeps", spec := "capsKeeps", unfollowed := true, recurses := true, named := ["casement/check.hostTakes", "casement/caps.needs", "casement/caps.names"], apart := false, laid := [("casement/check.hostTakes", laid_casement_check_hostTakes), ("casement/caps.needs", laid_casement_caps_needs), ("casement/caps.names", laid_casement_caps_names)], narrowed := true }
def CapsKeepsUptoSaid : Prop := capsKeepsUptoRow.holds Tryd.pinned (OpenSpec.upto capsKeepsSpec)

/-- 'casementlaw15.CapsBytes', WHERE WHAT IT READS IS OF BULK AT MOST 1048576: true; the input reads as it did. -/
def capsBytesUptoRow : OpenClaim := { program := "ytbmcmcdgdhabaaadoor", sum := "e5c884e372bb83de1910d6ddecf3fd302ce9e80920e0e3e5fe999d7823081327", func := "casement/casementlaw15.CapsBytes", spec := "capsBytes", unfollowed := true, recurses := true, named := ["casement/check.hostTakes", "casement/caps.needs", "casement/caps.names"], apart := false, laid := [("casement/check.hostTakes", laid_casement_check_hostTakes), ("casement/caps.needs", laid_casement_caps_needs), ("casement/caps.names", laid_casement_caps_names)], narrowed := true }
def CapsBytesUptoSaid : Prop := capsBytesUptoRow.holds Tryd.pinned (OpenSpec.upto capsBytesSpec)

/-- 'casementlaw15.CapsStyles', WHERE WHAT IT READS IS OF BULK AT MOST 1048576: true; the input reads as it did. -/
def capsStylesUptoRow : OpenClaim := { program := "ytbmcmcdgdhabaaadoor", sum := "e5c884e372bb83de1910d6ddecf3fd302ce9e80920e0e3e5fe999d7823081327", func := "casement/casementlaw15.CapsStyles", spec := "capsStyles", unfollowed := true, recurses := true, named := ["casement/check.hostTakes", "casement/caps.needs", "casement/caps.names"], apart := false, laid := [("casement/check.hostTakes", laid_casement_check_hostTakes), ("casement/caps.needs", laid_casement_caps_needs), ("casement/caps.names", laid_casement_caps_names)], narrowed := true }
def CapsStylesUptoSaid : Prop := capsStylesUptoRow.holds Tryd.pinned (OpenSpec.upto capsStylesSpec)

end Rows
end Go.Proofs.YtbmcmcdgdhabaaaDoor
