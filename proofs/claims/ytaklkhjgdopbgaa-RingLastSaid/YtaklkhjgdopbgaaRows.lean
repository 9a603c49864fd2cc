/-
  No cell of these rows narrows 'for every input' (looked for: loops, veiled, ifaces, maps, wideKeys, modest, calm, conditions, laid).
  DERIVED. THE GIVEN ROWS OF THIS SEAT. 5 by the template 'for every input the law returns true; each argument reads behind the call as it read before'; 0 by the template 'total and deterministic' (their statements: YtaklkhjgdopbgaaTotals.lean).
  GIVEN WITH THE SEED: the statements are not yours to turn. If you find one false, say at which input.
  Laid BY PROGRAM, IN A SANDBOX (cutbox-rows.mjs): the forced cells as the released guide's own fill.sh prints them over the translation 1e883bceedd4bb9e… (all of the seat's roots in one cut). By AI agents, Wed Nov 11 2026. No macro, syntax, notation, axiom, sorry.
-/
import Derived.Test.YtaklkhjgdopbgaaChecked
import GoSem.Claim
import GoSem.ClaimJoined
import GoSem.ClaimMapViews
import Derived.JoinedTies
import Derived.KernelRfl
namespace Go.Proofs.Ytaklkhjgdopbgaa
/- THE CELL 'sum', in the pinned program and in every row, IS THE sha256 OF THE DUMP (.gsa) THAT YtaklkhjgdopbgaaProg.lean LOADS. Nothing in Lean hashes anything: it is a label: what it is worth is what the hold of that sum in a sandbox is worth. -/
noncomputable def Try.pinned : Pinned := { name := "ytaklkhjgdopbgaa", sum := "1e883bceedd4bb9e7ac4a4678115e048f7e2dfe71d36d05604b5dc012094d52c", checked := Try.checked }
namespace Rows
def none {H : Type} : Left H := { results := [], args := [] }

/-- 'casementlaw03.RingPlays': WHATEVER THE INPUT: true; the input reads as it did. -/
def ringPlaysSpec : ChangeSpec := { name := "ringPlays", fn := fun _ => fun
  | [d1, d2] => { results := [.lit (.bool true)], args := [d1, d2] }
  | _ => none }
def ringPlaysRow : OpenClaim := { program := "ytaklkhjgdopbgaa", sum := "1e883bceedd4bb9e7ac4a4678115e048f7e2dfe71d36d05604b5dc012094d52c", func := "casement/casementlaw03.RingPlays", spec := "ringPlays", apart := false }
def RingPlaysSaid : Prop := ringPlaysRow.holds Try.pinned (OpenSpec.ofChange ringPlaysSpec)

/-- ITS FALSE NEIGHBOUR: 'it returns false'. Refute it at one input. -/
def ringPlaysWrong : ChangeSpec := { name := "ringPlays", fn := fun _ => fun
  | [d1, d2] => { results := [.lit (.bool false)], args := [d1, d2] }
  | _ => none }
def RingPlaysWrongFalsely : Prop := ringPlaysRow.holds Try.pinned (OpenSpec.ofChange ringPlaysWrong)

/-- 'casementlaw03.RingLast': WHATEVER THE INPUT: true; the input reads as it did. -/
def ringLastSpec : ChangeSpec := { name := "ringLast", fn := fun _ => fun
  | [d1, d2] => { results := [.lit (.bool true)], args := [d1, d2] }
  | _ => none }
def ringLastRow : OpenClaim := { program := "ytaklkhjgdopbgaa", sum := "1e883bceedd4bb9e7ac4a4678115e048f7e2dfe71d36d05604b5dc012094d52c", func := "casement/casementlaw03.RingLast", spec := "ringLast", apart := false }
def RingLastSaid : Prop := ringLastRow.holds Try.pinned (OpenSpec.ofChange ringLastSpec)

/-- ITS FALSE NEIGHBOUR: 'it returns false'. Refute it at one input. -/
def ringLastWrong : ChangeSpec := { name := "ringLast", fn := fun _ => fun
  | [d1, d2] => { results := [.lit (.bool false)], args := [d1, d2] }
  | _ => none }
def RingLastWrongFalsely : Prop := ringLastRow.holds Try.pinned (OpenSpec.ofChange ringLastWrong)

/-- 'casementlaw03.RingStack': WHATEVER THE INPUT: true; the input reads as it did. -/
def ringStackSpec : ChangeSpec := { name := "ringStack", fn := fun _ => fun
  | [d1, d2] => { results := [.lit (.bool true)], args := [d1, d2] }
  | _ => none }
def ringStackRow : OpenClaim := { program := "ytaklkhjgdopbgaa", sum := "1e883bceedd4bb9e7ac4a4678115e048f7e2dfe71d36d05604b5dc012094d52c", func := "casement/casementlaw03.RingStack", spec := "ringStack", apart := false }
def RingStackSaid : Prop := ringStackRow.holds Try.pinned (OpenSpec.ofChange ringStackSpec)

/-- ITS FALSE NEIGHBOUR: 'it returns false'. Refute it at one input. -/
def ringStackWrong : ChangeSpec := { name := "ringStack", fn := fun _ => fun
  | [d1, d2] => { results := [.lit (.bool false)], args := [d1, d2] }
  | _ => none }
def RingStackWrongFalsely : Prop := ringStackRow.holds Try.pinned (OpenSpec.ofChange ringStackWrong)

/-- 'casementlaw03.RingShrinks': WHATEVER THE INPUT: true; the input reads as it did. -/
def ringShrinksSpec : ChangeSpec := { name := "ringShrinks", fn := fun _ => fun
  | [d1, d2, d3] => { results := [.lit (.bool true)], args := [d1, d2, d3] }
  | _ => none }
def ringShrinksRow : OpenClaim := { program := "ytaklkhjgdopbgaa", sum := "1e883bceedd4bb9e7ac4a4678115e048f7e2dfe71d36d05604b5dc012094d52c", func := "casement/casementlaw03.RingShrinks", spec := "ringShrinks", apart := false }
def RingShrinksSaid : Prop := ringShrinksRow.holds Try.pinned (OpenSpec.ofChange ringShrinksSpec)

/-- ITS FALSE NEIGHBOUR: 'it returns false'. Refute it at one input. -/
def ringShrinksWrong : ChangeSpec := { name := "ringShrinks", fn := fun _ => fun
  | [d1, d2, d3] => { results := [.lit (.bool false)], args := [d1, d2, d3] }
  | _ => none }
def RingShrinksWrongFalsely : Prop := ringShrinksRow.holds Try.pinned (OpenSpec.ofChange ringShrinksWrong)

/-- 'casementlaw03.RingPlaces': WHATEVER THE INPUT: true; the input reads as it did. -/
def ringPlacesSpec : ChangeSpec := { name := "ringPlaces", fn := fun _ => fun
  | [d1, d2, d3] => { results := [.lit (.bool true)], args := [d1, d2, d3] }
  | _ => none }
def ringPlacesRow : OpenClaim := { program := "ytaklkhjgdopbgaa", sum := "1e883bceedd4bb9e7ac4a4678115e048f7e2dfe71d36d05604b5dc012094d52c", func := "casement/casementlaw03.RingPlaces", spec := "ringPlaces", apart := false }
def RingPlacesSaid : Prop := ringPlacesRow.holds Try.pinned (OpenSpec.ofChange ringPlacesSpec)

/-- ITS FALSE NEIGHBOUR: 'it returns false'. Refute it at one input. -/
def ringPlacesWrong : ChangeSpec := { name := "ringPlaces", fn := fun _ => fun
  | [d1, d2, d3] => { results := [.lit (.bool false)], args := [d1, d2, d3] }
  | _ => none }
def RingPlacesWrongFalsely : Prop := ringPlacesRow.holds Try.pinned (OpenSpec.ofChange ringPlacesWrong)

/- THE SECOND FORM. 'bulk': how many values and letters a reading holds, each counted each time it is reached (what is shared counts as often as it is met; a slice's spare places count too). A statement '..UptoSaid' is the law's where the arguments, and the package variables that the reading takes, are together of bulk at most 1048576: NARROWER than '..Said'. Prove '..Said' where nothing that the law and all that it calls make is longer than what came in: it says more and counts as full. Else prove '..UptoSaid'. A law counts once. -/
mutual
def uptoBulk {H : Type} : DataW H → Nat
  | .lit (.string bytes) => bytes.length + 1
  | .lit _ => 1
  | .nil => 1
  | .ptr d => uptoBulk d + 1
  | .slice elems spare => uptoBulkAll elems + uptoBulkAll spare + 1
  | .agg parts => uptoBulkAll parts + 1
  | .iface _ d => uptoBulk d + 1
  | .map entries => uptoBulkEntries entries + 1
  | .held _ => 1
def uptoBulkAll {H : Type} : List (DataW H) → Nat
  | [] => 0
  | d :: r => uptoBulk d + uptoBulkAll r
def uptoBulkEntries {H : Type} : List (Lit × DataW H) → Nat
  | [] => 0
  | x :: r => uptoBulkEntry x + uptoBulkEntries r
def uptoBulkEntry {H : Type} : Lit × DataW H → Nat
  | (.string bytes, d) => bytes.length + uptoBulk d + 1
  | (_, d) => uptoBulk d + 1
 end
def uptoSmall : (H : Type) → List (DataW H) → Bool := fun _ ds => decide (uptoBulkAll ds ≤ 1048576)
def OpenSpec.upto (s : _root_.Go.ChangeSpec) : _root_.Go.OpenSpec := { _root_.Go.OpenSpec.ofChange s with cond := some uptoSmall }

/-- 'casementlaw03.RingPlays', WHERE WHAT IT READS IS OF BULK AT MOST 1048576: true; the input reads as it did. -/
def ringPlaysUptoRow : OpenClaim := { program := "ytaklkhjgdopbgaa", sum := "1e883bceedd4bb9e7ac4a4678115e048f7e2dfe71d36d05604b5dc012094d52c", func := "casement/casementlaw03.RingPlays", spec := "ringPlays", apart := false, narrowed := true }
def RingPlaysUptoSaid : Prop := ringPlaysUptoRow.holds Try.pinned (OpenSpec.upto ringPlaysSpec)

/-- 'casementlaw03.RingLast', WHERE WHAT IT READS IS OF BULK AT MOST 1048576: true; the input reads as it did. -/
def ringLastUptoRow : OpenClaim := { program := "ytaklkhjgdopbgaa", sum := "1e883bceedd4bb9e7ac4a4678115e048f7e2dfe71d36d05604b5dc012094d52c", func := "casement/casementlaw03.RingLast", spec := "ringLast", apart := false, narrowed := true }
def RingLastUptoSaid : Prop := ringLastUptoRow.holds Try.pinned (OpenSpec.upto ringLastSpec)

/-- 'casementlaw03.RingStack', WHERE WHAT IT READS IS OF BULK AT MOST 1048576: true; the input reads as it did. -/
def ringStackUptoRow : OpenClaim := { program := "ytaklkhjgdopbgaa", sum := "1e883bceedd4bb9e7ac4a4678115e048f7e2dfe71d36d05604b5dc012094d52c", func := "casement/casementlaw03.RingStack", spec := "ringStack", apart := false, narrowed := true }
def RingStackUptoSaid : Prop := ringStackUptoRow.holds Try.pinned (OpenSpec.upto ringStackSpec)

/-- 'casementlaw03.RingShrinks', WHERE WHAT IT READS IS OF BULK AT MOST 1048576: true; the input reads as it did. -/
def ringShrinksUptoRow : OpenClaim := { program := "ytaklkhjgdopbgaa", sum := "1e883bceedd4bb9e7ac4a4678115e048f7e2dfe71d36d05604b5dc012094d52c", func := "casement/casementlaw03.RingShrinks", spec := "ringShrinks", apart := false, narrowed := true }
def RingShrinksUptoSaid : Prop := ringShrinksUptoRow.holds Try.pinned (OpenSpec.upto ringShrinksSpec)

/-- 'casementlaw03.RingPlaces', WHERE WHAT IT READS IS OF BULK AT MOST 1048576: true; the input reads as it did. -/
def ringPlacesUptoRow : OpenClaim := { program := "ytaklkhjgdopbgaa", sum := "1e883bceedd4bb9e7ac4a4678115e048f7e2dfe71d36d05604b5dc012094d52c", func := "casement/casementlaw03.RingPlaces", spec := "ringPlaces", apart := false, narrowed := true }
def RingPlacesUptoSaid : Prop := ringPlacesUptoRow.holds Try.pinned (OpenSpec.upto ringPlacesSpec)

end Rows
end Go.Proofs.Ytaklkhjgdopbgaa
