/- Rows that are empty. -/
import Derived.Test.YtoknolljfeaapaaDoorMdWrite
namespace Go.Proofs.YtoknolljfeaapaaDoor
open Go.RowKit
theorem BRow.toIn {w : World} {B : Nat} {v : Value} {l : List UInt8} (h : BRow w B v l) : BsIn w (fun _ => True) v l := RowIn.of_own h (by rw [byC_len, Nat.mul_one]) _ (fun _ _ => trivial)
/-- an empty row that is written out -/
theorem empty_row (w : World) (B : Nat) (hB : B ≤ w.heap.size) : BRow (w.alloc (.cells #[] 5)) B (.slice (some ⟨w.heap.size, 0, none⟩) 0 0) [] := World.ownsRow_lit w #[] 0 hB (by unfold maxLen; omega) rfl
end Go.Proofs.YtoknolljfeaapaaDoor
