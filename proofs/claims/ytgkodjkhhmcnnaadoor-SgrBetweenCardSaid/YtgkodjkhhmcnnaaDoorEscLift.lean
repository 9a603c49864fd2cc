/- What each law's proof needs of the form, over a seat that lists the tables of utf8 and strconv. -/
import Derived.Test.YtgkodjkhhmcnnaaDoorGlOpen
import Derived.Test.YtgkodjkhhmcnnaaDoorEscAlive
import Derived.Lib.LaidTab
namespace Go.Proofs.YtgkodjkhhmcnnaaDoor
open Go.ChangeShapes Go.WideShapes Go.ChangeAt Go.RowKit Go.Joins

theorem gPow : Tryd.prog.globalNamed "internal/strconv.uint64pow10" = some 2 := by kernel_rfl
theorem tPow : (Tryd.prog.globals[2]?).map (·.type) = some 125 := by kernel_rfl
theorem cellsPow : Tryd.prog.cellsOf 125 = 20 := by kernel_rfl
theorem cellsU64 : Tryd.prog.cellsOf 104 = 1 := by kernel_rfl
set_option maxRecDepth 100000 in
theorem pow_eq : (Rows.laid_internal_strconv_uint64pow10 : DataW Unit) = Lib.tabData .u64 Lib.pow10Tab := by kernel_rfl
theorem ptab_of_reads {w : World} (h : Lib.VarReads Tryd.prog w "internal/strconv.uint64pow10" Rows.laid_internal_strconv_uint64pow10) : PTab w := by
  rw [pow_eq] at h
  obtain ⟨g, t, cs, fuel, p, hg, hty, hvar, hd⟩ := h
  obtain rfl := Option.some.inj (gPow.symm.trans hg)
  obtain rfl := Option.some.inj (tPow.symm.trans hty)
  have hcs := Lib.cells_of_tab Tryd.underlying125 Tryd.underlying104 cellsU64 cellsPow hd
  unfold PTab Lib.TabIs
  rw [hvar, ← hcs]
/-- a block's cells put in -/
def withCells (c : Array Value) : Obj → Obj
  | .cells _ t frozen => .cells c t frozen
  | o => o
/-- a world that holds the tables -/
noncomputable def laidWorld (os : Os) : World :=
  { World.doorLaid Tryd.prog 49 os with heap := (World.doorLaid Tryd.prog 49 os).heap.modify 3 (withCells (Go.Pinned.utf8FirstZ.map fun (n : Nat) => Value.int .u8 (n : Int)).toArray) }
end Go.Proofs.YtgkodjkhhmcnnaaDoor
