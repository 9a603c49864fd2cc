/- From a walk to a row, and to its tied card: what each law's proof needs of the form, once for all laws of layers 13 and 14. -/
import Derived.Test.YtoknolljfeaapaaDoorCards
import Derived.Test.YtoknolljfeaapaaDoorTie
import Derived.Test.YtoknolljfeaapaaDoorCkAlive
import Derived.Test.YtoknolljfeaapaaDoorMdOpen
import Derived.Deep.DeepHandedRow
import Derived.Lib.LaidU8
import Derived.Lib.LaidTab
import Derived.LaidMore
import Derived.HandedShaped
namespace Go.Proofs.YtoknolljfeaapaaDoor
open Go.ChangeShapes Go.WideShapes Go.ChangeAt Go.RowKit Go.Joins Go.Deep
theorem okByte : Tryd.prog.readableRec 5 = true ∧ 5 < Tryd.prog.types.size := ⟨by kernel_rfl, of_decide_eq_true (by kernel_rfl)⟩
theorem okBytes : Tryd.prog.readableRec 22 = true ∧ 22 < Tryd.prog.types.size := ⟨by kernel_rfl, of_decide_eq_true (by kernel_rfl)⟩
theorem okCode : Tryd.prog.readableRec 70 = true ∧ 70 < Tryd.prog.types.size := ⟨by kernel_rfl, of_decide_eq_true (by kernel_rfl)⟩
theorem okBool : Tryd.prog.readableRec 4 = true ∧ 4 < Tryd.prog.types.size := ⟨by kernel_rfl, of_decide_eq_true (by kernel_rfl)⟩
section
variable {H : Type} {enc : TypeId × Value → H}
set_option maxRecDepth 100000 in
theorem open_bytes {W : World} {base b0 : Nat} {held : Bool} {r : Reach} {v : Value} {d : DataW H} {p : List MemPlace} (hv : Value.okWide Tryd.prog W r b0 22 v) (h : DataW.Trod enc Tryd.prog W base (fun _ => true) held 22 v d p) :
    ∃ l, BsIn W (fun b => b < W.heap.size) v l := by
  obtain ⟨a, n, cap, rfl⟩ := okWide_slice Tryd.underlying22 hv
  obtain ⟨fuel, hf⟩ := h
  obtain ⟨V, l, e, hl⟩ := open_bytes_at hf
  simp [Value.cells] at e
  subst e
  exact ⟨l, hl⟩
set_option maxRecDepth 100000 in
theorem open_code {W : World} {base b0 : Nat} {held : Bool} {r : Reach} {v : Value} {d : DataW H} {p : List MemPlace} (hv : Value.okWide Tryd.prog W r b0 70 v) (h : DataW.Trod enc Tryd.prog W base (fun _ => true) held 70 v d p) :
    ∃ l, InsIn W (fun b => b < W.heap.size) v l ∧ md.codeI l := by
  obtain ⟨a, n, cap, rfl⟩ := okWide_slice Tryd.underlying70 hv
  obtain ⟨fuel, hf⟩ := h
  obtain ⟨V, l, e, hl, hi⟩ := open_code_at hf
  simp [Value.cells] at e
  subst e
  exact ⟨l, hl, hi⟩
set_option maxRecDepth 100000 in
theorem open_i64 {W : World} {base b0 : Nat} {sp : Nat → Bool} {held : Bool} {r : Reach} {v : Value} {d : DataW H} {p : List MemPlace} (hv : Value.okWide Tryd.prog W r b0 3 v) (h : DataW.Trod enc Tryd.prog W base sp held 3 v d p) :
    ∃ x : Int, v = .int .i64 x ∧ md.i64 x := by
  obtain ⟨a, rfl, rfl, rfl, w⟩ := open_int Tryd.underlying3 hv h
  exact ⟨a, rfl, i64_of_wf w⟩
set_option maxRecDepth 100000 in
theorem open_long {W : World} {base b0 : Nat} {sp : Nat → Bool} {held : Bool} {r : Reach} {v : Value} {d : DataW H} {p : List MemPlace} (hv : Value.okWide Tryd.prog W r b0 2 v) (h : DataW.Trod enc Tryd.prog W base sp held 2 v d p) :
    ∃ x : Int, v = .int .i64 x ∧ md.i64 x := by
  obtain ⟨a, rfl, rfl, rfl, w⟩ := open_int Tryd.underlying2 hv h
  exact ⟨a, rfl, i64_of_wf w⟩
set_option maxRecDepth 100000 in
theorem open_u8 {W : World} {base b0 : Nat} {sp : Nat → Bool} {held : Bool} {r : Reach} {v : Value} {d : DataW H} {p : List MemPlace} (hv : Value.okWide Tryd.prog W r b0 5 v) (h : DataW.Trod enc Tryd.prog W base sp held 5 v d p) :
    ∃ x : UInt8, v = .int .u8 (x.toNat : Nat) := by
  obtain ⟨a, rfl, rfl, rfl, w⟩ := open_int Tryd.underlying5 hv h
  have := u8_of_wf w
  exact ⟨UInt8.ofNat a.toNat, by rw [md.u8_toNat (by omega)]; congr 1; omega⟩
end
theorem gHost : Tryd.prog.globalNamed "casement/check.hostTakes" = some 0 := by kernel_rfl
theorem tHost : (Tryd.prog.globals[0]?).map (·.type) = some 106 := by kernel_rfl
theorem cellsHost : Tryd.prog.cellsOf 106 = 12 := by kernel_rfl
set_option maxRecDepth 100000 in
theorem host_eq : (Rows.laid_casement_check_hostTakes : DataW Unit) = Lib.tabData .i64 ck.hostT := by kernel_rfl
theorem ht_of_reads {w : World} (h : Lib.VarReads Tryd.prog w "casement/check.hostTakes" Rows.laid_casement_check_hostTakes) : HT w := by
  rw [host_eq] at h
  obtain ⟨g, t, cs, fuel, p, hg, hty, hvar, hd⟩ := h
  obtain rfl := Option.some.inj (gHost.symm.trans hg)
  obtain rfl := Option.some.inj (tHost.symm.trans hty)
  have hcs := Lib.cells_of_tab Tryd.underlying106 Tryd.underlying3 cellsInt cellsHost hd
  have ht : Lib.TabIs Tryd.prog w "casement/check.hostTakes" .i64 ck.hostT := by
    unfold Lib.TabIs
    rw [hvar, ← hcs]
  intro k hk
  exact ht.cell gHost k hk
/-- a world that holds what is listed -/
noncomputable def laidWorld (os : Os) : World := World.doorLaid Tryd.prog 14 os
end Go.Proofs.YtoknolljfeaapaaDoor
