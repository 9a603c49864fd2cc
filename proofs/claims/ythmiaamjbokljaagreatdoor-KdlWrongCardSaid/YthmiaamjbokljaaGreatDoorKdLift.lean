/- From a walk to a row, and to its tied card: what each law's proof needs of the form, once for all laws of layer 8. -/
import Derived.Test.YthmiaamjbokljaaGreatDoorCards
import Derived.Test.YthmiaamjbokljaaGreatDoorTie
import Derived.Test.YthmiaamjbokljaaGreatDoorKdAlive
import Derived.SizedLaws
import Derived.SliceStrings
import Derived.Deep.DeepHandedRow
import Derived.Lib.LaidU8
import Derived.Lib.LaidTab
import Derived.LaidMore
import Derived.Stop.LaidErr
import Derived.HandedShaped
namespace Go.Proofs.YthmiaamjbokljaaGreatDoor
open Go.ChangeShapes Go.WideShapes Go.ChangeAt Go.RowKit Go.Joins
open Go.ChangeMaps (open_string shut_string)

theorem own : ownKnob Tryz.prog.godebug = none := by kernel_rfl
theorem laid : laidOutB Tryz.prog = true := by kernel_rfl
/-- types that can be read -/
def TsOk : List TypeId → Prop
  | [] => True
  | t :: ts => (Tryz.prog.readableRec t = true ∧ t < Tryz.prog.types.size) ∧ TsOk ts
theorem okText : Tryz.prog.readableRec 9 = true ∧ 9 < Tryz.prog.types.size := ⟨by kernel_rfl, of_decide_eq_true (by kernel_rfl)⟩
section
variable {H : Type} {enc : TypeId × Value → H}
/-- arguments read behind a call that has changed nothing old as they read ahead of it -/
theorem args_below {W W' : World} (hb : Below W.heap.size W W') : ∀ (ts : List TypeId) (vs : List Value) (ds : List (DataW H)) (ps : List MemPlace),
    TsOk ts → (∀ x ∈ ps, x.block < W.heap.size) → DataW.TrodAll enc Tryz.prog W 0 (fun _ => true) true ts vs ds ps →
    DataW.TrodAll enc Tryz.prog W' 0 (fun b => decide (b < W.heap.size)) true ts vs ds ps
  | [], _, _, _, _, _, h => by
    obtain ⟨rfl, rfl, rfl⟩ := trodAll_nil h
    exact trodAll_mk0
  | t :: ts, vs, ds, ps, ht, hp, h => by
    obtain ⟨v, vs', d, ds', p, q, rfl, rfl, rfl, h0, hr⟩ := trodAll_cons h
    exact trodAll_cons_mk (Below.trod laid ht.1.1 ht.1.2 h0 hb (fun x hx => hp x (List.mem_append.2 (.inl hx)))) (args_below hb ts vs' ds' q ht.2 (fun x hx => hp x (List.mem_append.2 (.inr hx))) hr)
set_option maxRecDepth 100000 in
/-- a text among the arguments -/
theorem open_text {W : World} {base b0 : Nat} {sp : Nat → Bool} {held : Bool} {r : Reach} {v : Value} {d : DataW H} {p : List MemPlace} (hv : Value.okWide Tryz.prog W r b0 9 v) (h : DataW.Trod enc Tryz.prog W base sp held 9 v d p) :
    ∃ l : List UInt8, v = str l := by
  obtain ⟨s, rfl, _, _, _⟩ := open_string Tryz.underlying9 hv h
  exact ⟨s.data.toList, by cases s; rfl⟩
end
theorem gSyn : Tryz.prog.globalNamed "strconv.ErrSyntax" = some 2 := by kernel_rfl
theorem gRng : Tryz.prog.globalNamed "strconv.ErrRange" = some 3 := by kernel_rfl
theorem tSyn : (Tryz.prog.globals[2]?).map (·.type) = some 119 := by kernel_rfl
theorem tRng : (Tryz.prog.globals[3]?).map (·.type) = some 119 := by kernel_rfl
theorem cellsES : Tryz.prog.cellsOf 164 = 1 := by kernel_rfl
theorem cellsText : Tryz.prog.cellsOf 9 = 1 := by kernel_rfl
theorem star : "*" ++ "errors.errorString" = "*errors.errorString" := by decide
theorem rowES (u : TypeId) (h : Tryz.prog.typeName? 3 u = some "*errors.errorString") : u = 162 :=
  typeName_ptr_named (nm := "errors.errorString") (by rw [star]; kernel_rfl) (by kernel_rfl) (by decide) u (by rw [star]; exact h)
set_option maxRecDepth 100000 in
theorem maxLen_of {W : World} (hsh : W.ShapedOpen Tryz.prog) : ∃ m, W.cell? ⟨0, 0, none⟩ = some (.int .i64 m) :=
  Go.Proofs.cell_of_shapedOpen_int (zero := #[.int .i64 0]) (t := 3) hsh (of_decide_eq_true (by kernel_rfl)) (by kernel_rfl) rfl (by kernel_rfl) (by kernel_rfl) Tryz.underlying3
/-- what the library's variables hold, where the listed ones read as listed -/
theorem tt_of_laid {W : World} (hr : laidMet Tryz.prog (("strconv.ErrRange", Rows.laid_strconv_ErrRange) :: ("strconv.ErrSyntax", Rows.laid_strconv_ErrSyntax) :: []) W) (hsh : W.ShapedOpen Tryz.prog) : TT W := by
  obtain ⟨a1, s1, hv1, -, -, -⟩ := laid_sentinel hr gRng tRng Tryz.underlying119 rowES Tryz.underlying162 Tryz.underlying164 rfl rfl Tryz.underlying9 cellsES cellsText
  obtain ⟨a2, s2, hv2, -, -, -⟩ := laid_sentinel hr.tail gSyn tSyn Tryz.underlying119 rowES Tryz.underlying162 Tryz.underlying164 rfl rfl Tryz.underlying9 cellsES cellsText
  exact ⟨⟨_, by have h0 := World.var?_cell gSyn hv2 0; simpa using h0, .inr ⟨_, _, rfl⟩⟩, maxLen_of hsh, ⟨_, by have h0 := World.var?_cell gRng hv1 0; simpa using h0, .inr ⟨_, _, rfl⟩⟩⟩
theorem tPow : (Tryz.prog.globals[1]?).map (·.type) = some 152 := by kernel_rfl
theorem cellsPow : Tryz.prog.cellsOf 152 = 20 := by kernel_rfl
theorem cellsU64 : Tryz.prog.cellsOf 131 = 1 := by kernel_rfl
set_option maxRecDepth 100000 in
theorem pow_eq : (Rows.laid_internal_strconv_uint64pow10 : DataW Unit) = Lib.tabData .u64 Lib.pow10Tab := by kernel_rfl
theorem ptab_of_reads {w : World} (h : Lib.VarReads Tryz.prog w "internal/strconv.uint64pow10" Rows.laid_internal_strconv_uint64pow10) : Lib.TabIs Tryz.prog w "internal/strconv.uint64pow10" .u64 Lib.pow10Tab := by
  rw [pow_eq] at h
  obtain ⟨g, t, cs, fuel, p, hg, hty, hvar, hd⟩ := h
  obtain rfl := Option.some.inj (gPow.symm.trans hg)
  obtain rfl := Option.some.inj (tPow.symm.trans hty)
  have hcs := Lib.cells_of_tab Tryz.underlying152 Tryz.underlying131 cellsU64 cellsPow hd
  unfold Lib.TabIs
  rw [hvar, ← hcs]
/-- a world that holds what is listed -/
noncomputable def laidWorld (os : Os) : World := World.doorLaid Tryz.prog 62 os
end Go.Proofs.YthmiaamjbokljaaGreatDoor
