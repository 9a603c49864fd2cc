/- From a walk to a row, and to its tied card: what each law's proof needs of the form, once for all laws of layer 7. -/
import Derived.Test.YteilaoiimlpbkabDoorCards
import Derived.Test.YteilaoiimlpbkabDoorTie
import Derived.Test.YteilaoiimlpbkabDoorTkAlive
import Derived.SizedLaws
import Derived.SliceStrings
import Derived.Deep.DeepHandedRow
import Derived.Lib.LaidU8
import Derived.LaidMore
import Derived.Stop.LaidErr
import Derived.HandedShaped
namespace Go.Proofs.YteilaoiimlpbkabDoor
open Go.ChangeShapes Go.WideShapes Go.ChangeAt Go.RowKit Go.Joins
open Go.ChangeMaps (open_string shut_string)

theorem own : ownKnob Tryd.prog.godebug = none := by kernel_rfl
theorem laid : laidOutB Tryd.prog = true := by kernel_rfl
/-- types that can be read -/
def TsOk : List TypeId → Prop
  | [] => True
  | t :: ts => (Tryd.prog.readableRec t = true ∧ t < Tryd.prog.types.size) ∧ TsOk ts
theorem okText : Tryd.prog.readableRec 9 = true ∧ 9 < Tryd.prog.types.size := ⟨by kernel_rfl, of_decide_eq_true (by kernel_rfl)⟩
section
variable {H : Type} {enc : TypeId × Value → H}
/-- arguments read behind a call that has changed nothing old as they read ahead of it -/
theorem args_below {W W' : World} (hb : Below W.heap.size W W') : ∀ (ts : List TypeId) (vs : List Value) (ds : List (DataW H)) (ps : List MemPlace),
    TsOk ts → (∀ x ∈ ps, x.block < W.heap.size) → DataW.TrodAll enc Tryd.prog W 0 (fun _ => true) true ts vs ds ps →
    DataW.TrodAll enc Tryd.prog W' 0 (fun b => decide (b < W.heap.size)) true ts vs ds ps
  | [], _, _, _, _, _, h => by
    obtain ⟨rfl, rfl, rfl⟩ := trodAll_nil h
    exact trodAll_mk0
  | t :: ts, vs, ds, ps, ht, hp, h => by
    obtain ⟨v, vs', d, ds', p, q, rfl, rfl, rfl, h0, hr⟩ := trodAll_cons h
    exact trodAll_cons_mk (Below.trod laid ht.1.1 ht.1.2 h0 hb (fun x hx => hp x (List.mem_append.2 (.inl hx)))) (args_below hb ts vs' ds' q ht.2 (fun x hx => hp x (List.mem_append.2 (.inr hx))) hr)
/-- a text among the arguments -/
theorem open_text {W : World} {base b0 : Nat} {sp : Nat → Bool} {held : Bool} {r : Reach} {v : Value} {d : DataW H} {p : List MemPlace} (hv : Value.okWide Tryd.prog W r b0 9 v) (h : DataW.Trod enc Tryd.prog W base sp held 9 v d p) :
    ∃ l : List UInt8, v = str l := by
  obtain ⟨s, rfl, _, _, _⟩ := open_string Tryd.underlying9 hv h
  exact ⟨s.data.toList, by cases s; rfl⟩
end
theorem gSyn : Tryd.prog.globalNamed "strconv.ErrSyntax" = some 1 := by kernel_rfl
theorem gRng : Tryd.prog.globalNamed "strconv.ErrRange" = some 2 := by kernel_rfl
theorem tSyn : (Tryd.prog.globals[1]?).map (·.type) = some 53 := by kernel_rfl
theorem tRng : (Tryd.prog.globals[2]?).map (·.type) = some 53 := by kernel_rfl
theorem cellsES : Tryd.prog.cellsOf 78 = 1 := by kernel_rfl
theorem cellsText : Tryd.prog.cellsOf 9 = 1 := by kernel_rfl
theorem star : "*" ++ "errors.errorString" = "*errors.errorString" := by decide
theorem rowES (u : TypeId) (h : Tryd.prog.typeName? 3 u = some "*errors.errorString") : u = 76 :=
  typeName_ptr_named (nm := "errors.errorString") (by rw [star]; kernel_rfl) (by kernel_rfl) (by decide) u (by rw [star]; exact h)
/-- what the library's variables hold, where the listed ones read as listed -/
theorem tt_of_laid {W : World} (hr : laidMet Tryd.prog (("strconv.ErrRange", Rows.laid_strconv_ErrRange) :: ("strconv.ErrSyntax", Rows.laid_strconv_ErrSyntax) :: []) W) (hsh : W.ShapedOpen Tryd.prog) : TT W := by
  obtain ⟨a1, s1, hv1, -, -, -⟩ := laid_sentinel hr gRng tRng Tryd.underlying53 rowES Tryd.underlying76 Tryd.underlying78 rfl rfl Tryd.underlying9 cellsES cellsText
  obtain ⟨a2, s2, hv2, -, -, -⟩ := laid_sentinel hr.tail gSyn tSyn Tryd.underlying53 rowES Tryd.underlying76 Tryd.underlying78 rfl rfl Tryd.underlying9 cellsES cellsText
  exact ⟨⟨_, by have h0 := World.var?_cell gSyn hv2 0; simpa using h0, .inr ⟨_, _, rfl⟩⟩, Tryd.laysM143.s1_3 W hsh, ⟨_, by have h0 := World.var?_cell gRng hv1 0; simpa using h0, .inr ⟨_, _, rfl⟩⟩⟩
/-- a world that holds what is listed -/
noncomputable def laidWorld (os : Os) : World := World.doorLaid Tryd.prog 62 os
end Go.Proofs.YteilaoiimlpbkabDoor
