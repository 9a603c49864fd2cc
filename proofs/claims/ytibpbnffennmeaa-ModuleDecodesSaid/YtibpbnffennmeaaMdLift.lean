/- From a walk to a row: what each law's proof needs of the form, once for all laws of layer 12. -/
import Derived.Test.YtibpbnffennmeaaMdAlive
import Derived.Test.YtibpbnffennmeaaMdOpen
namespace Go.Proofs.Ytibpbnffennmeaa
open Go.ChangeShapes Go.WideShapes Go.ChangeAt Go.RowKit Go.Joins Go.Deep
theorem okByte : Try.prog.readableRec 5 = true ∧ 5 < Try.prog.types.size := ⟨by kernel_rfl, of_decide_eq_true (by kernel_rfl)⟩
theorem okBytes : Try.prog.readableRec 22 = true ∧ 22 < Try.prog.types.size := ⟨by kernel_rfl, of_decide_eq_true (by kernel_rfl)⟩
section
variable {H : Type} {enc : TypeId × Value → H}
theorem open_bytes {W : World} {base b0 : Nat} {held : Bool} {r : Reach} {v : Value} {d : DataW H} {p : List MemPlace} (hv : Value.okWide Try.prog W r b0 22 v) (h : DataW.Trod enc Try.prog W base (fun _ => true) held 22 v d p) :
    ∃ l, BsIn W (fun b => b < W.heap.size) v l := by
  obtain ⟨a, n, cap, rfl⟩ := okWide_slice Try.underlying22 hv
  obtain ⟨fuel, hf⟩ := h
  obtain ⟨V, l, e, hl⟩ := open_bytes_at hf
  simp [Value.cells] at e
  subst e
  exact ⟨l, hl⟩
theorem open_i64 {W : World} {base b0 : Nat} {sp : Nat → Bool} {held : Bool} {r : Reach} {v : Value} {d : DataW H} {p : List MemPlace} (hv : Value.okWide Try.prog W r b0 3 v) (h : DataW.Trod enc Try.prog W base sp held 3 v d p) :
    ∃ x : Int, v = .int .i64 x ∧ md.i64 x := by
  obtain ⟨a, rfl, rfl, rfl, w⟩ := open_int Try.underlying3 hv h
  exact ⟨a, rfl, i64_of_wf w⟩
theorem open_long {W : World} {base b0 : Nat} {sp : Nat → Bool} {held : Bool} {r : Reach} {v : Value} {d : DataW H} {p : List MemPlace} (hv : Value.okWide Try.prog W r b0 2 v) (h : DataW.Trod enc Try.prog W base sp held 2 v d p) :
    ∃ x : Int, v = .int .i64 x ∧ md.i64 x := by
  obtain ⟨a, rfl, rfl, rfl, w⟩ := open_int Try.underlying2 hv h
  exact ⟨a, rfl, i64_of_wf w⟩
theorem open_u8 {W : World} {base b0 : Nat} {sp : Nat → Bool} {held : Bool} {r : Reach} {v : Value} {d : DataW H} {p : List MemPlace} (hv : Value.okWide Try.prog W r b0 5 v) (h : DataW.Trod enc Try.prog W base sp held 5 v d p) :
    ∃ x : UInt8, v = .int .u8 (x.toNat : Nat) := by
  obtain ⟨a, rfl, rfl, rfl, w⟩ := open_int Try.underlying5 hv h
  have := u8_of_wf w
  exact ⟨UInt8.ofNat a.toNat, by rw [md.u8_toNat (by omega)]; congr 1; omega⟩
end
end Go.Proofs.Ytibpbnffennmeaa
