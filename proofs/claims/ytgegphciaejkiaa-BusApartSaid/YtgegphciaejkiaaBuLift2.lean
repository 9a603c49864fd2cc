/- A script of ops among the arguments. -/
import Derived.Test.YtgegphciaejkiaaBuLift
import Derived.Test.YtgegphciaejkiaaBuApartM
namespace Go.Proofs.Ytgegphciaejkiaa
open Go.ChangeShapes Go.WideShapes Go.ChangeAt Go.RowKit Go.Joins Go.Deep
theorem okOps : Try.prog.readableRec 22 = true ∧ 22 < Try.prog.types.size := ⟨by kernel_rfl, of_decide_eq_true (by kernel_rfl)⟩
theorem cellsOp : Try.prog.cellsOf 33 = 8 := by kernel_rfl
theorem cellsEv : Try.prog.cellsOf 31 = 4 := by kernel_rfl
theorem cellsInt64 : Try.prog.cellsOf 2 = 1 := by kernel_rfl
theorem cellsText : Try.prog.cellsOf 9 = 1 := by kernel_rfl
instance : Inhabited bu.Op := ⟨⟨0, 0, 0, false, bu.evZ⟩⟩
def opC (x : bu.Op) : List Value := [.int .i64 x.kind, .int .i64 x.p, .int .i64 x.n, .bool x.on, .int .i64 x.e.kind, .int .i64 x.e.a, .int .i64 x.e.b, .string x.e.text]
abbrev OpIn (w : World) (D : Nat → Prop) (V : Value) (l : List bu.Op) : Prop := RowIn w D V 8 l.length (l.flatMap opC)
section
variable {H : Type} {enc : TypeId × Value → H}
theorem trod_struct5' {P : Program} {w : World} {base : Nat} {spare : Nat → Bool} {held : Bool} {t : TypeId} {f0 f1 f2 f3 f4 : Field} {fuel : Nat} {cs : List Value} {x : DataW H × List MemPlace} (ht : P.underlying t = some (.struct #[f0, f1, f2, f3, f4])) (h : DataW.trod enc P w base spare held fuel t cs = some x) :
    ∃ y0 y1 y2 y3 y4 n, DataW.trod enc P w base spare held n f0.type ((cs.drop f0.offset).take (P.cellsOf f0.type)) = some y0 ∧
      DataW.trod enc P w base spare held n f1.type ((cs.drop f1.offset).take (P.cellsOf f1.type)) = some y1 ∧ DataW.trod enc P w base spare held n f2.type ((cs.drop f2.offset).take (P.cellsOf f2.type)) = some y2 ∧
      DataW.trod enc P w base spare held n f3.type ((cs.drop f3.offset).take (P.cellsOf f3.type)) = some y3 ∧ DataW.trod enc P w base spare held n f4.type ((cs.drop f4.offset).take (P.cellsOf f4.type)) = some y4 := by
  obtain ⟨xs, n, _, rfl, hl, hlen, hf⟩ := DataW.trod_struct ht h
  match xs, hlen with
  | [y0, y1, y2, y3, y4], _ => exact ⟨y0, y1, y2, y3, y4, n, by simpa using hf 0 f0 rfl, by simpa using hf 1 f1 rfl, by simpa using hf 2 f2 rfl, by simpa using hf 3 f3 rfl, by simpa using hf 4 f4 rfl⟩
theorem flat_ops (n : Nat) (L : Nat → List Value) (R : Nat → bu.Op) (h : ∀ i, i < n → L i = opC (R i)) : (List.range n).flatMap L = ((List.range n).map R).flatMap opC := by
  induction n with
  | zero => rfl
  | succ n ih =>
    rw [List.range_succ, List.flatMap_append, List.map_append, List.flatMap_append, ih (fun i hi => h i (by omega))]
    simp [h n (by omega)]
set_option maxRecDepth 100000 in
theorem open_ops_in {W : World} {base b0 : Nat} {held : Bool} {r : Reach} {v : Value} {d : DataW H} {p : List MemPlace} (hv : Value.okWide Try.prog W r b0 22 v) (h : DataW.Trod enc Try.prog W base (fun _ => true) held 22 v d p) :
    ∃ l, OpIn W (fun b => b < W.heap.size) v l := by
  obtain ⟨a, n, cap, rfl⟩ := okWide_slice Try.underlying22 hv
  obtain ⟨fuel, hf⟩ := h
  obtain ⟨V, n, L, e, hr, hL⟩ := open_row Try.underlying22 cellsOp (by decide) hf
  simp [Value.cells] at e
  subst e
  obtain ⟨R, hR⟩ := choose_lt (α := bu.Op) (n := n) (p := fun i c => L i = opC c) (fun i hi => by
    obtain ⟨hl, f, y, hy⟩ := hL i hi
    obtain ⟨y0, y1, y2, y3, y4, _, h0, h1, h2, h3, h4⟩ := trod_struct5' Try.underlying33 hy
    obtain ⟨z0, z1, z2, z3, _, _, _, g0, g1, g2, g3⟩ := trod_struct4 Try.underlying31 h4
    match hc : L i, hl with
    | [c0, c1, c2, c3, c4, c5, c6, c7], _ =>
      rw [hc] at h0 h1 h2 h3 g0 g1 g2 g3
      obtain ⟨a0, e0, -, -⟩ := DataW.trod_int Try.underlying3 h0
      obtain ⟨a1, e1, -, -⟩ := DataW.trod_int Try.underlying3 h1
      obtain ⟨a2, e2, -, -⟩ := DataW.trod_int Try.underlying3 h2
      obtain ⟨a3, e3, -⟩ := DataW.trod_bool Try.underlying4 h3
      obtain ⟨k0, e4, -, -⟩ := DataW.trod_int Try.underlying3 g0
      obtain ⟨k1, e5, -, -⟩ := DataW.trod_int Try.underlying2 g1
      obtain ⟨k2, e6, -, -⟩ := DataW.trod_int Try.underlying2 g2
      obtain ⟨k3, e7, -⟩ := DataW.trod_string Try.underlying9 g3
      simp [cellsInt, cellsBool, cellsEv, cellsInt64, cellsText] at e0 e1 e2 e3 e4 e5 e6 e7
      subst e0 e1 e2 e3 e4 e5 e6 e7
      exact ⟨⟨a0, a1, a2, a3, ⟨k0, k1, k2, _⟩⟩, rfl⟩)
  refine ⟨(List.range n).map R, ?_⟩
  show RowIn _ _ _ _ ((List.range n).map R).length _
  rw [List.length_map, List.length_range, ← flat_ops n L R hR]
  exact hr
end
end Go.Proofs.Ytgegphciaejkiaa
