/- A script of ops among the arguments: as rows of four numbers. -/
import Derived.Test.YtfelmnhhldgobaaTmLift
import Derived.Test.YtfelmnhhldgobaaTmRef
namespace Go.Proofs.Ytfelmnhhldgobaa
open Go.ChangeShapes Go.WideShapes Go.ChangeAt Go.RowKit Go.Joins Go.Deep
theorem okOps : Try.prog.readableRec 22 = true ∧ 22 < Try.prog.types.size := ⟨by kernel_rfl, of_decide_eq_true (by kernel_rfl)⟩
theorem cellsOp : Try.prog.cellsOf 30 = 4 := by kernel_rfl
theorem cellsI : Try.prog.cellsOf 3 = 1 := by kernel_rfl
theorem i64_of_wf {x : Int} (h : (Lit.int .i64 x).wf = true) : -9223372036854775808 ≤ x ∧ x ≤ 9223372036854775807 := by
  simp [Lit.wf, IntKind.min, IntKind.max, IntKind.signed, IntKind.bits] at h
  omega
section
variable {H : Type} {enc : TypeId × Value → H}
theorem flat_ops (n : Nat) (L : Nat → List Value) (R : Nat → tm.T) (h : ∀ i, i < n → L i = tC (R i)) : (List.range n).flatMap L = tsC ((List.range n).map R) := by
  induction n with
  | zero => rfl
  | succ n ih =>
    rw [List.range_succ, List.flatMap_append, List.map_append, tsC_app, ih (fun i hi => h i (by omega))]
    simp [h n (by omega), tsC]
set_option maxRecDepth 100000 in
theorem open_ops_in {W : World} {base b0 : Nat} {held : Bool} {r : Reach} {v : Value} {d : DataW H} {p : List MemPlace} (hv : Value.okWide Try.prog W r b0 22 v) (h : DataW.Trod enc Try.prog W base (fun _ => true) held 22 v d p) :
    ∃ l, RIn W (fun b => b < W.heap.size) v l ∧ ∀ t, t ∈ l → -9223372036854775808 ≤ t.due := by
  obtain ⟨a, n, cap, rfl⟩ := okWide_slice Try.underlying22 hv
  obtain ⟨fuel, hf⟩ := h
  obtain ⟨V, n, L, e, hr, hL⟩ := open_row Try.underlying22 cellsOp (by decide) hf
  simp [Value.cells] at e
  subst e
  obtain ⟨R, hR⟩ := choose_lt (α := tm.T) (n := n) (p := fun i c => L i = tC c ∧ -9223372036854775808 ≤ c.due) (fun i hi => by
    obtain ⟨hl, f, y, hy⟩ := hL i hi
    obtain ⟨z0, z1, z2, z3, _, _, _, g0, g1, g2, g3⟩ := trod_struct4 Try.underlying30 hy
    match hc : L i, hl with
    | [c0, c1, c2, c3], _ =>
      rw [hc] at g0 g1 g2 g3
      obtain ⟨a0, e0, -, -⟩ := DataW.trod_int Try.underlying3 g0
      obtain ⟨a1, e1, -, -⟩ := DataW.trod_int Try.underlying3 g1
      obtain ⟨a2, e2, -, hw⟩ := DataW.trod_int Try.underlying2 g2
      obtain ⟨a3, e3, -, -⟩ := DataW.trod_int Try.underlying2 g3
      simp [cellsI, cellsInt64] at e0 e1 e2 e3
      subst e0 e1 e2 e3
      exact ⟨⟨a0, a1, a2, a3⟩, rfl, (i64_of_wf hw).1⟩)
  refine ⟨(List.range n).map R, ?_, fun t ht => ?_⟩
  · show RowIn _ _ _ _ ((List.range n).map R).length _
    rw [List.length_map, List.length_range, ← flat_ops n L R (fun i hi => (hR i hi).1)]
    exact hr
  · obtain ⟨i, hi, rfl⟩ := List.mem_map.1 ht
    exact (hR i (List.mem_range.1 hi)).2
theorem ops_sized {ts : List TypeId} {ds : List (DataW H)} (h : (DataW.weightsEach Try.prog ts ds).all (· ≤ reachBytes) = true) {j : Nat} {d : DataW H} (ht : ts[j]? = some 22) (hd : ds[j]? = some d) : sliceLen d * 32 ≤ reachBytes := by
  have hb : Try.prog.bytesOf 30 = 32 := by kernel_rfl
  cases d with
  | slice el sp =>
    have := sized_slice h ht hd Try.underlying22
    rw [hb] at this
    show el.length * 32 ≤ _
    omega
  | _ => simp [sliceLen]
end
end Go.Proofs.Ytfelmnhhldgobaa
