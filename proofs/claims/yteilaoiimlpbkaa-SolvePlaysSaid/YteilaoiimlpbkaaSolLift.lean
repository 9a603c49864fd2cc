/- From a walk to a row: what each law's proof needs of the form, once for all laws of layer 9. -/
import Derived.Test.YteilaoiimlpbkaaSolAlive
import Derived.SizedLaws
import Derived.SliceStrings
import Derived.Deep.Slices
namespace Go.Proofs.Yteilaoiimlpbkaa
open Go.ChangeShapes Go.WideShapes Go.ChangeAt Go.RowKit Go.Joins Go.Deep

theorem own : ownKnob Try.prog.godebug = none := by kernel_rfl
theorem laid : laidOutB Try.prog = true := by kernel_rfl

/-- types that can be read -/
def TsOk : List TypeId → Prop
  | [] => True
  | t :: ts => (Try.prog.readableRec t = true ∧ t < Try.prog.types.size) ∧ TsOk ts
theorem okInt : Try.prog.readableRec 3 = true ∧ 3 < Try.prog.types.size := ⟨by kernel_rfl, of_decide_eq_true (by kernel_rfl)⟩
theorem okSizes : Try.prog.readableRec 22 = true ∧ 22 < Try.prog.types.size := ⟨by kernel_rfl, of_decide_eq_true (by kernel_rfl)⟩
theorem cellsInt : Try.prog.cellsOf 3 = 1 := by kernel_rfl
theorem cellsSize : Try.prog.cellsOf 33 = 2 := by kernel_rfl
theorem cell_lt {W : World} {a : Addr} {v : Value} (h : W.cell? a = some v) : a.block < W.heap.size := World.block_lt_of_cell? W a h

instance : Inhabited sl.Sz := ⟨sl.z0⟩
section
variable {H : Type} {enc : TypeId × Value → H}
/-- arguments read behind a call that has changed nothing old as they read ahead of it -/
theorem args_below {W W' : World} (hb : Below W.heap.size W W') : ∀ (ts : List TypeId) (vs : List Value) (ds : List (DataW H)) (ps : List MemPlace),
    TsOk ts → (∀ x ∈ ps, x.block < W.heap.size) → DataW.TrodAll enc Try.prog W 0 (fun _ => true) true ts vs ds ps →
    DataW.TrodAll enc Try.prog W' 0 (fun b => decide (b < W.heap.size)) true ts vs ds ps
  | [], _, _, _, _, _, h => by
    obtain ⟨rfl, rfl, rfl⟩ := trodAll_nil h
    exact trodAll_mk0
  | t :: ts, vs, ds, ps, ht, hp, h => by
    obtain ⟨v, vs', d, ds', p, q, rfl, rfl, rfl, h0, hr⟩ := trodAll_cons h
    exact trodAll_cons_mk (Below.trod laid ht.1.1 ht.1.2 h0 hb (fun x hx => hp x (List.mem_append.2 (.inl hx)))) (args_below hb ts vs' ds' q ht.2 (fun x hx => hp x (List.mem_append.2 (.inr hx))) hr)
theorem size_cells {W : World} {base : Nat} {sp : Nat → Bool} {held : Bool} {fuel : Nat} {cs : List Value} {x : DataW H × List MemPlace} (h : DataW.trod enc Try.prog W base sp held fuel 33 cs = some x) : ∃ r : sl.Sz, cs = [.int .i64 r.k, .int .i64 r.n] := by
  obtain ⟨y0, y1, n, _, hl, h0, h1⟩ := trod_struct2 Try.underlying33 h
  rw [cellsSize] at hl
  match cs, hl with
  | [c0, c1], _ =>
    obtain ⟨a0, e0, _⟩ := DataW.trod_int Try.underlying3 h0
    obtain ⟨a1, e1, _⟩ := DataW.trod_int Try.underlying3 h1
    simp [cellsInt] at e0 e1
    subst e0 e1
    exact ⟨⟨a0, a1⟩, rfl⟩
/-- sizes among the arguments -/
theorem open_sizes_in {W : World} {base b0 : Nat} {held : Bool} {r : Reach} {v : Value} {d : DataW H} {p : List MemPlace} (hv : Value.okWide Try.prog W r b0 22 v) (h : DataW.Trod enc Try.prog W base (fun _ => true) held 22 v d p) :
    ∃ o n cap L, v = .slice o n cap ∧ SzIn W o n cap L := by
  obtain ⟨a, n, cap, rfl⟩ := okWide_slice Try.underlying22 hv
  obtain ⟨fuel, hf⟩ := h
  rcases open_slice Try.underlying22 hf with ⟨hcs, hx⟩ | ⟨a', len, cap', m, k, D, Pl, hcs, _, hl, hm, hmm, hx, hall⟩
  · simp [Value.cells] at hcs
    obtain ⟨rfl, rfl, rfl⟩ := hcs
    exact ⟨none, 0, 0, [], rfl, ⟨rfl, Nat.le_refl _, Nat.zero_le _, .inl rfl⟩⟩
  · simp [Value.cells] at hcs
    obtain ⟨rfl, rfl, rfl⟩ := hcs
    simp only [if_true] at hmm
    subst hmm
    rw [cellsSize] at hall
    by_cases h0 : n = 0
    · subst h0
      exact ⟨_, 0, m, [], rfl, ⟨rfl, hl, hm, .inl rfl⟩⟩
    · obtain ⟨R, hR⟩ := choose_lt (α := sl.Sz) (n := m) (p := fun i r => ∀ j, j < 2 → W.cell? ((a'.add (i * 2)).add j) = ([.int .i64 r.k, .int .i64 r.n] : List Value)[j]?) (fun i hi => by
        obtain ⟨cs', h1, h2⟩ := hall i hi
        obtain ⟨r, rfl⟩ := size_cells h2
        exact ⟨r, (World.cells?_some h1).2.2⟩)
      have hsp : ∃ b off, a' = ⟨b, off, none⟩ := by
        obtain ⟨b, off, spot⟩ := a'
        have := World.cell?_spot (v := .int .i64 (R 0).k) (by rw [hR 0 (by omega) 0 (by decide)]; rfl)
        have hspot : spot = none := by simpa [Addr.add] using this
        subst hspot
        exact ⟨b, off, rfl⟩
      obtain ⟨b, off, rfl⟩ := hsp
      have hc : ∀ i, i < m → ∀ j, j < 2 → W.cell? ⟨b, off + i * 2 + j, none⟩ = ([.int .i64 (R i).k, .int .i64 (R i).n] : List Value)[j]? := fun i hi j hj => by
        rw [← hR i hi j hj, Go.WideShapes.add_plain, Go.WideShapes.add_plain]
      refine ⟨_, n, m, (List.range n).map R, rfl, ⟨by simp, hl, hm, .inr ⟨b, off, rfl, ?_, fun t ht => ?_⟩⟩⟩
      · exact cell_lt (a := ⟨b, off + 0 * 2 + 0, none⟩) (v := .int .i64 (R 0).k) (by rw [hc 0 (by omega) 0 (by decide)]; rfl)
      · have e : ((List.range n).map R).getD t sl.z0 = R t := by simp [List.getD, ht]
        rw [e]
        exact ⟨hc t (by omega) 0 (by decide), hc t (by omega) 1 (by decide)⟩
end
end Go.Proofs.Yteilaoiimlpbkaa
