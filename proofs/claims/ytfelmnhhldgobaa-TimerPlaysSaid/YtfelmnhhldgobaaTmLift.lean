/- From a walk to a row: what each law's proof needs of the form, once for all laws of layer 17. -/
import Derived.Test.YtfelmnhhldgobaaTmAlive
import Derived.SizedLaws
import Derived.SliceStrings
import Derived.Deep.Slices
import Derived.Deep.Strs
import Derived.Lib.SmallJoins
namespace Go.Proofs.Ytfelmnhhldgobaa
open Go.ChangeShapes Go.WideShapes Go.ChangeAt Go.RowKit Go.Joins Go.Deep

theorem own : ownKnob Try.prog.godebug = none := by kernel_rfl
theorem laid : laidOutB Try.prog = true := by kernel_rfl
/-- types that can be read -/
def TsOk : List TypeId → Prop
  | [] => True
  | t :: ts => (Try.prog.readableRec t = true ∧ t < Try.prog.types.size) ∧ TsOk ts
theorem okInt64 : Try.prog.readableRec 2 = true ∧ 2 < Try.prog.types.size := ⟨by kernel_rfl, of_decide_eq_true (by kernel_rfl)⟩
theorem okInt64s : Try.prog.readableRec 54 = true ∧ 54 < Try.prog.types.size := ⟨by kernel_rfl, of_decide_eq_true (by kernel_rfl)⟩
theorem cellsInt64 : Try.prog.cellsOf 2 = 1 := by kernel_rfl
theorem cell_lt {W : World} {a : Addr} {v : Value} (h : W.cell? a = some v) : a.block < W.heap.size := World.block_lt_of_cell? W a h
theorem flat_at (L : Nat → List Value) (k : Nat) (hk : 0 < k) : ∀ (n : Nat), (∀ i, i < n → (L i).length = k) → ∀ (j : Nat), j < n * k → ((List.range n).flatMap L)[j]? = (L (j / k))[j % k]?
  | 0, _, j, h => by simp at h
  | n + 1, hL, j, h => by
    have hlen : ((List.range n).flatMap L).length = n * k := by
      rw [List.length_flatMap]
      have : (List.range n).map (fun i => (L i).length) = List.replicate n k := by
        apply List.ext_getElem (by simp)
        intro i h1 h2
        simp at h1
        simp [hL i (by omega)]
      rw [this]
      simp
    rw [List.range_succ, List.flatMap_append, List.flatMap_cons, List.flatMap_nil, List.append_nil]
    by_cases hj : j < n * k
    · rw [List.getElem?_append_left (by omega)]
      exact flat_at L k hk n (fun i hi => hL i (by omega)) j hj
    · rw [List.getElem?_append_right (by omega), hlen]
      have e1 : j / k = n := by
        rw [Nat.succ_mul] at h
        exact Nat.div_eq_of_lt_le (by omega) (by rw [Nat.succ_mul]; omega)
      have e2 : j % k = j - n * k := by
        have := Nat.div_add_mod j k
        rw [e1, Nat.mul_comm] at this
        omega
      rw [e1, e2]
theorem flat_len (L : Nat → List Value) (k n : Nat) (hL : ∀ i, i < n → (L i).length = k) : ((List.range n).flatMap L).length = n * k := by
  rw [List.length_flatMap]
  have : (List.range n).map (fun i => (L i).length) = List.replicate n k := by
    apply List.ext_getElem (by simp)
    intro i h1 h2
    simp at h1
    simp [hL i (by omega)]
  rw [this]
  simp
section
variable {H : Type} {enc : TypeId × Value → H}
/-- arguments read behind a call that has changed nothing old as they read ahead of it -/
theorem args_below {W W' : World} (hb : Below W.heap.size W W') : ∀ (ts : List TypeId) (vs : List Value) (ds : List (DataW H)) (ps : List MemPlace),
    TsOk ts → (∀ x ∈ ps, x.block < W.heap.size) → DataW.TrodAll enc Try.prog W 0 (fun _ => true) true ts vs ds ps →
    DataW.TrodAll enc Try.prog W' 0 (fun b => decide (b < W.heap.size)) true ts vs ds ps
  | [], _, _, _, _, _, h => by
    obtain ⟨rfl, rfl, rfl⟩ := trodAll_nil h
    exact trodAll_mk0
  | t :: ts, vs, ds, ps, ht, hp, h => by
    obtain ⟨v, vs', d, ds', p, q, rfl, rfl, rfl, h0, hr⟩ := trodAll_cons h
    exact trodAll_cons_mk (Below.trod laid ht.1.1 ht.1.2 h0 hb (fun x hx => hp x (List.mem_append.2 (.inl hx)))) (args_below hb ts vs' ds' q ht.2 (fun x hx => hp x (List.mem_append.2 (.inr hx))) hr)
set_option maxRecDepth 100000 in
/-- a row: where it lies, and its things' cells -/
theorem open_row {T E : TypeId} {k : Nat} (hT : Try.prog.underlying T = some (.slice E)) (hk : Try.prog.cellsOf E = k) (h0 : 0 < k) {W : World} {base : Nat} {held : Bool} {fuel : Nat} {cs : List Value} {x : DataW H × List MemPlace} (h : DataW.trod enc Try.prog W base (fun _ => true) held fuel T cs = some x) :
    ∃ (V : Value) (n : Nat) (L : Nat → List Value), cs = [V] ∧ RowIn W (fun b => b < W.heap.size) V k n ((List.range n).flatMap L) ∧ ∀ i, i < n → (L i).length = k ∧ ∃ fuel y, DataW.trod enc Try.prog W base (fun _ => true) held fuel E (L i) = some y := by
  rcases open_slice hT h with ⟨rfl, -⟩ | ⟨a, n, m, m', f, D, Pl, rfl, _, hl, hm, hmm, -, hall⟩
  · exact ⟨_, 0, fun _ => [], rfl, RowIn.nil _ _ _, fun i hi => by omega⟩
  · simp only [if_true] at hmm
    subst hmm
    rw [hk] at hall
    by_cases hn : n = 0
    · subst hn
      exact ⟨_, 0, fun _ => [], rfl, ⟨_, _, rfl, hl, hm, by simp, .inl rfl⟩, fun i hi => by omega⟩
    obtain ⟨L, hL⟩ := choose_lt (α := List Value) (n := n) (p := fun i r => r.length = k ∧ (∀ j, j < k → W.cell? ((a.add (i * k)).add j) = r[j]?) ∧ ∃ fuel y, DataW.trod enc Try.prog W base (fun _ => true) held fuel E r = some y) (fun i hi => by
      obtain ⟨cs', h1, h2⟩ := hall i (by omega)
      obtain ⟨_, g2, g3⟩ := World.cells?_some h1
      exact ⟨cs', g2, g3, _, _, h2⟩)
    have hsp : ∃ b off, a = ⟨b, off, none⟩ := by
      obtain ⟨b, off, spot⟩ := a
      obtain ⟨g1, g2, -⟩ := hL 0 (by omega)
      have hv : ∃ v, (L 0)[0]? = some v := ⟨(L 0)[0]'(by omega), List.getElem?_eq_getElem (by omega)⟩
      obtain ⟨v, hv⟩ := hv
      have := World.cell?_spot (v := v) ((g2 0 h0).trans hv)
      have hspot : spot = none := by simpa [Addr.add] using this
      subst hspot
      exact ⟨b, off, rfl⟩
    obtain ⟨b, off, rfl⟩ := hsp
    have hcell : ∀ j v, ((List.range n).flatMap L)[j]? = some v → W.cell? ⟨b, off + j, none⟩ = some v := fun j v hv => by
      have hjl := (List.getElem?_eq_some_iff.1 hv).1
      rw [flat_len L k n (fun i hi => (hL i hi).1)] at hjl
      rw [flat_at L k h0 n (fun i hi => (hL i hi).1) j hjl] at hv
      have hi : j / k < n := (Nat.div_lt_iff_lt_mul h0).2 hjl
      have := (hL (j / k) hi).2.1 (j % k) (Nat.mod_lt _ h0)
      rw [addr_plain, addr_plain, hv] at this
      rw [← this]
      congr 2
      have := Nat.div_add_mod j k
      rw [Nat.mul_comm] at this
      omega
    refine ⟨_, n, L, rfl, ⟨_, _, rfl, hl, hm, flat_len L k n (fun i hi => (hL i hi).1), .inr ⟨b, off, rfl, ?_, ?_, hcell⟩⟩, fun i hi => ⟨(hL i hi).1, (hL i hi).2.2⟩⟩
    all_goals
      have hv : ∃ v, ((List.range n).flatMap L)[0]? = some v := ⟨_, List.getElem?_eq_getElem (by rw [flat_len L k n (fun i hi => (hL i hi).1)]; exact Nat.mul_pos (by omega) h0)⟩
      obtain ⟨v, hv⟩ := hv
      exact cell_lt (a := ⟨b, off + 0, none⟩) (hcell 0 v hv)
theorem flat_one {α : Type} (f : α → Value) (n : Nat) (L : Nat → List Value) (R : Nat → α) (h : ∀ i, i < n → L i = [f (R i)]) : (List.range n).flatMap L = ((List.range n).map R).map f := by
  induction n with
  | zero => rfl
  | succ n ih =>
    rw [List.range_succ, List.flatMap_append, List.map_append, List.map_append, ih (fun i hi => h i (by omega))]
    simp [h n (by omega)]
set_option maxRecDepth 100000 in
theorem open_int64s_in {W : World} {base b0 : Nat} {held : Bool} {r : Reach} {v : Value} {d : DataW H} {p : List MemPlace} (hv : Value.okWide Try.prog W r b0 54 v) (h : DataW.Trod enc Try.prog W base (fun _ => true) held 54 v d p) :
    ∃ l, NsIn W (fun b => b < W.heap.size) v l := by
  obtain ⟨a, n, cap, rfl⟩ := okWide_slice Try.underlying54 hv
  obtain ⟨fuel, hf⟩ := h
  obtain ⟨V, n, L, e, hr, hL⟩ := open_row Try.underlying54 cellsInt64 (by decide) hf
  simp [Value.cells] at e
  subst e
  obtain ⟨R, hR⟩ := choose_lt (α := Int) (n := n) (p := fun i c => L i = [.int .i64 c]) (fun i hi => by
    obtain ⟨_, f, y, hy⟩ := hL i hi
    obtain ⟨a, e, -, hw⟩ := DataW.trod_int Try.underlying2 hy
    exact ⟨a, e⟩)
  refine ⟨(List.range n).map R, ?_⟩
  show RowIn _ _ _ _ ((List.range n).map R).length (((List.range n).map R).map fun x => Value.int .i64 x)
  rw [List.length_map, List.length_range, ← flat_one (fun x => Value.int .i64 x) n L R hR]
  exact hr
end
end Go.Proofs.Ytfelmnhhldgobaa
