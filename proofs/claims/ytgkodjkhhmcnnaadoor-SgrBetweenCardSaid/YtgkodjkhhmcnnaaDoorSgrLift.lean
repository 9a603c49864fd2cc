/- From a walk to a row, and to its tied card: what each law's proof needs of the form, once for all laws of layer 5. -/
import Derived.Test.YtgkodjkhhmcnnaaDoorCards
import Derived.Test.YtgkodjkhhmcnnaaDoorTie
import Derived.Test.YtgkodjkhhmcnnaaDoorSgrApply
import Derived.SizedLaws
import Derived.SliceStrings
import Derived.Deep.DeepHandedRow
import Derived.Lib.LaidU8
import Derived.LaidMore
namespace Go.Proofs.YtgkodjkhhmcnnaaDoor.S5
open Go.ChangeShapes Go.WideShapes Go.ChangeAt Go.RowKit Go.Joins

theorem own : ownKnob Tryd.prog.godebug = none := by kernel_rfl
theorem laid : laidOutB Tryd.prog = true := by kernel_rfl
theorem cellsStyle : Tryd.prog.cellsOf 48 = 3 := by kernel_rfl
theorem cellsInt : Tryd.prog.cellsOf 3 = 1 := by kernel_rfl
theorem i64_of_wf {x : Int} (h : (Lit.int .i64 x).wf = true) : I64 x := by
  simp [Lit.wf, IntKind.min, IntKind.max, IntKind.signed, IntKind.bits] at h
  exact ⟨by omega, by omega⟩

/-- types that can be read -/
def TsOk : List TypeId → Prop
  | [] => True
  | t :: ts => (Tryd.prog.readableRec t = true ∧ t < Tryd.prog.types.size) ∧ TsOk ts
theorem okInt : Tryd.prog.readableRec 3 = true ∧ 3 < Tryd.prog.types.size := ⟨by kernel_rfl, of_decide_eq_true (by kernel_rfl)⟩
theorem okStyle : Tryd.prog.readableRec 48 = true ∧ 48 < Tryd.prog.types.size := ⟨by kernel_rfl, of_decide_eq_true (by kernel_rfl)⟩
theorem okInts : Tryd.prog.readableRec 43 = true ∧ 43 < Tryd.prog.types.size := ⟨by kernel_rfl, of_decide_eq_true (by kernel_rfl)⟩
theorem cell_lt {W : World} {a : Addr} {v : Value} (h : W.cell? a = some v) : a.block < W.heap.size := World.block_lt_of_cell? W a h

section
variable {H : Type} {enc : TypeId × Value → H}
/-- arguments read behind a call that has changed nothing old as they read ahead of it -/
theorem args_below {W W' : World} (hb : Below W.heap.size W W') : ∀ (ts : List TypeId) (vs : List Value) (ds : List (DataW H)) (ps : List MemPlace),
    TsOk ts → (∀ x ∈ ps, x.block < W.heap.size) → DataW.TrodAll enc Tryd.prog W 0 (fun _ => true) true ts vs ds ps →
    DataW.TrodAll enc Tryd.prog W' 0 (fun b => decide (b < W.heap.size)) true ts vs ds ps
  | [], _, _, _, _, _, h => by
    obtain ⟨rfl, rfl, rfl⟩ := trodAll_nil h
    exact trodAll_mk0
  | t :: ts, vs, ds, ps, ht, hp, h => by
    obtain ⟨v, vs', d, ds', p, q, rfl, rfl, rfl, h0, hr⟩ := trodAll_cons h
    exact trodAll_cons_mk (Below.trod laid ht.1.1 ht.1.2 h0 hb (fun x hx => hp x (List.mem_append.2 (.inl hx)))) (args_below hb ts vs' ds' q ht.2 (fun x hx => hp x (List.mem_append.2 (.inr hx))) hr)

set_option maxRecDepth 100000 in
/-- a style among the arguments -/
theorem open_style {W : World} {base b0 : Nat} {sp : Nat → Bool} {held : Bool} {r : Reach} {v : Value} {d : DataW H} {p : List MemPlace} (hv : Value.okWide Tryd.prog W r b0 48 v) (h : DataW.Trod enc Tryd.prog W base sp held 48 v d p) :
    ∃ x y z : Int, v = .agg #[.int .i64 x, .int .i64 y, .int .i64 z] ∧ I64 x ∧ I64 y ∧ I64 z := by
  obtain ⟨c0, c1, c2, y0, y1, y2, m, rfl, rfl, rfl, t0, t1, t2⟩ := open_agg3 Tryd.underlying48 (by kernel_rfl) cellsStyle hv h
  obtain ⟨a0, e0, _, w0⟩ := DataW.trod_int Tryd.underlying3 t0
  obtain ⟨a1, e1, _, w1⟩ := DataW.trod_int Tryd.underlying3 t1
  obtain ⟨a2, e2, _, w2⟩ := DataW.trod_int Tryd.underlying3 t2
  simp at e0 e1 e2
  subst e0 e1 e2
  exact ⟨a0, a1, a2, rfl, i64_of_wf w0, i64_of_wf w1, i64_of_wf w2⟩
set_option maxRecDepth 100000 in
theorem open_i64 {W : World} {base b0 : Nat} {sp : Nat → Bool} {held : Bool} {r : Reach} {v : Value} {d : DataW H} {p : List MemPlace} (hv : Value.okWide Tryd.prog W r b0 3 v) (h : DataW.Trod enc Tryd.prog W base sp held 3 v d p) :
    ∃ x : Int, v = .int .i64 x ∧ I64 x := by
  obtain ⟨a, rfl, rfl, rfl, w⟩ := open_int Tryd.underlying3 hv h
  exact ⟨a, rfl, i64_of_wf w⟩
set_option maxRecDepth 100000 in
/-- a slice of numbers among the arguments -/
theorem open_ints_in {W : World} {base b0 : Nat} {held : Bool} {r : Reach} {v : Value} {d : DataW H} {p : List MemPlace} (hv : Value.okWide Tryd.prog W r b0 43 v) (h : DataW.Trod enc Tryd.prog W base (fun _ => true) held 43 v d p) :
    ∃ o n cap zs, v = .slice o n cap ∧ Ints W o n cap zs ∧ ∀ z ∈ zs, I64 z := by
  obtain ⟨a, n, cap, rfl⟩ := okWide_slice Tryd.underlying43 hv
  obtain ⟨fuel, hf⟩ := h
  rcases open_ints Tryd.underlying43 Tryd.underlying3 cellsInt hf with ⟨hcs, hx⟩ | ⟨a', len, cap', zs, hcs, _, hl, hm, hzl, hx, hcell, hwz⟩
  · simp [Value.cells] at hcs
    obtain ⟨rfl, rfl, rfl⟩ := hcs
    exact ⟨none, 0, 0, [], rfl, Ints.nil W, by simp⟩
  · simp [Value.cells] at hcs
    obtain ⟨rfl, rfl, rfl⟩ := hcs
    simp only [if_true] at hzl
    refine ⟨_, n, cap, zs.take n, rfl, ⟨by rw [List.length_take]; omega, hl, hm, ?_⟩, fun z hz => i64_of_wf (hwz z (List.mem_of_mem_take hz))⟩
    by_cases h0 : n = 0
    · exact .inl h0
    · right
      obtain ⟨b, off, rfl, hat⟩ := ints_at hcell (by omega)
      refine ⟨b, off, rfl, (cell_lt (hat 0 (by omega))), fun k hk => ?_⟩
      rw [hat k (by omega)]
      simp only [List.getD, List.getElem?_take, if_pos hk]
end

/-- the variables' cells -/
theorem gMarks : Tryd.prog.globalNamed "casement/sgr.marks" = some 0 := by kernel_rfl
theorem gTakes : Tryd.prog.globalNamed "casement/sgr.takes" = some 1 := by kernel_rfl
theorem tMarks : (Tryd.prog.globals[0]?).map (·.type) = some 76 := by kernel_rfl
theorem tTakes : (Tryd.prog.globals[1]?).map (·.type) = some 112 := by kernel_rfl
theorem cellsTakes : Tryd.prog.cellsOf 112 = 6 := by kernel_rfl
theorem cellsMark : Tryd.prog.cellsOf 75 = 3 := by kernel_rfl
theorem tabs_of_reads {W : World} (hm : Lib.VarReads Tryd.prog W "casement/sgr.marks" Rows.laid_casement_sgr_marks) (ht : Lib.VarReads Tryd.prog W "casement/sgr.takes" Rows.laid_casement_sgr_takes) : Tabs W := by
  constructor
  · obtain ⟨g, t, cs, fuel, p, hg, hty, hv, hd⟩ := hm
    obtain rfl := Option.some.inj (gMarks.symm.trans hg)
    obtain rfl := Option.some.inj (tMarks.symm.trans hty)
    have key : ∀ i, i < 5 → ∀ j, j < 3 → W.cell? ⟨0, i * 3 + j, none⟩ = some (.int .i64 ([1, 1, 22, 2, 2, 22, 4, 3, 23, 8, 4, 24, 16, 7, 27].getD (i * 3 + j) 0)) := by
      intro i hi j hj
      obtain ⟨fuel', d, q, hdi, htr⟩ := Lib.array_elem Tryd.underlying76 hd i hi
      rw [cellsMark] at htr
      have fin : ∀ a b c : Int, d = .agg [.lit (.int .i64 a), .lit (.int .i64 b), .lit (.int .i64 c)] → W.cell? ⟨0, i * 3 + j, none⟩ = some (.int .i64 ([a, b, c].getD j 0)) := by
        intro a b c he
        subst he
        have hcs := Lib.ints_of_struct (zs := [a, b, c]) Tryd.underlying75 (by
          intro k f hk
          match k, hk with
          | 0, hk => simp at hk; subst hk; exact ⟨Tryd.underlying3, rfl, cellsInt⟩
          | 1, hk => simp at hk; subst hk; exact ⟨Tryd.underlying3, rfl, cellsInt⟩
          | 2, hk => simp at hk; subst hk; exact ⟨Tryd.underlying3, rfl, cellsInt⟩) cellsMark htr
        have h1 := World.var?_cell hg hv (i * 3 + j)
        rw [h1]
        have h2 := congrArg (·[j]?) hcs
        simp only [List.getElem?_take, if_pos hj, List.getElem?_drop] at h2
        rw [← Array.getElem?_toList, h2]
        match j, hj with
        | 0, _ => rfl
        | 1, _ => rfl
        | 2, _ => rfl
      match i, hi, hdi with
      | 0, _, hdi => have := fin 1 1 22 (by simpa using hdi.symm); rw [this]; match j, hj with
        | 0, _ => rfl
        | 1, _ => rfl
        | 2, _ => rfl
      | 1, _, hdi => have := fin 2 2 22 (by simpa using hdi.symm); rw [this]; match j, hj with
        | 0, _ => rfl
        | 1, _ => rfl
        | 2, _ => rfl
      | 2, _, hdi => have := fin 4 3 23 (by simpa using hdi.symm); rw [this]; match j, hj with
        | 0, _ => rfl
        | 1, _ => rfl
        | 2, _ => rfl
      | 3, _, hdi => have := fin 8 4 24 (by simpa using hdi.symm); rw [this]; match j, hj with
        | 0, _ => rfl
        | 1, _ => rfl
        | 2, _ => rfl
      | 4, _, hdi => have := fin 16 7 27 (by simpa using hdi.symm); rw [this]; match j, hj with
        | 0, _ => rfl
        | 1, _ => rfl
        | 2, _ => rfl
    intro k hk
    have := key (k / 3) (by omega) (k % 3) (by omega)
    rw [show k / 3 * 3 + k % 3 = k by omega] at this
    exact this
  · obtain ⟨g, t, cs, fuel, p, hg, hty, hv, hd⟩ := ht
    obtain rfl := Option.some.inj (gTakes.symm.trans hg)
    obtain rfl := Option.some.inj (tTakes.symm.trans hty)
    have hcs := Lib.cells_of_tab (zs := [0, 0, 3, 0, 0, 1]) Tryd.underlying112 Tryd.underlying3 cellsInt cellsTakes hd
    intro k hk
    have h1 := World.var?_cell hg hv k
    rw [h1, ← Array.getElem?_toList, hcs]
    match k, hk with
    | 0, _ => rfl
    | 1, _ => rfl
    | 2, _ => rfl
    | 3, _ => rfl
    | 4, _ => rfl
    | 5, _ => rfl
end Go.Proofs.YtgkodjkhhmcnnaaDoor.S5
