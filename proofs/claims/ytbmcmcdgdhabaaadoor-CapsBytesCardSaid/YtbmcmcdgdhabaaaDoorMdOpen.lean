/- Arguments opened: bytes, numbers, modules. -/
import Derived.Test.YtbmcmcdgdhabaaaDoorMdMem
import Derived.SizedLaws
import Derived.SliceStrings
import Derived.Deep.Slices
import Derived.Deep.Strs
import Derived.Lib.SmallJoins
namespace Go.Proofs.YtbmcmcdgdhabaaaDoor
open Go.ChangeShapes Go.WideShapes Go.ChangeAt Go.RowKit Go.Joins Go.Deep

theorem own : ownKnob Tryd.prog.godebug = none := by kernel_rfl
theorem laid : laidOutB Tryd.prog = true := by kernel_rfl
/-- types that can be read -/
def TsOk : List TypeId → Prop
  | [] => True
  | t :: ts => (Tryd.prog.readableRec t = true ∧ t < Tryd.prog.types.size) ∧ TsOk ts
theorem okInt : Tryd.prog.readableRec 3 = true ∧ 3 < Tryd.prog.types.size := ⟨by kernel_rfl, of_decide_eq_true (by kernel_rfl)⟩
theorem okInt64 : Tryd.prog.readableRec 2 = true ∧ 2 < Tryd.prog.types.size := ⟨by kernel_rfl, of_decide_eq_true (by kernel_rfl)⟩
theorem okMod : Tryd.prog.readableRec 54 = true ∧ 54 < Tryd.prog.types.size := ⟨by kernel_rfl, of_decide_eq_true (by kernel_rfl)⟩
theorem cellsInt : Tryd.prog.cellsOf 3 = 1 := by kernel_rfl
theorem cellsInt64 : Tryd.prog.cellsOf 2 = 1 := by kernel_rfl
theorem cellsByte : Tryd.prog.cellsOf 5 = 1 := by kernel_rfl
theorem cellsIns : Tryd.prog.cellsOf 58 = 2 := by kernel_rfl
theorem cellsInss : Tryd.prog.cellsOf 64 = 1 := by kernel_rfl
theorem cellsFn : Tryd.prog.cellsOf 66 = 4 := by kernel_rfl
theorem cellsMod : Tryd.prog.cellsOf 54 = 3 := by kernel_rfl
theorem cell_lt {W : World} {a : Addr} {v : Value} (h : W.cell? a = some v) : a.block < W.heap.size := World.block_lt_of_cell? W a h
theorem i64_of_wf {x : Int} (h : (Lit.int .i64 x).wf = true) : md.i64 x := by
  simp [Lit.wf, IntKind.min, IntKind.max, IntKind.signed, IntKind.bits] at h
  exact ⟨by omega, by omega⟩
theorem u8_of_wf {x : Int} (h : (Lit.int .u8 x).wf = true) : 0 ≤ x ∧ x ≤ 255 := by
  simp [Lit.wf, IntKind.min, IntKind.max, IntKind.signed, IntKind.bits] at h
  exact ⟨by omega, by omega⟩
theorem flat_at (L : Nat → List Value) (k : Nat) (hk : 0 < k) : ∀ (n : Nat), (∀ i, i < n → (L i).length = k) → ∀ (j : Nat), j < n * k → ((List.range n).flatMap L)[j]? = (L (j / k))[j % k]?
  | 0, _, j, h => by simp at h
  | n + 1, hL, j, h => by
    have hlen : ((List.range n).flatMap L).length = n * k := by
      rw [List.length_flatMap]
      have : (List.range n).map (fun i => (L i).length) = List.replicate n k := by
        apply List.ext_getElem (by simp)
        intro i h1 h2
        simp at h1
        simp [hL i (by omega)]
      rw [this]
      simp
    rw [List.range_succ, List.flatMap_append, List.flatMap_cons, List.flatMap_nil, List.append_nil]
    by_cases hj : j < n * k
    · rw [List.getElem?_append_left (by omega)]
      exact flat_at L k hk n (fun i hi => hL i (by omega)) j hj
    · rw [List.getElem?_append_right (by omega), hlen]
      have e1 : j / k = n := by
        rw [Nat.succ_mul] at h
        exact Nat.div_eq_of_lt_le (by omega) (by rw [Nat.succ_mul]; omega)
      have e2 : j % k = j - n * k := by
        have := Nat.div_add_mod j k
        rw [e1, Nat.mul_comm] at this
        omega
      rw [e1, e2]
theorem flat_len (L : Nat → List Value) (k n : Nat) (hL : ∀ i, i < n → (L i).length = k) : ((List.range n).flatMap L).length = n * k := by
  rw [List.length_flatMap]
  have : (List.range n).map (fun i => (L i).length) = List.replicate n k := by
    apply List.ext_getElem (by simp)
    intro i h1 h2
    simp at h1
    simp [hL i (by omega)]
  rw [this]
  simp
section
variable {H : Type} {enc : TypeId × Value → H}
/-- arguments read behind a call that has changed nothing old as they read ahead of it -/
theorem args_below {W W' : World} (hb : Below W.heap.size W W') : ∀ (ts : List TypeId) (vs : List Value) (ds : List (DataW H)) (ps : List MemPlace),
    TsOk ts → (∀ x ∈ ps, x.block < W.heap.size) → DataW.TrodAll enc Tryd.prog W 0 (fun _ => true) true ts vs ds ps →
    DataW.TrodAll enc Tryd.prog W' 0 (fun b => decide (b < W.heap.size)) true ts vs ds ps
  | [], _, _, _, _, _, h => by
    obtain ⟨rfl, rfl, rfl⟩ := trodAll_nil h
    exact trodAll_mk0
  | t :: ts, vs, ds, ps, ht, hp, h => by
    obtain ⟨v, vs', d, ds', p, q, rfl, rfl, rfl, h0, hr⟩ := trodAll_cons h
    exact trodAll_cons_mk (Below.trod laid ht.1.1 ht.1.2 h0 hb (fun x hx => hp x (List.mem_append.2 (.inl hx)))) (args_below hb ts vs' ds' q ht.2 (fun x hx => hp x (List.mem_append.2 (.inr hx))) hr)
set_option maxRecDepth 100000 in
/-- a row: where it lies, and its things' cells -/
theorem open_row {T E : TypeId} {k : Nat} (hT : Tryd.prog.underlying T = some (.slice E)) (hk : Tryd.prog.cellsOf E = k) (h0 : 0 < k) {W : World} {base : Nat} {held : Bool} {fuel : Nat} {cs : List Value} {x : DataW H × List MemPlace} (h : DataW.trod enc Tryd.prog W base (fun _ => true) held fuel T cs = some x) :
    ∃ (V : Value) (n : Nat) (L : Nat → List Value), cs = [V] ∧ RowIn W (fun b => b < W.heap.size) V k n ((List.range n).flatMap L) ∧ ∀ i, i < n → (L i).length = k ∧ ∃ fuel y, DataW.trod enc Tryd.prog W base (fun _ => true) held fuel E (L i) = some y := by
  rcases open_slice hT h with ⟨rfl, -⟩ | ⟨a, n, m, m', f, D, Pl, rfl, _, hl, hm, hmm, -, hall⟩
  · exact ⟨_, 0, fun _ => [], rfl, RowIn.nil _ _ _, fun i hi => by omega⟩
  · simp only [if_true] at hmm
    subst hmm
    rw [hk] at hall
    by_cases hn : n = 0
    · subst hn
      exact ⟨_, 0, fun _ => [], rfl, ⟨_, _, rfl, hl, hm, by simp, .inl rfl⟩, fun i hi => by omega⟩
    obtain ⟨L, hL⟩ := choose_lt (α := List Value) (n := n) (p := fun i r => r.length = k ∧ (∀ j, j < k → W.cell? ((a.add (i * k)).add j) = r[j]?) ∧ ∃ fuel y, DataW.trod enc Tryd.prog W base (fun _ => true) held fuel E r = some y) (fun i hi => by
      obtain ⟨cs', h1, h2⟩ := hall i (by omega)
      obtain ⟨_, g2, g3⟩ := World.cells?_some h1
      exact ⟨cs', g2, g3, _, _, h2⟩)
    have hsp : ∃ b off, a = ⟨b, off, none⟩ := by
      obtain ⟨b, off, spot⟩ := a
      obtain ⟨g1, g2, -⟩ := hL 0 (by omega)
      have hv : ∃ v, (L 0)[0]? = some v := ⟨(L 0)[0]'(by omega), List.getElem?_eq_getElem (by omega)⟩
      obtain ⟨v, hv⟩ := hv
      have := World.cell?_spot (v := v) ((g2 0 h0).trans hv)
      have hspot : spot = none := by simpa [Addr.add] using this
      subst hspot
      exact ⟨b, off, rfl⟩
    obtain ⟨b, off, rfl⟩ := hsp
    have hcell : ∀ j v, ((List.range n).flatMap L)[j]? = some v → W.cell? ⟨b, off + j, none⟩ = some v := fun j v hv => by
      have hjl := (List.getElem?_eq_some_iff.1 hv).1
      rw [flat_len L k n (fun i hi => (hL i hi).1)] at hjl
      rw [flat_at L k h0 n (fun i hi => (hL i hi).1) j hjl] at hv
      have hi : j / k < n := (Nat.div_lt_iff_lt_mul h0).2 hjl
      have := (hL (j / k) hi).2.1 (j % k) (Nat.mod_lt _ h0)
      rw [addr_plain, addr_plain, hv] at this
      rw [← this]
      congr 2
      have := Nat.div_add_mod j k
      rw [Nat.mul_comm] at this
      omega
    refine ⟨_, n, L, rfl, ⟨_, _, rfl, hl, hm, flat_len L k n (fun i hi => (hL i hi).1), .inr ⟨b, off, rfl, ?_, ?_, hcell⟩⟩, fun i hi => ⟨(hL i hi).1, (hL i hi).2.2⟩⟩
    all_goals
      have hv : ∃ v, ((List.range n).flatMap L)[0]? = some v := ⟨_, List.getElem?_eq_getElem (by rw [flat_len L k n (fun i hi => (hL i hi).1)]; exact Nat.mul_pos (by omega) h0)⟩
      obtain ⟨v, hv⟩ := hv
      exact cell_lt (a := ⟨b, off + 0, none⟩) (hcell 0 v hv)
theorem open_bytes_at {W : World} {base : Nat} {held : Bool} {fuel : Nat} {cs : List Value} {x : DataW H × List MemPlace} (h : DataW.trod enc Tryd.prog W base (fun _ => true) held fuel 23 cs = some x) :
    ∃ V l, cs = [V] ∧ BsIn W (fun b => b < W.heap.size) V l := by
  obtain ⟨V, n, L, rfl, hr, hL⟩ := open_row Tryd.underlying23 cellsByte (by decide) h
  obtain ⟨R, hR⟩ := choose_lt (α := UInt8) (n := n) (p := fun i c => L i = [.int .u8 (c.toNat : Nat)]) (fun i hi => by
    obtain ⟨_, f, y, hy⟩ := hL i hi
    obtain ⟨a, e, -, hw⟩ := DataW.trod_int Tryd.underlying5 hy
    have := u8_of_wf hw
    refine ⟨UInt8.ofNat a.toNat, ?_⟩
    rw [e, md.u8_toNat (by omega)]
    congr 2
    omega)
  have e : (List.range n).flatMap L = byC ((List.range n).map R) := by
    unfold byC
    rw [List.map_map]
    clear hr
    induction n with
    | zero => rfl
    | succ n ih =>
      rw [List.range_succ, List.flatMap_append, List.map_append, ih (fun i hi => hL i (by omega)) (fun i hi => hR i (by omega))]
      simp [hR n (by omega)]
  refine ⟨V, (List.range n).map R, rfl, ?_⟩
  show RowIn _ _ _ _ ((List.range n).map R).length _
  rw [List.length_map, List.length_range, ← e]
  exact hr
instance : Inhabited md.Ins := ⟨⟨0, 0⟩⟩
instance : Inhabited md.Fn := ⟨⟨0, 0, 0, []⟩⟩
theorem open_code_at {W : World} {base : Nat} {held : Bool} {fuel : Nat} {cs : List Value} {x : DataW H × List MemPlace} (h : DataW.trod enc Tryd.prog W base (fun _ => true) held fuel 64 cs = some x) :
    ∃ V l, cs = [V] ∧ InsIn W (fun b => b < W.heap.size) V l ∧ md.codeI l := by
  obtain ⟨V, n, L, rfl, hr, hL⟩ := open_row Tryd.underlying64 cellsIns (by decide) h
  obtain ⟨R, hR⟩ := choose_lt (α := md.Ins) (n := n) (p := fun i c => L i = insC c ∧ md.i64 c.n) (fun i hi => by
    obtain ⟨hl, f, y, hy⟩ := hL i hi
    obtain ⟨y0, y1, _, _, _, h0, h1⟩ := trod_struct2 Tryd.underlying58 hy
    match hc : L i, hl with
    | [c0, c1], _ =>
      rw [hc] at h0 h1
      obtain ⟨a0, e0, -, -⟩ := DataW.trod_int Tryd.underlying3 h0
      obtain ⟨a1, e1, -, hw⟩ := DataW.trod_int Tryd.underlying2 h1
      simp [cellsInt, cellsInt64] at e0 e1
      subst e0 e1
      exact ⟨⟨a0, a1⟩, rfl, i64_of_wf hw⟩)
  have e : (List.range n).flatMap L = codeC ((List.range n).map R) := by
    unfold codeC
    rw [List.flatMap_map]
    clear hr
    induction n with
    | zero => rfl
    | succ n ih =>
      rw [List.range_succ, List.flatMap_append, List.flatMap_append, ih (fun i hi => hL i (by omega)) (fun i hi => hR i (by omega))]
      simp [(hR n (by omega)).1]
  refine ⟨V, (List.range n).map R, rfl, ?_, fun i hi => ?_⟩
  · show RowIn _ _ _ _ ((List.range n).map R).length _
    rw [List.length_map, List.length_range, ← e]
    exact hr
  · obtain ⟨j, hj, rfl⟩ := List.mem_map.1 hi
    exact (hR j (List.mem_range.1 hj)).2
theorem fnsC_of {W : World} {D : Nat → Prop} {R : Nat → md.Fn} {L : Nat → List Value} : ∀ l : List Nat, (∀ i ∈ l, FnC W D (R i) (L i)) → FnsC W D (l.map R) (l.flatMap L)
  | [], _ => rfl
  | i :: l, h => ⟨L i, l.flatMap L, by rw [List.flatMap_cons], h i (by simp), fnsC_of l fun j hj => h j (by simp [hj])⟩
theorem open_fns_at {W : World} {base : Nat} {held : Bool} {fuel : Nat} {cs : List Value} {x : DataW H × List MemPlace} (h : DataW.trod enc Tryd.prog W base (fun _ => true) held fuel 52 cs = some x) :
    ∃ V l, cs = [V] ∧ FnsIn W (fun b => b < W.heap.size) V l ∧ md.fnsI l := by
  obtain ⟨V, n, L, rfl, hr, hL⟩ := open_row Tryd.underlying52 cellsFn (by decide) h
  obtain ⟨R, hR⟩ := choose_lt (α := md.Fn) (n := n) (p := fun i f => FnC W (fun b => b < W.heap.size) f (L i) ∧ md.codeI f.code) (fun i hi => by
    obtain ⟨hl, f, y, hy⟩ := hL i hi
    obtain ⟨y0, y1, y2, y3, _, _, _, h0, h1, h2, h3⟩ := trod_struct4 Tryd.underlying66 hy
    match hc : L i, hl with
    | [c0, c1, c2, c3], _ =>
      rw [hc] at h0 h1 h2 h3
      obtain ⟨a0, e0, -, -⟩ := DataW.trod_int Tryd.underlying3 h0
      obtain ⟨a1, e1, -, -⟩ := DataW.trod_int Tryd.underlying3 h1
      obtain ⟨a2, e2, -, -⟩ := DataW.trod_int Tryd.underlying3 h2
      obtain ⟨VC, l, e3, hi3, hw3⟩ := open_code_at h3
      simp [cellsInt, cellsInss] at e0 e1 e2 e3
      subst e0 e1 e2 e3
      exact ⟨⟨a0, a1, a2, l⟩, ⟨_, rfl, hi3⟩, hw3⟩)
  refine ⟨V, (List.range n).map R, rfl, ⟨(List.range n).flatMap L, ?_, fnsC_of _ fun i hi => (hR i (List.mem_range.1 hi)).1⟩, fun f hf => ?_⟩
  · rw [List.length_map, List.length_range]
    exact hr
  · obtain ⟨j, hj, rfl⟩ := List.mem_map.1 hf
    exact (hR j (List.mem_range.1 hj)).2
set_option maxRecDepth 100000 in
/-- a module among the arguments -/
theorem open_mod {W : World} {base b0 : Nat} {held : Bool} {r : Reach} {v : Value} {d : DataW H} {p : List MemPlace} (hv : Value.okWide Tryd.prog W r b0 54 v) (h : DataW.Trod enc Tryd.prog W base (fun _ => true) held 54 v d p) :
    ∃ m VD VF, v = modV m VD VF ∧ ModIn W (fun b => b < W.heap.size) VD VF m ∧ md.fnsI m.funcs := by
  obtain ⟨v0, v1, v2, y0, y1, y2, n, rfl, -, -, h0, h1, h2⟩ := open_agg3 Tryd.underlying54 (by kernel_rfl) cellsMod hv h
  obtain ⟨a0, e0, -, -⟩ := DataW.trod_int Tryd.underlying3 h0
  obtain ⟨VD, dl, e1, hd⟩ := open_bytes_at h1
  obtain ⟨VF, fs, e2, hf, hi⟩ := open_fns_at h2
  simp at e0 e1 e2
  subst e0 e1 e2
  exact ⟨⟨a0, dl, fs⟩, _, _, rfl, ⟨hd, hf⟩, hi⟩
end
end Go.Proofs.YtbmcmcdgdhabaaaDoor
