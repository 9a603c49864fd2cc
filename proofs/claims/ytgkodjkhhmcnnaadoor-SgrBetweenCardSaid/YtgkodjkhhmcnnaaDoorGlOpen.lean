/- Arguments and tables opened: what each law's proof needs of the form, once for all seats. -/
import Derived.Test.YtgkodjkhhmcnnaaDoorCards
import Derived.Test.YtgkodjkhhmcnnaaDoorTie
import Derived.Test.YtgkodjkhhmcnnaaDoorGlLit
import Derived.SizedLaws
import Derived.SliceStrings
import Derived.Deep.DeepHandedRow
import Derived.Lib.LaidU8
import Derived.LaidMore
import GoSem.PinnedTables
import Derived.KernelRfl
import Derived.Lib.SmallJoins
namespace Go.Proofs.YtgkodjkhhmcnnaaDoor
open Go.ChangeShapes Go.WideShapes Go.ChangeAt Go.RowKit Go.Joins

theorem own : ownKnob Tryd.prog.godebug = none := by kernel_rfl
theorem laid : laidOutB Tryd.prog = true := by kernel_rfl
theorem cellsInt : Tryd.prog.cellsOf 3 = 1 := by kernel_rfl
theorem cellsByte : Tryd.prog.cellsOf 5 = 1 := by kernel_rfl
theorem bytesRune : Tryd.prog.bytesOf 21 = 4 := by kernel_rfl
theorem i64_of_wf {x : Int} (h : (Lit.int .i64 x).wf = true) : I64 x := by
  simp [Lit.wf, IntKind.min, IntKind.max, IntKind.signed, IntKind.bits] at h
  exact ⟨by omega, by omega⟩
theorem u8_of_wf {x : Int} (h : (Lit.int .u8 x).wf = true) : 0 ≤ x ∧ x ≤ 255 := by
  simp [Lit.wf, IntKind.min, IntKind.max, IntKind.signed, IntKind.bits] at h
  exact ⟨by omega, by omega⟩

/-- types that can be read -/
def TsOk : List TypeId → Prop
  | [] => True
  | t :: ts => (Tryd.prog.readableRec t = true ∧ t < Tryd.prog.types.size) ∧ TsOk ts
theorem okInt : Tryd.prog.readableRec 3 = true ∧ 3 < Tryd.prog.types.size := ⟨by kernel_rfl, of_decide_eq_true (by kernel_rfl)⟩
theorem okByte : Tryd.prog.readableRec 5 = true ∧ 5 < Tryd.prog.types.size := ⟨by kernel_rfl, of_decide_eq_true (by kernel_rfl)⟩
theorem okRune : Tryd.prog.readableRec 21 = true ∧ 21 < Tryd.prog.types.size := ⟨by kernel_rfl, of_decide_eq_true (by kernel_rfl)⟩
theorem okInts : Tryd.prog.readableRec 43 = true ∧ 43 < Tryd.prog.types.size := ⟨by kernel_rfl, of_decide_eq_true (by kernel_rfl)⟩
theorem okBytes : Tryd.prog.readableRec 34 = true ∧ 34 < Tryd.prog.types.size := ⟨by kernel_rfl, of_decide_eq_true (by kernel_rfl)⟩
theorem okRunes : Tryd.prog.readableRec 69 = true ∧ 69 < Tryd.prog.types.size := ⟨by kernel_rfl, of_decide_eq_true (by kernel_rfl)⟩

section
variable {H : Type} {enc : TypeId × Value → H}
/-- arguments read behind a call that has changed nothing old as they read ahead of it -/
theorem args_below {W W' : World} (hb : Below W.heap.size W W') : ∀ (ts : List TypeId) (vs : List Value) (ds : List (DataW H)) (ps : List MemPlace),
    TsOk ts → (∀ x ∈ ps, x.block < W.heap.size) → DataW.TrodAll enc Tryd.prog W 0 (fun _ => true) true ts vs ds ps →
    DataW.TrodAll enc Tryd.prog W' 0 (fun b => decide (b < W.heap.size)) true ts vs ds ps
  | [], _, _, _, _, _, h => by
    obtain ⟨rfl, rfl, rfl⟩ := trodAll_nil h
    exact trodAll_mk0
  | t :: ts, vs, ds, ps, ht, hp, h => by
    obtain ⟨v, vs', d, ds', p, q, rfl, rfl, rfl, h0, hr⟩ := trodAll_cons h
    exact trodAll_cons_mk (Below.trod laid ht.1.1 ht.1.2 h0 hb (fun x hx => hp x (List.mem_append.2 (.inl hx)))) (args_below hb ts vs' ds' q ht.2 (fun x hx => hp x (List.mem_append.2 (.inr hx))) hr)
set_option maxRecDepth 100000 in
theorem open_i64 {W : World} {base b0 : Nat} {sp : Nat → Bool} {held : Bool} {r : Reach} {v : Value} {d : DataW H} {p : List MemPlace} (hv : Value.okWide Tryd.prog W r b0 3 v) (h : DataW.Trod enc Tryd.prog W base sp held 3 v d p) :
    ∃ x : Int, v = .int .i64 x ∧ I64 x := by
  obtain ⟨a, rfl, rfl, rfl, w⟩ := open_int Tryd.underlying3 hv h
  exact ⟨a, rfl, i64_of_wf w⟩
set_option maxRecDepth 100000 in
theorem open_u8 {W : World} {base b0 : Nat} {sp : Nat → Bool} {held : Bool} {r : Reach} {v : Value} {d : DataW H} {p : List MemPlace} (hv : Value.okWide Tryd.prog W r b0 5 v) (h : DataW.Trod enc Tryd.prog W base sp held 5 v d p) :
    ∃ x : UInt8, v = .int .u8 x.toNat := by
  obtain ⟨a, rfl, rfl, rfl, w⟩ := open_int Tryd.underlying5 hv h
  have := u8_of_wf w
  exact ⟨UInt8.ofNat a.toNat, by rw [UInt8.toNat_ofNat']; congr 1; omega⟩
set_option maxRecDepth 100000 in
theorem open_nums_in {K : IntKind} {T E : TypeId} {W : World} {base b0 : Nat} {held : Bool} {r : Reach} {v : Value} {d : DataW H} {p : List MemPlace} (hT : Tryd.prog.underlying T = some (.slice E)) (hE : Tryd.prog.underlying E = some (.int K)) (hc : Tryd.prog.cellsOf E = 1)
    (hv : Value.okWide Tryd.prog W r b0 T v) (h : DataW.Trod enc Tryd.prog W base (fun _ => true) held T v d p) :
    ∃ o n cap zs, v = .slice o n cap ∧ Nums K W o n cap zs ∧ (∀ z ∈ zs, (Lit.int K z).wf = true) ∧ sliceLen d = n := by
  obtain ⟨a, n, cap, rfl⟩ := okWide_slice hT hv
  obtain ⟨fuel, hf⟩ := h
  have hl' := sliceLen_trod hT (by simpa [Value.cells] using hf)
  rcases open_ints hT hE hc hf with ⟨hcs, hx⟩ | ⟨a', len, cap', zs, hcs, _, hl, hm, hzl, hx, hcell, hwz⟩
  · simp [Value.cells] at hcs
    obtain ⟨rfl, rfl, rfl⟩ := hcs
    exact ⟨none, 0, 0, [], rfl, Nums.nil _ W, by simp, hl'⟩
  · simp [Value.cells] at hcs
    obtain ⟨rfl, rfl, rfl⟩ := hcs
    simp only [if_true] at hzl
    refine ⟨_, n, cap, zs.take n, rfl, ⟨by rw [List.length_take]; omega, hl, hm, ?_⟩, fun z hz => hwz z (List.mem_of_mem_take hz), hl'⟩
    by_cases h0 : n = 0
    · exact .inl h0
    · right
      obtain ⟨b, off, rfl, hat⟩ := ints_at hcell (by omega)
      refine ⟨b, off, rfl, cell_lt (hat 0 (by omega)), fun k hk => ?_⟩
      rw [hat k (by omega)]
      simp only [List.getD, List.getElem?_take, if_pos hk]
set_option maxRecDepth 100000 in
theorem open_ints_in {W : World} {base b0 : Nat} {held : Bool} {r : Reach} {v : Value} {d : DataW H} {p : List MemPlace} (hv : Value.okWide Tryd.prog W r b0 43 v) (h : DataW.Trod enc Tryd.prog W base (fun _ => true) held 43 v d p) :
    ∃ o n cap zs, v = .slice o n cap ∧ (Nums .i64 W o n cap zs ∧ ∀ z ∈ zs, I64 z) ∧ sliceLen d = n := by
  obtain ⟨o, n, cap, zs, rfl, h1, h2, h3⟩ := open_nums_in Tryd.underlying43 Tryd.underlying3 cellsInt hv h
  exact ⟨o, n, cap, zs, rfl, ⟨h1, fun z hz => i64_of_wf (h2 z hz)⟩, h3⟩
theorem u8s_back (zs : List Int) (h : ∀ z ∈ zs, 0 ≤ z ∧ z ≤ 255) : u8s (zs.map fun z => UInt8.ofNat z.toNat) = zs := by
  unfold u8s
  rw [List.map_map]
  have : ∀ z ∈ zs, ((fun x : UInt8 => (x.toNat : Int)) ∘ fun z : Int => UInt8.ofNat z.toNat) z = z := by
    intro z hz
    have := h z hz
    show ((UInt8.ofNat z.toNat).toNat : Int) = z
    rw [UInt8.toNat_ofNat']
    omega
  rw [List.map_congr_left this]
  simp
set_option maxRecDepth 100000 in
theorem open_bytes_in {W : World} {base b0 : Nat} {held : Bool} {r : Reach} {v : Value} {d : DataW H} {p : List MemPlace} (hv : Value.okWide Tryd.prog W r b0 34 v) (h : DataW.Trod enc Tryd.prog W base (fun _ => true) held 34 v d p) :
    ∃ o n cap zs, v = .slice o n cap ∧ Bts W o n cap zs ∧ sliceLen d = n := by
  obtain ⟨o, n, cap, zs, rfl, h1, h2, h3⟩ := open_nums_in Tryd.underlying34 Tryd.underlying5 cellsByte hv h
  refine ⟨o, n, cap, zs.map fun z => UInt8.ofNat z.toNat, rfl, ?_, h3⟩
  unfold Bts
  rw [u8s_back zs (fun z hz => u8_of_wf (h2 z hz))]
  exact h1
/-- what the form's reach says of a slice's length -/
theorem len_sized {P : Program} {ts : List TypeId} {ds : List (DataW H)} (h : (DataW.weightsEach P ts ds).all (· ≤ reachBytes) = true) {j : Nat} {t e : TypeId} {d : DataW H} (ht : ts[j]? = some t) (hd : ds[j]? = some d) (hu : P.underlying t = some (.slice e)) : sliceLen d * P.bytesOf e ≤ reachBytes := by
  cases d with
  | slice el sp =>
    have := sized_slice h ht hd hu
    have h2 : el.length * P.bytesOf e ≤ (el.length + sp.length) * P.bytesOf e := Nat.mul_le_mul (by omega) (Nat.le_refl _)
    show el.length * _ ≤ _
    omega
  | _ => simp [sliceLen]
/-- what the bound of the second form says of it -/
theorem bulk_one (d : DataW H) : 1 ≤ Rows.uptoBulk d := by
  cases d with
  | lit l => cases l <;> simp [Rows.uptoBulk]
  | nil => simp [Rows.uptoBulk]
  | ptr d => simp [Rows.uptoBulk]
  | slice elems spare => simp [Rows.uptoBulk]
  | agg parts => simp [Rows.uptoBulk]
  | iface t d => simp [Rows.uptoBulk]
  | map entries => simp [Rows.uptoBulk]
  | held h => simp [Rows.uptoBulk]
theorem bulk_len : ∀ l : List (DataW H), l.length ≤ Rows.uptoBulkAll l
  | [] => by simp [Rows.uptoBulkAll]
  | x :: r => by have := bulk_one x; have := bulk_len r; simp only [Rows.uptoBulkAll, List.length_cons]; omega
theorem bulk_part {d : DataW H} : ∀ {l : List (DataW H)}, d ∈ l → Rows.uptoBulk d ≤ Rows.uptoBulkAll l
  | x :: r, h => by
    simp only [Rows.uptoBulkAll]
    rcases List.mem_cons.1 h with rfl | h
    · omega
    · have := bulk_part h; omega
theorem bulk_slice (d : DataW H) : sliceLen d ≤ Rows.uptoBulk d := by
  cases d with
  | slice el sp => have := bulk_len el; simp only [Rows.uptoBulk, sliceLen]; omega
  | _ => simp [sliceLen]
theorem len_upto {l : List (DataW H)} (hk : Rows.uptoSmall H l = true) {d : DataW H} (hd : d ∈ l) : sliceLen d ≤ 1048576 := by
  have h1 : Rows.uptoBulkAll l ≤ 1048576 := of_decide_eq_true hk
  have h2 := bulk_part hd
  have h3 := bulk_slice d
  omega
end

/-- the tables' cells -/
theorem gFirst : Tryd.prog.globalNamed "unicode/utf8.first" = some 3 := by kernel_rfl
theorem gAccept : Tryd.prog.globalNamed "unicode/utf8.acceptRanges" = some 4 := by kernel_rfl
theorem tFirst : (Tryd.prog.globals[3]?).map (·.type) = some 29 := by kernel_rfl
theorem tAccept : (Tryd.prog.globals[4]?).map (·.type) = some 131 := by kernel_rfl
theorem cellsFirst : Tryd.prog.cellsOf 29 = 256 := by kernel_rfl
theorem cellsAccept : Tryd.prog.cellsOf 130 = 2 := by kernel_rfl
set_option maxRecDepth 100000 in
theorem first_eq : (Go.Pinned.utf8First : DataW Unit) = Lib.firstData := by kernel_rfl
set_option maxRecDepth 100000 in
theorem accept_eq : (Rows.laid_unicode_utf8_acceptRanges : DataW Unit) = Lib.acceptData := by kernel_rfl
theorem tabs_of_reads {w : World} (h3 : Lib.VarReads Tryd.prog w "unicode/utf8.first" Rows.laid_unicode_utf8_first) (h4 : Lib.VarReads Tryd.prog w "unicode/utf8.acceptRanges" Rows.laid_unicode_utf8_acceptRanges) : UTabs w := by
  rw [show Rows.laid_unicode_utf8_first = Lib.firstData from first_eq] at h3
  rw [accept_eq] at h4
  refine ⟨fun c hc => ?_, fun i hi => ?_⟩
  · obtain ⟨g, t, cs, fuel, p, hg, hty, hvar, hd⟩ := h3
    obtain rfl := Option.some.inj (gFirst.symm.trans hg)
    obtain rfl := Option.some.inj (tFirst.symm.trans hty)
    have hcs := Lib.cells_of_tab Tryd.underlying29 Tryd.underlying5 cellsByte cellsFirst hd
    have := World.var?_cell hg hvar c
    rw [this, ← Array.getElem?_toList, hcs]
    simp [Lib.firstTab, hc]
  · obtain ⟨g, t, cs, fuel, p, hg, hty, hvar, hd⟩ := h4
    obtain rfl := Option.some.inj (gAccept.symm.trans hg)
    obtain rfl := Option.some.inj (tAccept.symm.trans hty)
    obtain ⟨fuel', d, q, hdi, he⟩ := Lib.array_elem Tryd.underlying131 hd i hi
    simp only [List.getElem?_map, List.getElem?_range hi, Option.map_some, Option.some.injEq] at hdi
    subst hdi
    rw [cellsAccept] at he
    have hcs := Lib.ints_of_struct Tryd.underlying130 (fun j f hj => by
      match j, hj with
      | 0, hj => simp at hj; subst hj; exact ⟨Tryd.underlying5, rfl, cellsByte⟩
      | 1, hj => simp at hj; subst hj; exact ⟨Tryd.underlying5, rfl, cellsByte⟩
      | j + 2, hj => simp at hj) (by rw [cellsAccept]; rfl) he
    have e0 := congrArg (·[0]?) hcs
    have e1 := congrArg (·[1]?) hcs
    simp only [List.getElem?_take, List.getElem?_drop] at e0 e1
    constructor
    · rw [World.var?_cell hg hvar (2 * i), ← Array.getElem?_toList]
      simpa [Nat.mul_comm] using e0
    · rw [World.var?_cell hg hvar (2 * i + 1), ← Array.getElem?_toList]
      simpa [Nat.mul_comm] using e1
end Go.Proofs.YtgkodjkhhmcnnaaDoor
