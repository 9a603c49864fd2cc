/- From a walk to a row, and to its tied card: what each law's proof needs of the form, once for all laws of layer 15. -/
import Derived.Test.YtbmcmcdgdhabaaaDoorCards
import Derived.Test.YtbmcmcdgdhabaaaDoorTie
import Derived.Test.YtbmcmcdgdhabaaaDoorCpAlive
import Derived.Test.YtbmcmcdgdhabaaaDoorMdOpen
import Derived.Deep.DeepHandedRow
import Derived.Lib.LaidU8
import Derived.Lib.LaidTab
import Derived.LaidMore
import Derived.HandedShaped
namespace Go.Proofs.YtbmcmcdgdhabaaaDoor
open Go.ChangeShapes Go.WideShapes Go.ChangeAt Go.RowKit Go.Joins Go.Deep
theorem okByte : Tryd.prog.readableRec 5 = true ∧ 5 < Tryd.prog.types.size := ⟨by kernel_rfl, of_decide_eq_true (by kernel_rfl)⟩
theorem okBytes : Tryd.prog.readableRec 23 = true ∧ 23 < Tryd.prog.types.size := ⟨by kernel_rfl, of_decide_eq_true (by kernel_rfl)⟩
theorem okNums : Tryd.prog.readableRec 22 = true ∧ 22 < Tryd.prog.types.size := ⟨by kernel_rfl, of_decide_eq_true (by kernel_rfl)⟩
theorem okStyle : Tryd.prog.readableRec 26 = true ∧ 26 < Tryd.prog.types.size := ⟨by kernel_rfl, of_decide_eq_true (by kernel_rfl)⟩
theorem cellsStyle : Tryd.prog.cellsOf 26 = 3 := by kernel_rfl
section
variable {H : Type} {enc : TypeId × Value → H}
set_option maxRecDepth 100000 in
theorem open_bytes {W : World} {base b0 : Nat} {held : Bool} {r : Reach} {v : Value} {d : DataW H} {p : List MemPlace} (hv : Value.okWide Tryd.prog W r b0 23 v) (h : DataW.Trod enc Tryd.prog W base (fun _ => true) held 23 v d p) :
    ∃ l, BsIn W (fun b => b < W.heap.size) v l := by
  obtain ⟨a, n, cap, rfl⟩ := okWide_slice Tryd.underlying23 hv
  obtain ⟨fuel, hf⟩ := h
  obtain ⟨V, l, e, hl⟩ := open_bytes_at hf
  simp [Value.cells] at e
  subst e
  exact ⟨l, hl⟩
set_option maxRecDepth 100000 in
theorem open_i64 {W : World} {base b0 : Nat} {sp : Nat → Bool} {held : Bool} {r : Reach} {v : Value} {d : DataW H} {p : List MemPlace} (hv : Value.okWide Tryd.prog W r b0 3 v) (h : DataW.Trod enc Tryd.prog W base sp held 3 v d p) :
    ∃ x : Int, v = .int .i64 x ∧ md.i64 x := by
  obtain ⟨a, rfl, rfl, rfl, w⟩ := open_int Tryd.underlying3 hv h
  exact ⟨a, rfl, i64_of_wf w⟩
set_option maxRecDepth 100000 in
theorem open_long {W : World} {base b0 : Nat} {sp : Nat → Bool} {held : Bool} {r : Reach} {v : Value} {d : DataW H} {p : List MemPlace} (hv : Value.okWide Tryd.prog W r b0 2 v) (h : DataW.Trod enc Tryd.prog W base sp held 2 v d p) :
    ∃ x : Int, v = .int .i64 x ∧ md.i64 x := by
  obtain ⟨a, rfl, rfl, rfl, w⟩ := open_int Tryd.underlying2 hv h
  exact ⟨a, rfl, i64_of_wf w⟩
theorem open_nums_at {W : World} {base : Nat} {held : Bool} {fuel : Nat} {cs : List Value} {x : DataW H × List MemPlace} (h : DataW.trod enc Tryd.prog W base (fun _ => true) held fuel 22 cs = some x) :
    ∃ V l, cs = [V] ∧ NsIn W (fun b => b < W.heap.size) V l := by
  obtain ⟨V, n, L, rfl, hr, hL⟩ := open_row Tryd.underlying22 cellsInt64 (by decide) h
  obtain ⟨R, hR⟩ := choose_lt (α := Int) (n := n) (p := fun i c => L i = [.int .i64 c]) (fun i hi => by
    obtain ⟨_, f, y, hy⟩ := hL i hi
    obtain ⟨a, e, -, hw⟩ := DataW.trod_int Tryd.underlying2 hy
    exact ⟨a, e⟩)
  have e : (List.range n).flatMap L = inC ((List.range n).map R) := by
    unfold inC
    rw [List.map_map]
    clear hr
    induction n with
    | zero => rfl
    | succ n ih =>
      rw [List.range_succ, List.flatMap_append, List.map_append, ih (fun i hi => hL i (by omega)) (fun i hi => hR i (by omega))]
      simp [hR n (by omega)]
  refine ⟨V, (List.range n).map R, rfl, ?_⟩
  show RowIn _ _ _ _ ((List.range n).map R).length _
  rw [List.length_map, List.length_range, ← e]
  exact hr
set_option maxRecDepth 100000 in
theorem open_nums {W : World} {base b0 : Nat} {held : Bool} {r : Reach} {v : Value} {d : DataW H} {p : List MemPlace} (hv : Value.okWide Tryd.prog W r b0 22 v) (h : DataW.Trod enc Tryd.prog W base (fun _ => true) held 22 v d p) :
    ∃ l, NsIn W (fun b => b < W.heap.size) v l := by
  obtain ⟨a, n, cap, rfl⟩ := okWide_slice Tryd.underlying22 hv
  obtain ⟨fuel, hf⟩ := h
  obtain ⟨V, l, e, hl⟩ := open_nums_at hf
  simp [Value.cells] at e
  subst e
  exact ⟨l, hl⟩
set_option maxRecDepth 100000 in
/-- a style among the arguments -/
theorem open_style {W : World} {base b0 : Nat} {sp : Nat → Bool} {held : Bool} {r : Reach} {v : Value} {d : DataW H} {p : List MemPlace} (hv : Value.okWide Tryd.prog W r b0 26 v) (h : DataW.Trod enc Tryd.prog W base sp held 26 v d p) :
    ∃ x y z : Int, v = .agg #[.int .i64 x, .int .i64 y, .int .i64 z] ∧ md.i64 x ∧ md.i64 y ∧ md.i64 z := by
  obtain ⟨c0, c1, c2, y0, y1, y2, m, rfl, rfl, rfl, t0, t1, t2⟩ := open_agg3 Tryd.underlying26 (by kernel_rfl) cellsStyle hv h
  obtain ⟨a0, e0, _, w0⟩ := DataW.trod_int Tryd.underlying3 t0
  obtain ⟨a1, e1, _, w1⟩ := DataW.trod_int Tryd.underlying3 t1
  obtain ⟨a2, e2, _, w2⟩ := DataW.trod_int Tryd.underlying3 t2
  simp at e0 e1 e2
  subst e0 e1 e2
  exact ⟨a0, a1, a2, rfl, i64_of_wf w0, i64_of_wf w1, i64_of_wf w2⟩
end
theorem gHost : Tryd.prog.globalNamed "casement/check.hostTakes" = some 2 := by kernel_rfl
theorem tHost : (Tryd.prog.globals[2]?).map (·.type) = some 49 := by kernel_rfl
theorem cellsHost : Tryd.prog.cellsOf 49 = 12 := by kernel_rfl
set_option maxRecDepth 100000 in
theorem host_eq : (Rows.laid_casement_check_hostTakes : DataW Unit) = Lib.tabData .i64 ck.hostT := by kernel_rfl
theorem ht_of_reads {w : World} (h : Lib.VarReads Tryd.prog w "casement/check.hostTakes" Rows.laid_casement_check_hostTakes) : HT w := by
  rw [host_eq] at h
  obtain ⟨g, t, cs, fuel, p, hg, hty, hvar, hd⟩ := h
  obtain rfl := Option.some.inj (gHost.symm.trans hg)
  obtain rfl := Option.some.inj (tHost.symm.trans hty)
  have hcs := Lib.cells_of_tab Tryd.underlying49 Tryd.underlying3 cellsInt cellsHost hd
  have ht : Lib.TabIs Tryd.prog w "casement/check.hostTakes" .i64 ck.hostT := by
    unfold Lib.TabIs
    rw [hvar, ← hcs]
  intro k hk
  exact ht.cell gHost k hk
theorem gNeeds : Tryd.prog.globalNamed "casement/caps.needs" = some 0 := by kernel_rfl
theorem tNeeds : (Tryd.prog.globals[0]?).map (·.type) = some 49 := by kernel_rfl
theorem cellsNeeds : Tryd.prog.cellsOf 49 = 12 := by kernel_rfl
set_option maxRecDepth 100000 in
theorem needs_eq : (Rows.laid_casement_caps_needs : DataW Unit) = Lib.tabData .i64 cp.needsT := by kernel_rfl
theorem nt_of_reads {w : World} (h : Lib.VarReads Tryd.prog w "casement/caps.needs" Rows.laid_casement_caps_needs) : NT w := by
  rw [needs_eq] at h
  obtain ⟨g, t, cs, fuel, p, hg, hty, hvar, hd⟩ := h
  obtain rfl := Option.some.inj (gNeeds.symm.trans hg)
  obtain rfl := Option.some.inj (tNeeds.symm.trans hty)
  have hcs := Lib.cells_of_tab Tryd.underlying49 Tryd.underlying3 cellsInt cellsNeeds hd
  have ht : Lib.TabIs Tryd.prog w "casement/caps.needs" .i64 cp.needsT := by
    unfold Lib.TabIs
    rw [hvar, ← hcs]
  intro k hk
  exact ht.cell gNeeds k hk
/-- an array of texts that reads as the table holds the table's texts, cell for cell -/
theorem texts_of_tab {H : Type} {enc : TypeId × Value → H} {P : Program} {w : World} {base : Nat} {sp : Nat → Bool} {held : Bool} {fuel : Nat} {t e : TypeId} {n : Nat} {cs : List Value} {zs : List (List UInt8)} {p : List MemPlace}
    (ht : P.underlying t = some (.array n e)) (he : P.underlying e = some .string) (hce : P.cellsOf e = 1) (hct : P.cellsOf t = n)
    (h : DataW.trod enc P w base sp held fuel t cs = some (.agg (zs.map fun z => .lit (.string z)), p)) : cs = zs.map fun z => Value.string ⟨z.toArray⟩ := by
  cases fuel with
  | zero => simp [DataW.trod] at h
  | succ fuel =>
    simp only [DataW.trod, ht, hce, hct, Nat.mul_one] at h
    split at h
    · rename_i hl
      obtain ⟨xs, hm, hx⟩ := Option.map_eq_some_iff.1 h
      have hxs : xs.map (·.1) = zs.map fun z => (DataW.lit (.string z) : DataW H) := by
        have := congrArg Prod.fst hx
        simpa using this
      have hxl : xs.length = n := by simpa using Lib.mapM_length hm
      have hzl : zs.length = n := by
        have := congrArg List.length hxs
        simp at this
        omega
      apply List.ext_getElem?
      intro i
      by_cases hi : i < n
      · obtain ⟨b, hb, hf⟩ := Lib.mapM_at hm i i (by simp [hi])
        obtain ⟨s, hc, hbx, -⟩ := DataW.trod_string he hf
        have h1 : cs[i]? = some (.string s) := by
          have := congrArg (·[0]?) hc
          simpa [List.getElem?_take, List.getElem?_drop] using this
        have h2 : (xs.map (·.1))[i]? = some (DataW.lit (.string s.data.toList) : DataW H) := by
          rw [List.getElem?_map, hb, Option.map_some, hbx]
        rw [hxs] at h2
        simp only [List.getElem?_map, Option.map_eq_some_iff, DataW.lit.injEq, Lit.string.injEq] at h2
        obtain ⟨z', hz', e'⟩ := h2
        rw [h1, List.getElem?_map, hz', Option.map_some, e']
      · rw [List.getElem?_eq_none (by omega), List.getElem?_eq_none (by simp; omega)]
    · cases h
theorem gNames : Tryd.prog.globalNamed "casement/caps.names" = some 1 := by kernel_rfl
theorem tNames : (Tryd.prog.globals[1]?).map (·.type) = some 51 := by kernel_rfl
theorem cellsNames : Tryd.prog.cellsOf 51 = 6 := by kernel_rfl
theorem cellsStr : Tryd.prog.cellsOf 9 = 1 := by kernel_rfl
theorem names_eq : (Rows.laid_casement_caps_names : DataW Unit) = .agg (cp.namesT.map fun z => .lit (.string z)) := by kernel_rfl
theorem mt_of_reads {w : World} (h : Lib.VarReads Tryd.prog w "casement/caps.names" Rows.laid_casement_caps_names) : MT w := by
  rw [names_eq] at h
  obtain ⟨g, t, cs, fuel, p, hg, hty, hvar, hd⟩ := h
  obtain rfl := Option.some.inj (gNames.symm.trans hg)
  obtain rfl := Option.some.inj (tNames.symm.trans hty)
  have hcs := texts_of_tab Tryd.underlying51 Tryd.underlying9 cellsStr cellsNames hd
  intro k hk
  have := World.var?_cell gNames hvar k
  rw [this, ← Array.getElem?_toList, hcs]
  have h6 : k = 0 ∨ k = 1 ∨ k = 2 ∨ k = 3 ∨ k = 4 ∨ k = 5 := by omega
  rcases h6 with rfl | rfl | rfl | rfl | rfl | rfl <;> rfl
/-- a world that holds what is listed -/
noncomputable def laidWorld (os : Os) : World := World.doorLaid Tryd.prog 24 os
end Go.Proofs.YtbmcmcdgdhabaaaDoor
