/- The writer: a node's values and properties. -/
import Derived.Test.YthmiaamjbokljaaGreatDoorKdLines
namespace Go.Proofs.YthmiaamjbokljaaGreatDoor
open Go.RowKit
theorem argsT_step (l : List kd.Val) (k : Nat) (h : k < l.length) (full : List UInt8) : full ++ kd.argsT (l.take k) ++ [32] ++ kd.valT l[k] = full ++ kd.argsT (l.take (k + 1)) := by
  unfold kd.argsT
  rw [List.take_add_one, List.getElem?_eq_getElem h, Option.toList_some, List.flatMap_append, List.flatMap_singleton]
  simp only [List.append_assoc, List.cons_append, List.nil_append]
theorem propsT_step (l : List kd.Prp) (k : Nat) (h : k < l.length) (full : List UInt8) : full ++ kd.propsT (l.take k) ++ [32] ++ kd.nameT l[k].name ++ [61] ++ kd.valT l[k].val = full ++ kd.propsT (l.take (k + 1)) := by
  unfold kd.propsT
  rw [List.take_add_one, List.getElem?_eq_getElem h, Option.toList_some, List.flatMap_append, List.flatMap_singleton]
  simp only [List.append_assoc, List.cons_append, List.nil_append]
theorem prpCells {w : World} {g : Nat} {x : kd.Prp} (h : w.heap[g]? = some (prpO x)) : w.cell? ⟨g, 0, none⟩ = some (str x.name) ∧ w.cell? ⟨g, 1, none⟩ = some (.int .i64 x.val.kind) ∧ w.cell? ⟨g, 2, none⟩ = some (str x.val.text) ∧ w.cell? ⟨g, 3, none⟩ = some (.int .i64 x.val.int) ∧ w.cell? ⟨g, 4, none⟩ = some (.bool x.val.flag) :=
  ⟨(cell_of_heap h).trans rfl, (cell_of_heap h).trans rfl, (cell_of_heap h).trans rfl, (cell_of_heap h).trans rfl, (cell_of_heap h).trans rfl⟩
theorem valCells {w : World} {g : Nat} {v : kd.Val} (h : w.heap[g]? = some (valO v)) : w.cell? ⟨g, 0, none⟩ = some (.int .i64 v.kind) ∧ w.cell? ⟨g, 1, none⟩ = some (str v.text) ∧ w.cell? ⟨g, 2, none⟩ = some (.int .i64 v.int) ∧ w.cell? ⟨g, 3, none⟩ = some (.bool v.flag) :=
  ⟨(cell_of_heap h).trans rfl, (cell_of_heap h).trans rfl, (cell_of_heap h).trans rfl, (cell_of_heap h).trans rfl⟩
/-- bounds of a node that is written, its own -/
def kd.NodeW1 (n : kd.Node) : Prop := n.name.length ≤ 1048576 ∧ (∀ v ∈ n.args, kd.ValW v) ∧ ∀ x ∈ n.props, x.name.length ≤ 1048576 ∧ kd.ValW x.val
theorem type_node (a b c d : Value) (cur : Array Value) : nodeO a b c d ≠ Obj.cells cur 5 (0, 0) := by intro e; injection e with _ e2; exact absurd e2 (by decide)
theorem type_val (v : kd.Val) (cur : Array Value) : valO v ≠ Obj.cells cur 5 (0, 0) := by intro e; injection e with _ e2; exact absurd e2 (by decide)
theorem type_prp (v : kd.Prp) (cur : Array Value) : prpO v ≠ Obj.cells cur 5 (0, 0) := by intro e; injection e with _ e2; exact absurd e2 (by decide)
set_option maxRecDepth 100000 in
set_option maxHeartbeats 6400000 in
theorem wparts_any (p : Nat) (full : List UInt8) (n : kd.Node) (c0 c1 c2 c3 : Value) (w0 w : World) (hk : KT w) (h : WrAt w p full) (h4 : Node4 w0 n c0 c1 c2 c3) (hb0 : Below w0.heap.size w0 w) (hw0 : w0.heap.size ≤ p) (hgp : 3 + 1 ≤ p) (hn : kd.NodeW1 n) :
    Calls Tryz.prog 28 #[.pointer (some ⟨p, 0, none⟩), .agg #[c0, c1, c2, c3]] w fun ev w' => ev = .returned (.tuple #[]) ∧ WrAt w' p (full ++ kd.argsT n.args ++ kd.propsT n.props) ∧ Tw p w w' := by
  obtain ⟨oa, ca, ec1, hva⟩ := h4.av
  obtain ⟨op, cp, ec2, hvp⟩ := h4.ps
  obtain ⟨okk, ckk, ec3⟩ := h4.ks
  have ec0 := h4.nm
  subst ec0 ec1 ec2 ec3
  have hp := h.lt
  obtain ⟨X, hX⟩ : ∃ X, full ++ kd.argsT n.args ++ kd.propsT n.props = X := ⟨_, rfl⟩
  have HX := Lib.hid hX
  rw [hX]
  clear hX
  have hb1 := below_one w (nodeO (str n.name) (.slice oa n.args.length ca) (.slice op n.props.length cp) (.slice okk n.kids.length ckk))
  have HVA := Lib.hid hva
  have HVP := Lib.hid hvp
  have hma := hva.max
  have hla := hva.le
  have hmp := hvp.max
  have hlp := hvp.le
  have HNW := Lib.hid hn
  have H0 : Hid (KT (w.alloc (nodeO (str n.name) (.slice oa n.args.length ca) (.slice op n.props.length cp) (.slice okk n.kids.length ckk))) ∧ WrAt (w.alloc (nodeO (str n.name) (.slice oa n.args.length ca) (.slice op n.props.length cp) (.slice okk n.kids.length ckk))) p (full ++ kd.argsT (n.args.take 0)) ∧ Tw p w (w.alloc (nodeO (str n.name) (.slice oa n.args.length ca) (.slice op n.props.length cp) (.slice okk n.kids.length ckk))) ∧ (w.alloc (nodeO (str n.name) (.slice oa n.args.length ca) (.slice op n.props.length cp) (.slice okk n.kids.length ckk))).heap[w.heap.size]? = some (nodeO (str n.name) (.slice oa n.args.length ca) (.slice op n.props.length cp) (.slice okk n.kids.length ckk))) := Lib.hid ⟨hk.below hb1 hk.lt, by simpa [kd.argsT] using h.below hb1, Tw.of_below hb1 (Nat.le_of_lt hp), heap_alloc_new _ _⟩
  have HB0 := Lib.hid hb0
  have HKT := Lib.hid hk
  clear hb1 hva hvp hn h4 h hb0 hk
  go_enter Tryz.func28, Tryz.ntmps28
  go_wp2_with fail
  generalize w.alloc (nodeO (str n.name) (.slice oa n.args.length ca) (.slice op n.props.length cp) (.slice okk n.kids.length ckk)) = w1 at *
  generalize hg3 : w.heap.size = g3 at *
  have hpg : p < g3 := hp
  clear hg3
  go_loopg [11] n.args.length (fun gg s11 wr => ∃ k : Nat, s11 = .int .i64 k ∧ k ≤ n.args.length ∧ n.args.length - k ≤ gg ∧ Hid (WrAt wr p (full ++ kd.argsT (n.args.take k)) ∧ Tw p w wr ∧ wr.heap[g3]? = some (nodeO (str n.name) (.slice oa n.args.length ca) (.slice op n.props.length cp) (.slice okk n.kids.length ckk))))
  case atStart => exact ⟨0, rfl, Nat.zero_le _, by omega, Lib.hid ⟨H0.out.2.1, H0.out.2.2.1, H0.out.2.2.2⟩⟩
  case round =>
    clear H0
    obtain ⟨k, rfl, hkl, hgg, HA⟩ := hrel
    by_cases hlt : k < n.args.length
    case pos =>
      have hki : (k : Int) < (n.args.length : Int) := by omega
      obtain ⟨b, off, rfl, hb, e0, e1, e2, e3⟩ : ∃ b off, oa = some ⟨b, off, none⟩ ∧ b < wr.heap.size ∧ wr.cell? ⟨b, off + k * 4, none⟩ = some (.int .i64 n.args[k].kind) ∧ wr.cell? ⟨b, off + k * 4 + 1, none⟩ = some (str n.args[k].text) ∧ wr.cell? ⟨b, off + k * 4 + 2, none⟩ = some (.int .i64 n.args[k].int) ∧ wr.cell? ⟨b, off + k * 4 + 3, none⟩ = some (.bool n.args[k].flag) := by
        have hbw := HB0.out.trans (HA.out.2.1.bel.mono hw0)
        rcases (HVA.out.below hbw).at_ with h0 | ⟨b, off, e, hb, hc⟩
        · omega
        · exact ⟨b, off, e, hb, hc k _ (List.getElem?_eq_getElem hlt)⟩
      have hst := argsT_step n.args k hlt full
      have hvw := HNW.out.2.1 _ (List.getElem_mem hlt)
      generalize n.args[k] = v at *
      have HST := Lib.hid hst
      have HVW := Lib.hid hvw
      have hb2 := below_one wr (valO v)
      have hpw := HA.out.1.lt
      have H2 := Lib.hid (And.intro (HA.out.1.below hb2) (And.intro (HA.out.2.1.then hb2 (Nat.le_of_lt hpw)) (And.intro ((hb2.block _ (heap_lt HA.out.2.2)).trans HA.out.2.2) (heap_alloc_new wr (valO v)))))
      clear hst hvw hb2 HA
      go_upto_region 4 with fail
      generalize wr.alloc (valO v) = w2 at *
      generalize hg5 : wr.heap.size = g5 at *
      have hpg5 : p < g5 := hpw
      clear hg5 e0 e1 e2 e3
      have HP := Lib.hid (put_any p _ [32] w2 H2.out.1 (by simp))
      go_wp2_with fail
      refine HP.out.mono ?_
      rintro ev w3 ⟨rfl, hw3, ht3⟩
      have H3 := Lib.hid (And.intro (H2.out.2.1.trans ht3) (And.intro (ht3.keep g3 _ H2.out.2.2.1 (by omega) (type_node _ _ _ _)) (ht3.keep g5 _ H2.out.2.2.2 (by omega) (type_val v))))
      have HV := Lib.hid (wvalue_any p _ v w3 (HKT.out.below H3.out.1.bel hgp) hw3 HVW.out)
      rw [HST.out] at HV
      obtain ⟨y0, y1, y2, y3⟩ := valCells H3.out.2.2
      clear hw3 ht3 HP H2
      go_wp2_with fail
      refine HV.out.mono ?_
      rintro ev w4 ⟨rfl, hw4, ht4⟩
      have H4 := Lib.hid (And.intro hw4 (And.intro (H3.out.1.trans ht4) (ht4.keep g3 _ H3.out.2.1 (by omega) (type_node _ _ _ _))))
      clear hw4 ht4 HV H3 y0 y1 y2 y3
      go_wp2_with fail
      go_roundg (n.args.length - (k + 1))
      case measure => omega
      case rel => exact ⟨k + 1, by go_num, by omega, Nat.le_refl _, Lib.hid ⟨H4.out.1, H4.out.2.1, H4.out.2.2⟩⟩
    case neg =>
      have hki : ¬ (k : Int) < (n.args.length : Int) := by omega
      have HE : Hid (WrAt wr p (full ++ kd.argsT n.args ++ kd.propsT (n.props.take 0))) := Lib.hid (by
        have := HA.out.1
        rw [List.take_of_length_le (by omega)] at this
        simpa [kd.propsT] using this)
      have H5 := Lib.hid HA.out.2
      obtain ⟨z0, z1, z2, z3, _, _, _, _, hzu⟩ := node_cells HA.out.2.2
      clear HA
      go_wp2_with fail
      clear z0 z1 z2 z3
      generalize wr = wo at *
      go_loopg [24] n.props.length (fun gg s24 wr => ∃ k : Nat, s24 = .int .i64 k ∧ k ≤ n.props.length ∧ n.props.length - k ≤ gg ∧ Hid (WrAt wr p (full ++ kd.argsT n.args ++ kd.propsT (n.props.take k)) ∧ Tw p w wr))
      case atStart => exact ⟨0, rfl, Nat.zero_le _, by omega, Lib.hid ⟨HE.out, H5.out.1⟩⟩
      case round =>
        clear HE H5
        obtain ⟨k, rfl, hkl, hgg, HA⟩ := hrel
        by_cases hlt : k < n.props.length
        case neg =>
          have hki2 : ¬ (k : Int) < (n.props.length : Int) := by omega
          have HE : Hid (WrAt wr p (full ++ kd.argsT n.args ++ kd.propsT n.props)) := Lib.hid (by
            have := HA.out.1
            rwa [List.take_of_length_le (by omega)] at this)
          go_wp2_with fail
          go_end0
          exact ⟨rfl, by rw [← HX.out]; exact HE.out, HA.out.2⟩
        case pos =>
          have hki2 : (k : Int) < (n.props.length : Int) := by omega
          obtain ⟨b, off, rfl, hb, e0, e1, e2, e3, e4⟩ : ∃ b off, op = some ⟨b, off, none⟩ ∧ b < wr.heap.size ∧ wr.cell? ⟨b, off + k * 5, none⟩ = some (str n.props[k].name) ∧ wr.cell? ⟨b, off + k * 5 + 1, none⟩ = some (.int .i64 n.props[k].val.kind) ∧ wr.cell? ⟨b, off + k * 5 + 2, none⟩ = some (str n.props[k].val.text) ∧ wr.cell? ⟨b, off + k * 5 + 3, none⟩ = some (.int .i64 n.props[k].val.int) ∧ wr.cell? ⟨b, off + k * 5 + 4, none⟩ = some (.bool n.props[k].val.flag) := by
            have hbw := HB0.out.trans (HA.out.2.bel.mono hw0)
            rcases (HVP.out.below hbw).at_ with h0 | ⟨b, off, e, hb, hc⟩
            · omega
            · exact ⟨b, off, e, hb, hc k _ (List.getElem?_eq_getElem hlt)⟩
          have hst := propsT_step n.props k hlt (full ++ kd.argsT n.args)
          have hvw := HNW.out.2.2 _ (List.getElem_mem hlt)
          generalize n.props[k] = x at *
          have HST := Lib.hid hst
          have HVW := Lib.hid hvw
          have hb2 := below_one wr (prpO x)
          have hpw := HA.out.1.lt
          have H2 := Lib.hid (And.intro (HA.out.1.below hb2) (And.intro (HA.out.2.then hb2 (Nat.le_of_lt hpw)) (heap_alloc_new wr (prpO x))))
          clear hst hvw hb2 HA
          go_upto_region 10 with fail
          generalize wr.alloc (prpO x) = w2 at *
          generalize hg5 : wr.heap.size = g5 at *
          have hpg5 : p < g5 := hpw
          clear hg5 e0 e1 e2 e3 e4
          have HP := Lib.hid (put_any p _ [32] w2 H2.out.1 (by simp))
          go_wp2_with fail
          refine HP.out.mono ?_
          rintro ev w3 ⟨rfl, hw3, ht3⟩
          have H3 := Lib.hid (And.intro (H2.out.2.1.trans ht3) (ht3.keep g5 _ H2.out.2.2 (by omega) (type_prp x)))
          have HNM := Lib.hid (name_any p _ x.name w3 (HKT.out.below H3.out.1.bel hgp) hw3 HVW.out.1)
          obtain ⟨y0, y1, y2, y3, y4⟩ := prpCells H3.out.2
          clear hw3 ht3 HP H2
          go_wp2_with fail
          refine HNM.out.mono ?_
          rintro ev w4 ⟨rfl, hw4, ht4⟩
          have H4 := Lib.hid (And.intro (H3.out.1.trans ht4) (ht4.keep g5 _ H3.out.2 (by omega) (type_prp x)))
          have HP := Lib.hid (put_any p _ [61] w4 hw4 (by simp))
          clear hw4 ht4 HNM H3 y0 y1 y2 y3 y4
          go_wp2_with fail
          refine HP.out.mono ?_
          rintro ev w5 ⟨rfl, hw5, ht5⟩
          have H5 := Lib.hid (And.intro (H4.out.1.trans ht5) (ht5.keep g5 _ H4.out.2 (by omega) (type_prp x)))
          have HV := Lib.hid (wvalue_any p _ x.val w5 (HKT.out.below H5.out.1.bel hgp) hw5 HVW.out.2)
          rw [HST.out] at HV
          obtain ⟨y0, y1, y2, y3, y4⟩ := prpCells H5.out.2
          clear hw5 ht5 HP H4
          go_wp2_with fail
          refine HV.out.mono ?_
          rintro ev w6 ⟨rfl, hw6, ht6⟩
          have H6 := Lib.hid (And.intro hw6 (H5.out.1.trans ht6))
          clear hw6 ht6 HV H5 y0 y1 y2 y3 y4
          go_wp2_with fail
          go_roundg (n.props.length - (k + 1))
          case measure => omega
          case rel => exact ⟨k + 1, by go_num, by omega, Nat.le_refl _, Lib.hid ⟨H6.out.1, H6.out.2⟩⟩
end Go.Proofs.YthmiaamjbokljaaGreatDoor
