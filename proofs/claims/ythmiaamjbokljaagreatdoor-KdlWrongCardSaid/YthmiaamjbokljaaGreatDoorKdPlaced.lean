/- placed nodes: tooDeep, unwritable, repeats; IndexFunc, ContainsFunc over them (made by tools/mkplaced.py). -/
import Derived.Test.YthmiaamjbokljaaGreatDoorKdFind
namespace Go.Proofs.YthmiaamjbokljaaGreatDoor
open Go.RowKit
/-- bounds of a node's own texts -/
def kd.NodeB1 (n : kd.Node) : Prop := n.name.length ≤ 9223372036854775807 ∧ (∀ v ∈ n.args, kd.ValB v) ∧ ∀ x ∈ n.props, kd.PrpB x
/-- a node's four cells, as a walk meets them -/
structure Node4 (w : World) (n : kd.Node) (c0 c1 c2 c3 : Value) : Prop where
  nm : c0 = str n.name
  av : ∃ o cap, c1 = .slice o n.args.length cap ∧ ValsIn w o n.args.length cap n.args
  ps : ∃ o cap, c2 = .slice o n.props.length cap ∧ PrpsIn w o n.props.length cap n.props
  ks : ∃ o cap, c3 = .slice o n.kids.length cap
theorem NodeC.four' {w : World} {D : Nat → Prop} {n : kd.Node} {c0 c1 c2 c3 : Value} (h : NodeC w D n [c0, c1, c2, c3]) (hb : kd.NodeB1 n) : Node4 w n c0 c1 c2 c3 := by
  obtain ⟨nm, av, ps, ks⟩ := n
  unfold NodeC at h
  obtain ⟨VA, VP, VK, e, ha, hp, kc, hk, -⟩ := h
  simp only [List.cons.injEq, and_true] at e
  obtain ⟨rfl, rfl, rfl, rfl⟩ := e
  obtain ⟨oa, ca, rfl, ha'⟩ := ha
  obtain ⟨op, cp, rfl, hp'⟩ := hp
  obtain ⟨ok, ck, rfl, -⟩ := hk
  exact ⟨rfl, ⟨oa, ca, rfl, RowIn.vals (D := D) ⟨oa, ca, rfl, ha'⟩ hb.2.1⟩, ⟨op, cp, rfl, RowIn.prps (D := D) ⟨op, cp, rfl, hp'⟩ hb.2.2⟩, ok, ck, rfl⟩
theorem Node4.below {w w' : World} {n : kd.Node} {c0 c1 c2 c3 : Value} (h : Node4 w n c0 c1 c2 c3) (hb : Below w.heap.size w w') : Node4 w' n c0 c1 c2 c3 := by
  obtain ⟨oa, ca, ea, ha⟩ := h.av
  obtain ⟨op, cp, ep, hp⟩ := h.ps
  exact ⟨h.nm, ⟨oa, ca, ea, ha.below hb⟩, ⟨op, cp, ep, hp.below hb⟩, h.ks⟩
abbrev plV (c0 c1 c2 c3 : Value) (d : Nat) : Value := .agg #[c0, c1, c2, c3, .int .i64 d]
abbrev plO (c0 c1 c2 c3 : Value) (d : Nat) : Obj := .cells #[c0, c1, c2, c3, .int .i64 d] 68
set_option maxRecDepth 100000 in
set_option maxHeartbeats 800000 in
theorem tooDeep_any (n : kd.Node) (d : Nat) (c0 c1 c2 c3 : Value) (w : World) (h : Node4 w n c0 c1 c2 c3) : Calls Tryz.prog 22 #[plV c0 c1 c2 c3 d] w fun ev w' => ev = .returned (.bool (kd.tooDeep (n, d))) ∧ Below w.heap.size w w' := by
  obtain ⟨ok, ck, rfl⟩ := h.ks
  obtain ⟨oa, ca, rfl, -⟩ := h.av
  obtain ⟨op, cp, rfl, -⟩ := h.ps
  obtain rfl := h.nm
  have HB := Lib.hid (below_one w (plO (str n.name) (.slice oa n.args.length ca) (.slice op n.props.length cp) (.slice ok n.kids.length ck) d))
  have HD : Hid (kd.tooDeep (n, d) = decide (d = 12 ∧ 0 < n.kids.length)) := Lib.hid rfl
  generalize kd.tooDeep (n, d) = R at *
  clear h
  by_cases hd : d = 12
  · subst hd
    go_enter Tryz.func22, Tryz.ntmps22
    go_wp2_with fail
    go_ret
    exact ⟨ret_bool (by rw [HD.out, Bool.eq_iff_iff]; simp), HB.out⟩
  · have hdi : ((d : Int) == 12) = false := by simp; omega
    have HE : Hid (R = false) := Lib.hid (by rw [HD.out]; exact decide_eq_false (fun h => hd h.1))
    clear hd HD
    go_enter Tryz.func22, Tryz.ntmps22
    go_wp2_with fail
    go_ret
    exact ⟨ret_bool HE.out.symm, HB.out⟩
set_option maxRecDepth 100000 in
set_option maxHeartbeats 1600000 in
theorem unwritable_any (n : kd.Node) (d : Nat) (c0 c1 c2 c3 : Value) (w : World) (h : Node4 w n c0 c1 c2 c3) (hb : kd.NodeB1 n) : Calls Tryz.prog 23 #[plV c0 c1 c2 c3 d] w fun ev w' => ev = .returned (.bool (kd.unwritable (n, d))) ∧ Below w.heap.size w w' := by
  obtain ⟨ok, ck, rfl⟩ := h.ks
  obtain ⟨oa, ca, rfl, ha⟩ := h.av
  obtain ⟨op, cp, rfl, hp⟩ := h.ps
  obtain rfl := h.nm
  have hb0 := below_one w (plO (str n.name) (.slice oa n.args.length ca) (.slice op n.props.length cp) (.slice ok n.kids.length ck) d)
  have HB := Lib.hid hb0
  have HN := Lib.hid (heap_alloc_new w (plO (str n.name) (.slice oa n.args.length ca) (.slice op n.props.length cp) (.slice ok n.kids.length ck) d))
  have HT := Lib.hid (badText_any n.name (w.alloc (plO (str n.name) (.slice oa n.args.length ca) (.slice op n.props.length cp) (.slice ok n.kids.length ck) d)) hb.1)
  have HA := Lib.hid ha
  have HP := Lib.hid hp
  have HVC := Lib.hid (fun X (hX : Below w.heap.size w X) => vals_contains oa n.args.length ca n.args X (HA.out.below hX))
  have HPC := Lib.hid (fun X (hX : Below w.heap.size w X) => prps_contains op n.props.length cp n.props X (HP.out.below hX))
  have HD : Hid (kd.unwritable (n, d) = (kd.badText n.name || n.args.any kd.badValue || n.props.any kd.badProp)) := Lib.hid rfl
  generalize kd.unwritable (n, d) = R at *
  generalize kd.badText n.name = T at *
  generalize n.args.any kd.badValue = A at *
  generalize n.props.any kd.badProp = P at *
  clear h hb0 ha hp
  go_enter Tryz.func23, Tryz.ntmps23
  go_wp2_with fail
  refine HT.out.mono ?_
  rintro ev w1 ⟨rfl, hb1⟩
  have HB1 := Lib.hid (HB.out.trans (hb1.mono HB.out.size))
  have HQ1 := Lib.hid ((hb1.block w.heap.size (by simp)).trans HN.out)
  have q1 : w1.cell? ⟨w.heap.size, 1, none⟩ = some (.slice oa n.args.length ca) := (cell_of_heap HQ1.out).trans rfl
  have q2 : w1.cell? ⟨w.heap.size, 2, none⟩ = some (.slice op n.props.length cp) := (cell_of_heap HQ1.out).trans rfl
  clear hb1
  cases T
  case true =>
    go_wp2_with fail
    go_ret
    exact ⟨ret_bool (by rw [HD.out]; rfl), HB1.out⟩
  case false =>
    have HC := Lib.hid (HVC.out w1 HB1.out)
    go_wp2_with fail
    refine HC.out.mono ?_
    rintro ev w2 ⟨rfl, hb2⟩
    have HB2 := Lib.hid (HB1.out.trans (hb2.mono HB1.out.size))
    have hQ2 := (hb2.block w.heap.size (heap_lt HQ1.out)).trans HQ1.out
    have q3 : w2.cell? ⟨w.heap.size, 2, none⟩ = some (.slice op n.props.length cp) := (cell_of_heap hQ2).trans rfl
    clear hb2 hQ2 q1 q2
    cases A
    case true =>
      go_wp2_with fail
      go_ret
      exact ⟨ret_bool (by rw [HD.out]; rfl), HB2.out⟩
    case false =>
      have HC2 := Lib.hid (HPC.out w2 HB2.out)
      go_wp2_with fail
      refine HC2.out.mono ?_
      rintro ev w3 ⟨rfl, hb3⟩
      have HB3 := Lib.hid (HB2.out.trans (hb3.mono HB2.out.size))
      clear hb3
      go_wp2_with fail
      go_ret
      exact ⟨ret_bool (by rw [HD.out]; rfl), HB3.out⟩
theorem AgAt.below {w w' : World} {b m : Nat} {seen : List (List UInt8)} (h : AgAt w b m seen) (hb : Below w.heap.size w w') : AgAt w' b m seen := h.keep (hb.block _ (heap_lt h.box)) (hb.block _ h.ltm)
abbrev againV (b : Nat) : Value := .func (.func 75) #[] #[.pointer (some ⟨b, 0, none⟩)]
set_option maxRecDepth 100000 in
set_option maxHeartbeats 1600000 in
theorem rep_any (x : kd.Prp) (t3 b m : Nat) (seen : List (List UInt8)) (w : World) (h3 : w.heap[t3]? = some (.cells #[againV b] 35 (0, 0))) (h : AgAt w b m seen) (hx : x.name.length ≤ 9223372036854775807) (hs : seen.length ≤ 4611686018427387904) :
    Calls Tryz.prog 46 #[prpV x, .pointer (some ⟨t3, 0, none⟩)] w fun ev w' => ev = .returned (.bool (seen.any fun n => decide (n = x.name))) ∧ AgAt w' b m (seen ++ [x.name]) ∧ Fr (· = m) w w' := by
  have hb0 := below_one w (prpO x)
  have HA := Lib.hid (again_any x.name b m seen (w.alloc (prpO x)) (h.below hb0) hx hs)
  have c3 : w.cell? ⟨t3, 0, none⟩ = some (againV b) := (cell_of_heap h3).trans rfl
  have ht3 := heap_lt h3
  have HB := Lib.hid (Fr.of_below hb0 (· = m))
  generalize seen.any (fun n => decide (n = x.name)) = R at *
  clear hb0 h h3
  go_enter Tryz.func46, Tryz.ntmps46
  go_wp2_with fail
  refine HA.out.mono ?_
  rintro ev w1 ⟨rfl, ha, hf⟩
  have HR := Lib.hid (And.intro ha (HB.out.then hf))
  clear ha hf HA
  go_wp2_with fail
  go_ret
  exact ⟨rfl, HR.out.1, HR.out.2⟩
end Go.Proofs.YthmiaamjbokljaaGreatDoor
