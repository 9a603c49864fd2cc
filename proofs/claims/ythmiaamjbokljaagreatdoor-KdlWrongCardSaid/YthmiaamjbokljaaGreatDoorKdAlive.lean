/- The document's examples of layer 8 hold: alive returns true, in every memory. -/
import Derived.Test.YthmiaamjbokljaaGreatDoorKdWText
namespace Go.Proofs.YthmiaamjbokljaaGreatDoor
open Go.RowKit
abbrev kd.l1 : List UInt8 := [112, 97, 110, 101, 32, 49, 32, 115, 105, 122, 101, 61, 50, 32, 120, 32, 123, 32, 97, 59, 32, 98, 32, 125]
abbrev kd.n1 : kd.Node := .mk [112, 97, 110, 101] [{ kind := 2, int := 1 }, { kind := 1, text := [120] }] [{ name := [115, 105, 122, 101], val := { kind := 2, int := 2 } }] [.mk [97] [] [] [], .mk [98] [] [] []]
abbrev kd.x1 : List UInt8 := [112, 97, 110, 101, 32, 49, 32, 34, 120, 34, 32, 115, 105, 122, 101, 61, 50, 32, 123, 10, 32, 32, 32, 32, 97, 10, 32, 32, 32, 32, 98, 10, 125, 10]
abbrev kd.l2 : List UInt8 := [97, 61, 49]
abbrev kd.l3 : List UInt8 := [97, 32, 120, 61]
abbrev kd.l4 : List UInt8 := [97, 32, 120, 61, 49, 32, 120, 61, 50]
theorem kd.parse1 : kd.parse kd.l1 = ([kd.n1], 0, 0) := by kernel_rfl
theorem kd.text1 : kd.text [kd.n1] = (kd.x1, 0) := by kernel_rfl
theorem kd.parse2 : kd.parse kd.l2 = ([], 80, 1) := by kernel_rfl
theorem kd.parse3 : kd.parse kd.l3 = ([], 82, 4) := by kernel_rfl
theorem kd.parse4 : kd.parse kd.l4 = ([], 81, 6) := by kernel_rfl
/-- behind a call of Parse whose fault is laid in a block of its own -/
theorem parse_then (s : List UInt8) (w : World) (ht : TT w) (N : List kd.Node) (c : Nat) (x : Int) (hP : kd.parse s = (N, c, x)) :
    Calls Tryz.prog 11 #[str s] w fun e w' => ∃ o cap, e = .returned (.tuple #[.slice o N.length cap, .agg #[.int .i64 c, .int .i64 x]]) ∧ Below w.heap.size w w' ∧
      ∀ X, Below (w'.alloc (.cells #[.int .i64 c, .int .i64 x] 30)).heap.size (w'.alloc (.cells #[.int .i64 c, .int .i64 x] 30)) X → NodesIn X (Up w.heap.size) (.slice o N.length cap) N ∧ X.heap[w'.heap.size]? = some (.cells #[.int .i64 c, .int .i64 x] 30 (0, 0)) ∧ Below w.heap.size w X := by
  have h := kparse_any s w ht
  rw [hP] at h
  refine h.mono ?_
  rintro e w' ⟨V, rfl, hr, hb⟩
  have hba := below_one w' (.cells #[.int .i64 c, .int .i64 x] 30)
  obtain ⟨o, cap, rfl⟩ := hr.slice
  exact ⟨o, cap, rfl, hb, fun X hX => ⟨(hr.below hba).below hX, (hX.block _ (by simp)).trans (heap_alloc_new _ _), (hb.trans (hba.mono hb.size)).trans (hX.mono (Nat.le_trans hb.size hba.size))⟩⟩
theorem kd.b1 : kd.NodesB 14 [kd.n1] := by
  simp [kd.NodesB, kd.NodeB1, kd.n1, kd.Node.name, kd.Node.args, kd.Node.props, kd.Node.kids, kd.ValB, kd.PrpB]
theorem kd.w1 : kd.NodesW 14 [kd.n1] := by
  simp [kd.NodesW, kd.NodeW1, kd.ValW, kd.n1, kd.Node.name, kd.Node.args, kd.Node.props, kd.Node.kids]
abbrev faultO (c x : Int) : Obj := .cells #[.int .i64 c, .int .i64 x] 30
set_option maxRecDepth 100000 in
set_option maxHeartbeats 3200000 in
theorem alive_any (w : World) (ht : KT w) : Calls Tryz.prog 8 #[] w fun e w' => e = .returned (.bool true) ∧ Below w.heap.size w w' := by
  have h3 := ht.lt
  have HT := Lib.hid ht
  have H1 := Lib.hid (parse_then kd.l1 w ht.tt _ _ _ kd.parse1)
  clear ht
  go_enter Tryz.func8, Tryz.ntmps8
  go_wp2_with fail
  refine H1.out.mono ?_
  rintro e w1 ⟨o1, p1, rfl, hb1, hx1⟩
  have HX1 := Lib.hid hx1
  have HB1 : Hid (Below w.heap.size w (w1.alloc (.cells #[.int .i64 0, .int .i64 0] 30))) := Lib.hid (hx1 _ (Below.refl _ _)).2.2
  clear hx1 hb1 H1
  go_upto_region 2 with fail
  have HN1 : Hid (NodesIn (w1.alloc (.cells #[.int .i64 0, .int .i64 0] 30)) (Up w.heap.size) (.slice o1 1 p1) [kd.n1]) := Lib.hid (HX1.out _ (Below.refl _ _)).1
  generalize w1.alloc (.cells #[.int .i64 0, .int .i64 0] 30) = w2 at *
  generalize w1.heap.size = b1 at *
  have HTX := Lib.hid (text_any o1 1 p1 [kd.n1] _ w2 (HT.out.below HB1.out h3) HN1.out kd.b1 kd.w1)
  rw [kd.text1] at HTX
  go_wp2_with fail
  refine HTX.out.mono ?_
  rintro e w3 ⟨rfl, hb3⟩
  have HB3 := Lib.hid hb3
  have HBW3 := Lib.hid (HB1.out.trans (hb3.mono HB1.out.size))
  clear hb3 HTX HN1
  have H2 := Lib.hid (parse_then kd.l2 w3 (HT.out.below HBW3.out h3).tt _ _ _ kd.parse2)
  go_wp2_with fail
  refine H2.out.mono ?_
  rintro e w4 ⟨o2, p2, rfl, hb2, hx2⟩
  have HX2 := Lib.hid hx2
  have HB4 : Hid (Below w3.heap.size w3 (w4.alloc (.cells #[.int .i64 80, .int .i64 1] 30))) := Lib.hid (hx2 _ (Below.refl _ _)).2.2
  clear hx2 hb2 H2
  go_upto_region 4 with fail
  generalize w4.alloc (.cells #[.int .i64 80, .int .i64 1] 30) = w5 at *
  generalize w4.heap.size = b2 at *
  have HBW5 := Lib.hid (HBW3.out.trans (HB4.out.mono HBW3.out.size))
  have H3 := Lib.hid (parse_then kd.l3 w5 (HT.out.below HBW5.out h3).tt _ _ _ kd.parse3)
  go_wp2_with fail
  refine H3.out.mono ?_
  rintro e w6 ⟨o3, p3, rfl, hb2, hx3⟩
  have HX3 := Lib.hid hx3
  have HB6 : Hid (Below w5.heap.size w5 (w6.alloc (.cells #[.int .i64 82, .int .i64 4] 30))) := Lib.hid (hx3 _ (Below.refl _ _)).2.2
  clear hx3 hb2 H3
  go_upto_region 5 with fail
  generalize w6.alloc (.cells #[.int .i64 82, .int .i64 4] 30) = w7 at *
  generalize w6.heap.size = b3 at *
  have HBW7 := Lib.hid (HBW5.out.trans (HB6.out.mono HBW5.out.size))
  have H4 := Lib.hid (parse_then kd.l4 w7 (HT.out.below HBW7.out h3).tt _ _ _ kd.parse4)
  go_wp2_with fail
  refine H4.out.mono ?_
  rintro e w8 ⟨o4, p4, rfl, hb2, hx4⟩
  have HX4 := Lib.hid hx4
  have HB8 : Hid (Below w7.heap.size w7 (w8.alloc (.cells #[.int .i64 81, .int .i64 6] 30))) := Lib.hid (hx4 _ (Below.refl _ _)).2.2
  clear hx4 hb2 H4
  go_upto_region 6 with fail
  generalize w8.alloc (.cells #[.int .i64 81, .int .i64 6] 30) = w9 at *
  generalize w8.heap.size = b4 at *
  have HBW9 := Lib.hid (HBW7.out.trans (HB8.out.mono HBW7.out.size))
  have HB79 := Lib.hid (HB6.out.trans (HB8.out.mono HB6.out.size))
  have HB39 := Lib.hid (HB4.out.trans (HB79.out.mono HB4.out.size))
  have HB29 := Lib.hid (HB3.out.trans (HB39.out.mono HB3.out.size))
  obtain ⟨r1, q1, _⟩ := HX1.out w9 HB29.out
  obtain ⟨_, q2, _⟩ := HX2.out w9 HB79.out
  obtain ⟨_, q3, _⟩ := HX3.out w9 HB8.out
  obtain ⟨_, q4, _⟩ := HX4.out w9 (Below.refl _ _)
  obtain ⟨g, off, c0, c1, c2, c3, rfl, hg, _, hn, e0, e1, e2, e3⟩ := r1.node (k := 0) (by decide)
  obtain ⟨ok, ck, rfl⟩ := hn.kids.slice
  have e3' : w9.cell? ⟨g, off + 3, none⟩ = some (.slice ok 2 ck) := by
    have h : w9.cell? ⟨g, off + 0 * 4 + 3, none⟩ = some (.slice ok 2 ck) := e3
    simpa using h
  have y1 : w9.cell? ⟨b1, 0, none⟩ = some (.int .i64 0) := (cell_of_heap q1).trans rfl
  have y2 : w9.cell? ⟨b2, 0, none⟩ = some (.int .i64 80) := (cell_of_heap q2).trans rfl
  have y3 : w9.cell? ⟨b2, 1, none⟩ = some (.int .i64 1) := (cell_of_heap q2).trans rfl
  have y4 : w9.cell? ⟨b3, 0, none⟩ = some (.int .i64 82) := (cell_of_heap q3).trans rfl
  have y5 : w9.cell? ⟨b3, 1, none⟩ = some (.int .i64 4) := (cell_of_heap q3).trans rfl
  have y6 : w9.cell? ⟨b4, 0, none⟩ = some (.int .i64 81) := (cell_of_heap q4).trans rfl
  have y7 : w9.cell? ⟨b4, 1, none⟩ = some (.int .i64 6) := (cell_of_heap q4).trans rfl
  clear e0 e1 e2 e3 hn q1 q2 q3 q4 r1 HX1 HX2 HX3 HX4 HB29 HB39 HB79 HB8 HB6 HB4 HB3 HBW3 HBW5 HBW7
  go_wp2_with fail
  go_ret
  exact ⟨rfl, HBW9.out⟩
end Go.Proofs.YthmiaamjbokljaaGreatDoor
