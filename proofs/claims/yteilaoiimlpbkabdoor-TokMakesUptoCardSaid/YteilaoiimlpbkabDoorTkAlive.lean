/- The document's examples of layer 7 hold: alive returns true, in every memory. -/
import Derived.Test.YteilaoiimlpbkabDoorTkPlain
namespace Go.Proofs.YteilaoiimlpbkabDoor
open Go.RowKit
abbrev tk.l1 : List UInt8 := [112, 97, 110, 101, 32, 115, 105, 122, 101, 61, 45, 51, 32, 123, 59]
abbrev tk.t1 : List tk.Tok := [{ kind := 1, text := [112, 97, 110, 101], at_ := 0 }, { kind := 1, text := [115, 105, 122, 101], at_ := 5 }, { kind := 4, text := [61], at_ := 9 }, { kind := 3, text := [45, 51], int := -3, at_ := 10 }, { kind := 4, text := [123], at_ := 13 }, { kind := 5, text := [59], at_ := 14 }]
abbrev tk.l2 : List UInt8 := [34, 97, 92, 110, 34]
abbrev tk.t2 : List tk.Tok := [{ kind := 2, text := [97, 10], at_ := 0 }]
abbrev tk.l3 : List UInt8 := [49, 120]
theorem tk.tokens1 : tk.tokens tk.l1 = (tk.t1, 0, 0) := by kernel_rfl
theorem tk.tokens2 : tk.tokens tk.l2 = (tk.t2, 0, 0) := by kernel_rfl
theorem tk.tokens3 : tk.tokens tk.l3 = ([], 73, 0) := by kernel_rfl
theorem tk.plain1 : tk.plain [112, 97, 110, 101] = true := by kernel_rfl
theorem tk.plain2 : tk.plain [97, 32, 98] = false := by kernel_rfl
/-- behind a call of Tokens whose fault is laid in a block of its own -/
theorem tokens_then (s : List UInt8) (w : World) (ht : TT w) (hl : s.length ≤ 1048576) (ts : List tk.Tok) (c : Nat) (x : Int) (hT : tk.tokens s = (ts, c, x)) :
    Calls Tryd.prog 7 #[str s] w fun e w' => ∃ V, e = .returned (.tuple #[V, .agg #[.int .i64 c, .int .i64 x]]) ∧ Below w.heap.size w w' ∧
      ∀ X, Below (w'.alloc (.cells #[.int .i64 c, .int .i64 x] 26)).heap.size (w'.alloc (.cells #[.int .i64 c, .int .i64 x] 26)) X → X.ownsRow w.heap.size 31 4 V ts.length (tokC ts) ∧ X.heap[w'.heap.size]? = some (.cells #[.int .i64 c, .int .i64 x] 26 (0, 0)) ∧ Below w.heap.size w X := by
  have h := tokens_any s w ht hl
  rw [hT] at h
  refine h.mono ?_
  rintro e w' ⟨V, rfl, hr, hb⟩
  have hba := below_one w' (.cells #[.int .i64 c, .int .i64 x] 26)
  refine ⟨V, rfl, hb, fun X hX => ⟨row_below (row_below hr hba) hX, (hX.block _ (by simp)).trans (heap_alloc_new _ _), (hb.trans (hba.mono hb.size)).trans (hX.mono (Nat.le_trans hb.size hba.size))⟩⟩
set_option maxRecDepth 100000 in
set_option maxHeartbeats 3200000 in
theorem alive_any (w : World) (ht : TT w) : Calls Tryd.prog 6 #[] w fun e w' => e = .returned (.bool true) ∧ Below w.heap.size w w' := by
  have h3 := ht.lt
  have HT := Lib.hid ht
  have H1 := Lib.hid (tokens_then tk.l1 w ht (by decide) _ _ _ tk.tokens1)
  clear ht
  go_enter Tryd.func6, Tryd.ntmps6
  go_wp2_with fail
  refine H1.out.mono ?_
  rintro e w1 ⟨V1, rfl, hb1, hx1⟩
  have HX1 := Lib.hid hx1
  have HB1 : Hid (Below w.heap.size w (w1.alloc (.cells #[.int .i64 0, .int .i64 0] 26))) := Lib.hid (hx1 _ (Below.refl _ _)).2.2
  obtain ⟨o1, p1, rfl⟩ := own_slice (hx1 _ (Below.refl _ _)).1
  clear hx1 hb1 H1
  go_upto_region 2 with fail
  generalize w1.alloc (.cells #[.int .i64 0, .int .i64 0] 26) = w2 at *
  generalize w1.heap.size = b1 at *
  have H2 := Lib.hid (tokens_then tk.l2 w2 (HT.out.below HB1.out h3) (by decide) _ _ _ tk.tokens2)
  go_wp2_with fail
  refine H2.out.mono ?_
  rintro e w3 ⟨V2, rfl, hb2, hx2⟩
  have HX2 := Lib.hid hx2
  have HB2 : Hid (Below w2.heap.size w2 (w3.alloc (.cells #[.int .i64 0, .int .i64 0] 26))) := Lib.hid (hx2 _ (Below.refl _ _)).2.2
  obtain ⟨o2, p2, rfl⟩ := own_slice (hx2 _ (Below.refl _ _)).1
  clear hx2 hb2 H2
  go_upto_region 3 with fail
  generalize w3.alloc (.cells #[.int .i64 0, .int .i64 0] 26) = w4 at *
  generalize w3.heap.size = b2 at *
  have HBW4 := Lib.hid (HB1.out.trans (HB2.out.mono HB1.out.size))
  have H3 := Lib.hid (tokens_then tk.l3 w4 (HT.out.below HBW4.out h3) (by decide) _ _ _ tk.tokens3)
  go_wp2_with fail
  refine H3.out.mono ?_
  rintro e w5 ⟨V3, rfl, hb3, hx3⟩
  have HX3 := Lib.hid hx3
  have HB3 : Hid (Below w4.heap.size w4 (w5.alloc (.cells #[.int .i64 73, .int .i64 0] 26))) := Lib.hid (hx3 _ (Below.refl _ _)).2.2
  clear hx3 hb3 H3
  go_upto_region 4 with fail
  generalize w5.alloc (.cells #[.int .i64 73, .int .i64 0] 26) = w6 at *
  generalize w5.heap.size = b3 at *
  have HBW6 := Lib.hid (HBW4.out.trans (HB3.out.mono HBW4.out.size))
  obtain ⟨r1, q1, _⟩ := HX1.out w6 (HB2.out.trans (HB3.out.mono HB2.out.size))
  obtain ⟨r2, q2, _⟩ := HX2.out w6 HB3.out
  obtain ⟨_, q3, _⟩ := HX3.out w6 (Below.refl _ _)
  obtain ⟨g1, c1, hV1, _, hm1, _, _, _, _, i13, _⟩ := tok_at r1 (k := 3) rfl
  obtain ⟨g1', c1', hV1', _, _, _, _, k14, _, _, _⟩ := tok_at r1 (k := 4) rfl
  obtain ⟨g1'', c1'', hV1'', _, _, _, _, k15, _, _, _⟩ := tok_at r1 (k := 5) rfl
  obtain ⟨g2, c2, hV2, _, hm2, _, _, _, x20, _, _⟩ := tok_at r2 (k := 0) rfl
  obtain ⟨rfl, -, rfl⟩ := Value.slice.inj hV1
  obtain ⟨e1, -, -⟩ := Value.slice.inj hV1'
  obtain ⟨e2, -, -⟩ := Value.slice.inj hV1''
  obtain ⟨rfl, -, rfl⟩ := Value.slice.inj hV2
  have e1' : g1 = g1' := by simpa using e1
  have e2' : g1 = g1'' := by simpa using e2
  subst e1' e2'
  have i13' : w6.cell? ⟨g1, 14, none⟩ = some (.int .i64 (-3)) := i13
  have k14' : w6.cell? ⟨g1, 16, none⟩ = some (.int .i64 4) := k14
  have k15' : w6.cell? ⟨g1, 20, none⟩ = some (.int .i64 5) := k15
  have x20' : w6.cell? ⟨g2, 1, none⟩ = some (str [97, 10]) := x20
  have y1 : w6.cell? ⟨b1, 0, none⟩ = some (.int .i64 0) := (cell_of_heap q1).trans rfl
  have y2 : w6.cell? ⟨b2, 0, none⟩ = some (.int .i64 0) := (cell_of_heap q2).trans rfl
  have y3 : w6.cell? ⟨b3, 0, none⟩ = some (.int .i64 73) := (cell_of_heap q3).trans rfl
  have y4 : w6.cell? ⟨b3, 1, none⟩ = some (.int .i64 0) := (cell_of_heap q3).trans rfl
  have HP1 := Lib.hid (plain_any [112, 97, 110, 101] w6 (HT.out.below HBW6.out h3) (by decide))
  rw [tk.plain1] at HP1
  have HP2 := Lib.hid (fun X (hX : Below w6.heap.size w6 X) => plain_any [97, 32, 98] X (HT.out.below (HBW6.out.trans (hX.mono HBW6.out.size)) h3) (by decide))
  rw [tk.plain2] at HP2
  clear i13 k14 k15 x20 e1 e2 hV1' hV1'' q1 q2 q3 r1 r2 hV1 hV2 HX1 HX2 HX3
  go_wp2_with fail
  refine HP1.out.mono ?_
  rintro e w7 ⟨rfl, hb7⟩
  have HB7 := Lib.hid hb7
  clear hb7
  go_wp2_with fail
  refine (HP2.out w7 HB7.out).mono ?_
  rintro e w8 ⟨rfl, hb8⟩
  have HB8 := Lib.hid (HBW6.out.trans ((HB7.out.trans (hb8.mono HB7.out.size)).mono HBW6.out.size))
  clear hb8
  go_wp2_with fail
  go_ret
  exact ⟨rfl, HB8.out⟩
end Go.Proofs.YteilaoiimlpbkabDoor
