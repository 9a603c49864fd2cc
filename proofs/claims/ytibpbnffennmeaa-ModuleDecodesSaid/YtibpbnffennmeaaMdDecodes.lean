/- ModuleDecodes: the walk. -/
import Derived.Test.YtibpbnffennmeaaMdRefDecode
import Derived.Test.YtibpbnffennmeaaMdAlive
namespace Go.Proofs.Ytibpbnffennmeaa
open Go.RowKit
theorem hSFlt : Try.prog.underlying 29 = some (.struct (Try.prog.fieldsOf 29)) := by kernel_rfl
theorem hpFlt : Try.prog.stoodInHeld 29 = false := by kernel_rfl
set_option maxRecDepth 100000 in
theorem run_eq_flt (c x : Int) (w : World) : (binOp .eql 29 (.agg #[.int .i64 c, .int .i64 x]) (.agg #[.int .i64 c, .int .i64 x])).run Try.prog w = .ok (.bool true) w := by
  have u3 := Try.underlying3
  have a3 := Try.isAgg3
  have z3 := Try.sizeOf3
  have u4 := Try.underlying27
  have a4 := Try.isAgg27
  have z4 := Try.sizeOf27
  rw [run_eql_struct, show (10000 : Nat) = 9999 + 1 from rfl, run_equalIn_agg w 9999 29 _ _ hSFlt hpFlt]
  simp only [Program.fieldsOf, Try.underlying29]
  go_simp
set_option maxRecDepth 100000 in
set_option maxHeartbeats 3200000 in
theorem decodes_any (V : Value) (b : List UInt8) (w : World) (h : BsIn w (fun k => k < w.heap.size) V b) :
    Calls Try.prog 3 #[V] w fun e w' => e = .returned (.bool true) ∧ Below w.heap.size w w' := by
  have HAL := Lib.hid (fun W => alive_any W)
  have HDE := Lib.hid (fun W h => decode_any (fun k => k < w.heap.size) V b W h)
  have HRD := Lib.hid (fun W h => rdecode_any (fun k => k < w.heap.size) V b W h)
  have HIN := Lib.hid h
  obtain ⟨o, cap, rfl, hl1, hl2, -⟩ := id h
  clear h hl1 hl2
  go_enter Try.func3, Try.ntmps3
  go_wp2_with fail
  refine (HAL.out _).mono ?_
  rintro e w1 ⟨rfl, hb1⟩
  have HB1 := Lib.hid hb1
  have HC1 := Lib.hid (HDE.out w1 (RowIn.below HIN.out hb1))
  clear hb1 HAL HDE
  go_wp2_with fail
  refine HC1.out.mono ?_
  rintro e w2 ⟨VD, VF, rfl, hm2, hb2⟩
  obtain ⟨od, cd, of, cf, rfl, rfl, -⟩ := hm2.toIn.slices
  have HM2 := Lib.hid hm2.toIn
  have HB2 := Lib.hid (HB1.out.trans (hb2.mono HB1.out.size))
  clear hm2 hb2 HB1 HC1
  obtain ⟨M, hM⟩ : ∃ M, md.dec b = M := ⟨_, rfl⟩
  rw [hM] at HM2
  have HRD2 : Hid (∀ W, BsIn W (fun k => k < w.heap.size) (.slice o b.length cap) b → Calls Try.prog 6 #[.slice o b.length cap] W fun e w' => ∃ VD VF, e = .returned (.tuple #[modV M VD VF, .agg #[.int .i64 (md.code b : Nat), .int .i64 (md.place b : Nat)]]) ∧ ModO w' W.heap.size VD VF M ∧ Below W.heap.size W w') := Lib.hid (by
    intro W hW
    rw [← hM]
    exact HRD.out W hW)
  rw [hM]
  clear hM HRD
  generalize md.code b = cc at *
  generalize md.place b = pl at *
  obtain ⟨mem, d, fs⟩ := M
  go_upto_region 4 with fail
  obtain ⟨w3, hw3⟩ : ∃ w3, (w2.alloc (.cells #[.int .i64 mem, .slice od d.length cd, .slice of fs.length cf] 26)).alloc (.cells #[.int .i64 cc, .int .i64 pl] 29) = w3 := ⟨_, rfl⟩
  have hx3 := boxes_two w2 _ _ _ _ _ w3 hw3
  rw [hw3]
  have H3 := Lib.hid (And.intro hx3.1 (And.intro hx3.2.1 (And.intro (HM2.out.below hx3.2.2) (HB2.out.trans (hx3.2.2.mono HB2.out.size)))))
  clear hx3 hw3 HM2 HB2
  generalize w2.heap.size = q at *
  have HC3 := Lib.hid (HRD2.out w3 (RowIn.below HIN.out H3.out.2.2.2))
  go_wp2_with fail
  refine HC3.out.mono ?_
  rintro e w4 ⟨VD', VF', rfl, hm4, hb4⟩
  obtain ⟨od', cd', of', cf', rfl, rfl, -⟩ := hm4.toIn.slices
  have HM4 := Lib.hid (show ModIn w4 (fun k => w3.heap.size ≤ k ∧ k < w4.heap.size) (.slice od' d.length cd') (.slice of' fs.length cf') ⟨mem, d, fs⟩ from hm4.toIn)
  have H4 := Lib.hid (And.intro ((hb4.block _ (heap_lt H3.out.1)).trans H3.out.1) (And.intro ((hb4.block _ (heap_lt H3.out.2.1)).trans H3.out.2.1) (And.intro (H3.out.2.2.1.below hb4) (H3.out.2.2.2.trans (hb4.mono H3.out.2.2.2.size)))))
  clear hm4 hb4 HC3 HRD2 H3 HIN
  go_upto_region 5 with fail
  obtain ⟨w5, hw5⟩ : ∃ w5, (w4.alloc (.cells #[.int .i64 mem, .slice od' d.length cd', .slice of' fs.length cf'] 26)).alloc (.cells #[.int .i64 cc, .int .i64 pl] 29) = w5 := ⟨_, rfl⟩
  have hx5 := boxes_two w4 _ _ _ _ _ w5 hw5
  rw [hw5]
  have hm3 := (hx5.2.2.block _ (heap_lt H4.out.1)).trans H4.out.1
  have hf3 := (hx5.2.2.block _ (heap_lt H4.out.2.1)).trans H4.out.2.1
  have HSM := Lib.hid (same_any _ _ (⟨mem, d, fs⟩ : md.Mod) ⟨mem, d, fs⟩ _ _ _ _ w5 (H4.out.2.2.1.below hx5.2.2) (HM4.out.below hx5.2.2))
  have HB5 := Lib.hid (H4.out.2.2.2.trans (hx5.2.2.mono H4.out.2.2.2.size))
  generalize w4.heap.size = q4 at *
  have a0 : w5.cell? ⟨q, 0, none⟩ = some (.int .i64 mem) := (cell_of_heap hm3).trans rfl
  have a1 : w5.cell? ⟨q, 1, none⟩ = some (.slice od d.length cd) := (cell_of_heap hm3).trans rfl
  have a2 : w5.cell? ⟨q, 2, none⟩ = some (.slice of fs.length cf) := (cell_of_heap hm3).trans rfl
  have la := heap_lt hm3
  have b0 : w5.cell? ⟨q + 1, 0, none⟩ = some (.int .i64 cc) := (cell_of_heap hf3).trans rfl
  have b1 : w5.cell? ⟨q + 1, 1, none⟩ = some (.int .i64 pl) := (cell_of_heap hf3).trans rfl
  have lb := heap_lt hf3
  have c0 : w5.cell? ⟨q4, 0, none⟩ = some (.int .i64 mem) := (cell_of_heap hx5.1).trans rfl
  have c1 : w5.cell? ⟨q4, 1, none⟩ = some (.slice od' d.length cd') := (cell_of_heap hx5.1).trans rfl
  have c2 : w5.cell? ⟨q4, 2, none⟩ = some (.slice of' fs.length cf') := (cell_of_heap hx5.1).trans rfl
  have lc := heap_lt hx5.1
  have e0 : w5.cell? ⟨q4 + 1, 0, none⟩ = some (.int .i64 cc) := (cell_of_heap hx5.2.1).trans rfl
  have e1 : w5.cell? ⟨q4 + 1, 1, none⟩ = some (.int .i64 pl) := (cell_of_heap hx5.2.1).trans rfl
  have le := heap_lt hx5.2.1
  have reqf := run_eq_flt cc pl w5
  clear hm3 hf3 hx5 hw5 H4 HM4
  go_wp2_with fail
  refine HSM.out.mono ?_
  rintro e w10 ⟨⟨r, rfl, hr⟩, hb10⟩
  obtain rfl : r = true := hr.2 rfl
  have HB10 := Lib.hid (HB5.out.trans (hb10.mono HB5.out.size))
  clear hr hb10
  go_wp2_with fail
  go_ret
  exact ⟨rfl, HB10.out⟩
end Go.Proofs.Ytibpbnffennmeaa
