/- ModuleEncodes: the walk. -/
import Derived.Test.YtijnfblmjknicaaMdRefE
namespace Go.Proofs.Ytijnfblmjknicaa
open Go.RowKit
set_option maxRecDepth 100000 in
set_option maxHeartbeats 3200000 in
theorem encodes_any (m : md.Mod) (VD VF : Value) (w : World) (h : ModIn w (fun b => b < w.heap.size) VD VF m) (hi : md.fnsI m.funcs) :
    Calls Try.prog 4 #[modV m VD VF] w fun e w' => e = .returned (.bool true) ∧ Below w.heap.size w w' := by
  have HAL := Lib.hid (fun W => alive_any W)
  have HDW := Lib.hid (fun he => md.dec_write (m := m) he hi)
  have HE0 := Lib.hid (md.err0 (m := m))
  have HEE : Hid (md.err m ≠ 0 → md.enc m = []) := Lib.hid (fun h => by unfold md.enc; rw [if_neg h])
  have HEC := Lib.hid (fun W hW hD => encode_any (fun b => b < w.heap.size) m VD VF W hW hD hi)
  have HRC := Lib.hid (fun W hW hD => rencode_any (fun b => b < w.heap.size) m VD VF W hW hD hi)
  have hb0 := below_one w (.cells #[.int .i64 m.mem, VD, VF] 26)
  have hn0 := heap_alloc_new w (.cells #[.int .i64 m.mem, VD, VF] 26)
  obtain ⟨od, cd, of, cf, rfl, rfl, -⟩ := h.slices
  have H0 := Lib.hid (And.intro hn0 (And.intro (h.below hb0) hb0))
  clear h hb0 hn0
  obtain ⟨mem, d, fs⟩ := m
  go_enter Try.func4, Try.ntmps4
  go_wp2_with fail
  refine (HAL.out _).mono ?_
  rintro e w1 ⟨rfl, hb1⟩
  have H1 := Lib.hid (And.intro ((hb1.block _ (heap_lt H0.out.1)).trans H0.out.1) (And.intro (H0.out.2.1.below hb1) (H0.out.2.2.trans (hb1.mono H0.out.2.2.size))))
  clear hb1 H0
  have k0 : w1.cell? ⟨w.heap.size, 0, none⟩ = some (.int .i64 mem) := (cell_of_heap H1.out.1).trans rfl
  have k1 : w1.cell? ⟨w.heap.size, 1, none⟩ = some (.slice od d.length cd) := (cell_of_heap H1.out.1).trans rfl
  have k2 : w1.cell? ⟨w.heap.size, 2, none⟩ = some (.slice of fs.length cf) := (cell_of_heap H1.out.1).trans rfl
  have hlt1 := heap_lt H1.out.1
  have HENC := Lib.hid (HEC.out w1 H1.out.2.1 (fun k hk => Nat.lt_trans hk hlt1))
  have HB1 := Lib.hid H1.out.2.2
  have HM1 := Lib.hid H1.out.2.1
  have HBX1 := Lib.hid H1.out.1
  clear HEC H1 HAL
  go_wp2_with fail
  refine HENC.out.mono ?_
  rintro e w2 ⟨v2, rfl, hr2, hb2⟩
  have HB2 := Lib.hid (HB1.out.trans (hb2.mono HB1.out.size))
  have HM2 := Lib.hid (HM1.out.below hb2)
  have HBX2 := Lib.hid ((hb2.block _ (heap_lt HBX1.out)).trans HBX1.out)
  have HR2 := Lib.hid hr2
  clear hb2 HENC HB1 HM1 HBX1 k0 k1 k2 hr2 hlt1
  have k0 : w2.cell? ⟨w.heap.size, 0, none⟩ = some (.int .i64 mem) := (cell_of_heap HBX2.out).trans rfl
  have k1 : w2.cell? ⟨w.heap.size, 1, none⟩ = some (.slice od d.length cd) := (cell_of_heap HBX2.out).trans rfl
  have k2 : w2.cell? ⟨w.heap.size, 2, none⟩ = some (.slice of fs.length cf) := (cell_of_heap HBX2.out).trans rfl
  have hlt2 := heap_lt HBX2.out
  have HRNC := Lib.hid (HRC.out w2 HM2.out (fun k hk => Nat.lt_trans hk hlt2))
  clear HRC
  go_wp2_with fail
  refine HRNC.out.mono ?_
  rintro e w3 ⟨v3, rfl, hr3, hb3⟩
  have HB3 := Lib.hid (HB2.out.trans (hb3.mono HB2.out.size))
  have HM3 := Lib.hid (HM2.out.below hb3)
  have HBX3 := Lib.hid ((hb3.block _ (heap_lt HBX2.out)).trans HBX2.out)
  have HR3 := Lib.hid (row_below HR2.out hb3)
  have HSB := Lib.hid (sameBytes_any _ _ v2 v3 _ _ w3 (BRow.toIn HR3.out) (BRow.toIn hr3))
  rw [decide_eq_true rfl] at HSB
  have HQ3 := Lib.hid hr3
  clear hb3 HRNC HB2 HM2 HBX2 HR2 k0 k1 k2 hr3 hlt2
  obtain ⟨ao, ac, rfl⟩ := own_slice HR3.out
  obtain ⟨ao3, ac3, rfl⟩ := own_slice HQ3.out
  clear HQ3
  by_cases he : md.err ⟨mem, d, fs⟩ = 0
  case neg =>
    have e1 : (((md.err ⟨mem, d, fs⟩ : Nat) : Int) != 0) = true := by simp; omega
    have hen := HEE.out he
    rw [hen] at HSB ⊢
    generalize md.err ⟨mem, d, fs⟩ = er at *
    clear HDW HE0 HEE HR3
    go_wp2_with fail
    refine HSB.out.mono ?_
    rintro e w4 ⟨rfl, hb4⟩
    have HB4 := Lib.hid (HB3.out.trans (hb4.mono HB3.out.size))
    clear hb4
    go_wp2_with fail
    go_ret
    exact ⟨rfl, HB4.out⟩
  case pos =>
    obtain ⟨-, hl4, hen⟩ := HE0.out he
    have HDW2 := Lib.hid (HDW.out he)
    have hr3 := HR3.out
    rw [hen] at hr3 HSB
    rw [hen, he]
    clear he HDW HE0 HR3 hen HEE
    generalize md.write ⟨mem, d, fs⟩ = X at *
    have HROW := Lib.hid hr3
    clear hr3
    go_wp2_with fail
    refine HSB.out.mono ?_
    rintro e w4 ⟨rfl, hb4⟩
    have HDC := Lib.hid (decode_any _ _ X w4 (RowIn.below (BRow.toIn HROW.out) hb4))
    have H4 := Lib.hid (And.intro (HM3.out.below hb4) (And.intro ((hb4.block _ (heap_lt HBX3.out)).trans HBX3.out) (HB3.out.trans (hb4.mono HB3.out.size))))
    clear hb4 HROW HM3 HBX3 HB3 HSB
    go_wp2_with fail
    refine HDC.out.mono ?_
    rintro e w8 ⟨VD, VF, rfl, hm8, hb8⟩
    have HM8 := Lib.hid hm8.toIn
    have H8 := Lib.hid (And.intro (H4.out.1.below hb8) (And.intro ((hb8.block _ (heap_lt H4.out.2.1)).trans H4.out.2.1) (H4.out.2.2.trans (hb8.mono H4.out.2.2.size))))
    obtain ⟨od2, cd2, of2, cf2, rfl, rfl, -⟩ := hm8.toIn.slices
    clear hm8 hb8 HDC H4
    obtain ⟨hcd, hmm⟩ : md.code X = 0 ∧ md.dec X = ⟨mem, d, fs⟩ := ⟨HDW2.out.1, HDW2.out.2.1⟩
    rw [hmm] at HM8
    rw [hcd, hmm]
    clear HDW2 hcd hmm
    generalize md.place X = pl at *
    go_upto_region 10 with fail
    obtain ⟨w9, hw9⟩ : ∃ w9, (w8.alloc (.cells #[.int .i64 mem, .slice od2 d.length cd2, .slice of2 fs.length cf2] 26)).alloc (.cells #[.int .i64 (0 : Int), .int .i64 pl] 29) = w9 := ⟨_, rfl⟩
    have hx9 := boxes_two w8 _ _ _ _ _ w9 hw9
    rw [hw9]
    have H9 := Lib.hid (And.intro (H8.out.1.below hx9.2.2) (And.intro (HM8.out.below hx9.2.2) (H8.out.2.2.trans (hx9.2.2.mono H8.out.2.2.size))))
    have hbx := (hx9.2.2.block _ (heap_lt H8.out.2.1)).trans H8.out.2.1
    have k0 : w9.cell? ⟨w.heap.size, 0, none⟩ = some (.int .i64 mem) := (cell_of_heap hbx).trans rfl
    have k1 : w9.cell? ⟨w.heap.size, 1, none⟩ = some (.slice od d.length cd) := (cell_of_heap hbx).trans rfl
    have k2 : w9.cell? ⟨w.heap.size, 2, none⟩ = some (.slice of fs.length cf) := (cell_of_heap hbx).trans rfl
    have hl3 := heap_lt hbx
    have f0 : w9.cell? ⟨w8.heap.size + 1, 0, none⟩ = some (.int .i64 0) := (cell_of_heap hx9.2.1).trans rfl
    have m0 : w9.cell? ⟨w8.heap.size, 0, none⟩ = some (.int .i64 mem) := (cell_of_heap hx9.1).trans rfl
    have m1 : w9.cell? ⟨w8.heap.size, 1, none⟩ = some (.slice od2 d.length cd2) := (cell_of_heap hx9.1).trans rfl
    have m2 : w9.cell? ⟨w8.heap.size, 2, none⟩ = some (.slice of2 fs.length cf2) := (cell_of_heap hx9.1).trans rfl
    have hl1 := heap_lt hx9.2.1
    have hl2 := heap_lt hx9.1
    have HSM := Lib.hid (same_any _ _ (⟨mem, d, fs⟩ : md.Mod) ⟨mem, d, fs⟩ _ _ _ _ w9 H9.out.2.1 H9.out.1)
    have HB9 := Lib.hid H9.out.2.2
    clear hx9 hw9 hbx H8 HM8 H9
    generalize w8.heap.size = q8 at *
    generalize d.length = nd at *
    generalize fs.length = nf at *
    go_wp2_with fail
    refine HSM.out.mono ?_
    rintro e w10 ⟨⟨r, rfl, hr⟩, hb10⟩
    obtain rfl : r = true := hr.2 rfl
    have HB10 := Lib.hid (HB9.out.trans (hb10.mono HB9.out.size))
    clear hr hb10
    go_wp2_with fail
    go_ret
    exact ⟨rfl, HB10.out⟩
end Go.Proofs.Ytijnfblmjknicaa
