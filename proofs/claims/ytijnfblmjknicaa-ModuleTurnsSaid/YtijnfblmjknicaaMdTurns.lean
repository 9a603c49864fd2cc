/- ModuleTurns: the walk. -/
import Derived.Test.YtijnfblmjknicaaMdBegins
import Derived.Test.YtijnfblmjknicaaMdSame
namespace Go.Proofs.Ytijnfblmjknicaa
open Go.RowKit
theorem List.set_getElem?_self' {l : List UInt8} {n : Nat} {u : UInt8} (h : l[n]? = some u) : l.set n u = l := by
  obtain ⟨hn, rfl⟩ := List.getElem?_eq_some_iff.1 h
  simp
set_option maxRecDepth 100000 in
set_option maxHeartbeats 3200000 in
theorem turns_any (m : md.Mod) (VD VF : Value) (x : Int) (c : UInt8) (w : World) (h : ModIn w (fun b => b < w.heap.size) VD VF m) (hi : md.fnsI m.funcs) :
    Calls Try.prog 7 #[modV m VD VF, .int .i64 x, .int .u8 (c.toNat : Nat)] w fun e w' => e = .returned (.bool true) ∧ Below w.heap.size w w' := by
  have HAL := Lib.hid (fun W => alive_any W)
  have HTU := Lib.hid (fun he i hl hc => md.turns (m := m) he hi i c hl hc)
  have HDW := Lib.hid (fun he => md.dec_write (m := m) he hi)
  have HE0 := Lib.hid (md.err0 (m := m))
  have HEN : Hid (md.err m ≠ 0 → md.err m = 1 ∨ md.err m = 2) := Lib.hid (fun h => by unfold md.err at h ⊢; split <;> (try split) <;> simp_all)
  have HEC := Lib.hid (fun W hW hD => encode_any (fun b => b < w.heap.size) m VD VF W hW hD hi)
  have hb0 := below_one w (.cells #[.int .i64 m.mem, VD, VF] 26)
  have hn0 := heap_alloc_new w (.cells #[.int .i64 m.mem, VD, VF] 26)
  obtain ⟨od, cd, of, cf, rfl, rfl, -⟩ := h.slices
  have H0 := Lib.hid (And.intro hn0 (And.intro (h.below hb0) hb0))
  have hand := i64_and4095 x
  have hpos := md.write_pos m
  have hc := c.toNat_lt
  clear h hb0 hn0
  obtain ⟨mem, d, fs⟩ := m
  go_enter Try.func7, Try.ntmps7
  go_wp2_with fail
  refine (HAL.out _).mono ?_
  rintro e w1 ⟨rfl, hb1⟩
  have H1 := Lib.hid (And.intro ((hb1.block _ (heap_lt H0.out.1)).trans H0.out.1) (And.intro (H0.out.2.1.below hb1) (H0.out.2.2.trans (hb1.mono H0.out.2.2.size))))
  clear hb1 H0
  have k0 : w1.cell? ⟨w.heap.size, 0, none⟩ = some (.int .i64 mem) := (cell_of_heap H1.out.1).trans rfl
  have k1 : w1.cell? ⟨w.heap.size, 1, none⟩ = some (.slice od d.length cd) := (cell_of_heap H1.out.1).trans rfl
  have k2 : w1.cell? ⟨w.heap.size, 2, none⟩ = some (.slice of fs.length cf) := (cell_of_heap H1.out.1).trans rfl
  have hlt1 := heap_lt H1.out.1
  have HENC := Lib.hid (HEC.out w1 H1.out.2.1 (fun k hk => Nat.lt_trans hk hlt1))
  have HB1 := Lib.hid H1.out.2.2
  have HM1 := Lib.hid H1.out.2.1
  have HBX1 := Lib.hid H1.out.1
  clear HEC H1 HAL
  go_wp2_with fail
  refine HENC.out.mono ?_
  rintro e w2 ⟨v2, rfl, hr2, hb2⟩
  have HB2 := Lib.hid (HB1.out.trans (hb2.mono HB1.out.size))
  have HM2 := Lib.hid (HM1.out.below hb2)
  have HBX2 := Lib.hid ((hb2.block _ (heap_lt HBX1.out)).trans HBX1.out)
  have HR2 := Lib.hid hr2
  clear hb2 HENC HB1 HM1 HBX1 k0 k1 k2 hr2
  by_cases he : md.err ⟨mem, d, fs⟩ = 0
  case neg =>
    have e1 : (((md.err ⟨mem, d, fs⟩ : Nat) : Int) != 0) = true := by simp; omega
    generalize md.err ⟨mem, d, fs⟩ = er at *
    clear HTU HDW HE0 HEN
    go_wp2_with fail
    go_ret
    exact ⟨rfl, HB2.out⟩
  case pos =>
    obtain ⟨-, hl4, hen⟩ := HE0.out he
    have HTU2 := Lib.hid (HTU.out he)
    have HDW2 := Lib.hid (HDW.out he)
    have hr2 := HR2.out
    rw [hen] at hr2
    rw [he]
    clear he HTU HDW HE0 HEN HR2 hen
    generalize md.write ⟨mem, d, fs⟩ = X at *
    have HROW := Lib.hid hr2
    obtain ⟨ao, ac, rfl⟩ := own_slice hr2
    have hac := (RowIn.lens hr2.toIn).2
    clear hr2
    have hmod : 0 ≤ x % 4096 ∧ x % 4096 < 4096 := by omega
    obtain ⟨y, hy⟩ : ∃ y : Nat, x % 4096 = y := ⟨(x % 4096).toNat, by omega⟩
    rw [hy] at hand
    obtain ⟨n, hn⟩ : ∃ n : Nat, y % X.length = n := ⟨_, rfl⟩
    have hnl : n < X.length := by rw [← hn]; exact Nat.mod_lt _ hpos
    have hrem : Int.tmod (y : Int) (X.length : Int) = (n : Int) := by rw [← hn]; rfl
    clear hmod hy hn
    have hxn : X[n]? = some X[n] := List.getElem?_eq_getElem hnl
    obtain ⟨u, hu⟩ : ∃ u, X[n] = u := ⟨_, rfl⟩
    rw [hu] at hxn
    have HXU := Lib.hid (And.intro hxn (fun h => HTU2.out n hnl (by rw [hu]; exact h)))
    clear hxn hu HTU2
    have hbw : w.heap.size ≤ w2.heap.size := HB2.out.size
    go_upto_region 7 with fail
    have hb5 := below_one w2 (.cells #[] 5)
    have H5 := Lib.hid (And.intro (empty_row w2 w2.heap.size (Nat.le_refl _)) (And.intro (BRow.toIn (row_below HROW.out hb5)) hb5))
    clear hb5
    go_wp2_with (at_builtin; go_loud (refine wpList_bytes rfl _ _ rfl w2.heap.size (.slice (some ⟨w2.heap.size, 0, none⟩) 0 0) [] rfl H5.out.1 ao X.length ac (fun _ => True) X rfl H5.out.2.1 (show 0 + X.length ≤ _ by omega) (by simp) ?_))
    intro v6 w6 r1 r2
    have hb26 : Below w2.heap.size w2 w6 := H5.out.2.2.grown r2 (by simp) (fun k hk => (H5.out.1.lt k hk).1)
    obtain ⟨g6, ac6, cur6, rfl, hg6, hcur6, hc6, hm6⟩ : ∃ g cap cur, v6 = .slice (some ⟨g, 0, none⟩) X.length cap ∧ w2.heap.size ≤ g ∧ w6.heap[g]? = some (.cells cur 5 (0, 0)) ∧ X.length ≤ cap ∧ cap ≤ maxLen := by
      rcases r1.2 with ⟨_, h0⟩ | ⟨g, cap, cur, rfl, hb, hg, hc, hm, _⟩
      · exfalso; omega
      · exact ⟨g, cap, cur, rfl, hb, hg, hc, hm⟩
    have hst := (World.ownsRow.stored r1 n (.int .u8 (c.toNat : Nat))).1
    have hcell : w6.cell? ⟨g6, n, none⟩ = some (.int .u8 (u.toNat : Nat)) := by
      rw [World.ownsRow.cellAt r1 n (by omega)]
      unfold byC
      rw [List.getElem?_map, HXU.out.1]
      rfl
    have hfz := thaw (k := n) hcur6
    have hlt6 := heap_lt hcur6
    have hb27 : Below w2.heap.size w2 (w6.setCell ⟨g6, n, none⟩ (.int .u8 (c.toNat : Nat))) := hb26.setCell hg6 _
    obtain ⟨Y, hY⟩ : ∃ Y, X.set n c = Y := ⟨_, rfl⟩
    have hYl : Y.length = X.length := by rw [← hY]; simp
    have hyin : BsIn (w6.setCell ⟨g6, n, none⟩ (.int .u8 (c.toNat : Nat))) (fun _ => True) (.slice (some ⟨g6, 0, none⟩) X.length ac6) Y := by
      have e : (byC X).set n (.int .u8 (c.toNat : Nat)) = byC Y := by rw [← hY]; unfold byC; rw [List.map_set]
      rw [e] at hst
      show RowIn _ _ _ _ Y.length _
      rw [hYl]
      exact RowIn.of_own hst (by rw [byC_len, hYl, Nat.mul_one]) _ (fun _ _ => trivial)
    have HY := Lib.hid hY
    have H7 := Lib.hid (And.intro hyin (And.intro (BRow.toIn (row_below HROW.out hb27)) (And.intro (HM2.out.below hb27) (And.intro ((hb27.block _ (heap_lt HBX2.out)).trans HBX2.out) (HB2.out.trans (hb27.mono hbw))))))
    clear r1 r2 hb26 hst hcur6 hb27 hY hyin H5 HROW HM2 HBX2 HB2
    go_upto_region 9 with fail
    generalize w6.setCell ⟨g6, n, none⟩ (.int .u8 (c.toNat : Nat)) = w7 at *
    clear hcell hfz hlt6
    have HDC := Lib.hid (decode_any _ _ Y w7 H7.out.1)
    go_wp2_with fail
    refine HDC.out.mono ?_
    rintro e w8 ⟨VD, VF, rfl, hm8, hb8⟩
    have HM8 := Lib.hid hm8.toIn
    have H8 := Lib.hid (And.intro (RowIn.below H7.out.2.1 hb8) (And.intro (H7.out.2.2.1.below hb8) (And.intro ((hb8.block _ (heap_lt H7.out.2.2.2.1)).trans H7.out.2.2.2.1) (H7.out.2.2.2.2.trans (hb8.mono H7.out.2.2.2.2.size)))))
    obtain ⟨od2, cd2, of2, cf2, rfl, rfl, -⟩ := hm8.toIn.slices
    clear hm8 hb8 HDC H7
    have HTT : Hid ((c = u → Y = X) ∧ (c ≠ u → (md.code Y = 0 ∧ md.dec Y ≠ ⟨mem, d, fs⟩) ∨ (md.code Y = 120 ∧ n ≤ md.place Y))) := Lib.hid ⟨fun h => by rw [← HY.out, h]; exact List.set_getElem?_self' HXU.out.1, fun h => by rw [← HY.out]; exact HXU.out.2 h⟩
    have HDY : Hid (Y = X → md.code Y = 0 ∧ md.dec Y = ⟨mem, d, fs⟩) := Lib.hid (fun h => by rw [h]; exact ⟨HDW2.out.1, HDW2.out.2.1⟩)
    clear HDW2 HY
    generalize md.dec Y = M at *
    obtain ⟨mem2, d2, fs2⟩ := M
    generalize md.code Y = cd9 at *
    generalize md.place Y = pl at *
    go_upto_region 10 with fail
    obtain ⟨w9, hw9⟩ : ∃ w9, (w8.alloc (.cells #[.int .i64 mem2, .slice od2 d2.length cd2, .slice of2 fs2.length cf2] 26)).alloc (.cells #[.int .i64 cd9, .int .i64 pl] 29) = w9 := ⟨_, rfl⟩
    have hx9 := boxes_two w8 _ _ _ _ _ w9 hw9
    rw [hw9]
    have H9 := Lib.hid (And.intro (H8.out.2.1.below hx9.2.2) (And.intro (HM8.out.below hx9.2.2) (H8.out.2.2.2.trans (hx9.2.2.mono H8.out.2.2.2.size))))
    have hbx := (hx9.2.2.block _ (heap_lt H8.out.2.2.1)).trans H8.out.2.2.1
    have k0 : w9.cell? ⟨w.heap.size, 0, none⟩ = some (.int .i64 mem) := (cell_of_heap hbx).trans rfl
    have k1 : w9.cell? ⟨w.heap.size, 1, none⟩ = some (.slice od d.length cd) := (cell_of_heap hbx).trans rfl
    have k2 : w9.cell? ⟨w.heap.size, 2, none⟩ = some (.slice of fs.length cf) := (cell_of_heap hbx).trans rfl
    have hl3 := heap_lt hbx
    obtain ⟨b9, off9, rfl, hb9, q9⟩ := BsIn.cell (RowIn.below H8.out.1 hx9.2.2) n hnl
    rw [show X[n] = u from (List.getElem?_eq_some_iff.1 HXU.out.1).2] at q9
    have f0 : w9.cell? ⟨w8.heap.size + 1, 0, none⟩ = some (.int .i64 cd9) := (cell_of_heap hx9.2.1).trans rfl
    have f1 : w9.cell? ⟨w8.heap.size + 1, 1, none⟩ = some (.int .i64 pl) := (cell_of_heap hx9.2.1).trans rfl
    have m0 : w9.cell? ⟨w8.heap.size, 0, none⟩ = some (.int .i64 mem2) := (cell_of_heap hx9.1).trans rfl
    have m1 : w9.cell? ⟨w8.heap.size, 1, none⟩ = some (.slice od2 d2.length cd2) := (cell_of_heap hx9.1).trans rfl
    have m2 : w9.cell? ⟨w8.heap.size, 2, none⟩ = some (.slice of2 fs2.length cf2) := (cell_of_heap hx9.1).trans rfl
    have hl1 := heap_lt hx9.2.1
    have hl2 := heap_lt hx9.1
    have HSM := Lib.hid (same_any _ _ (⟨mem2, d2, fs2⟩ : md.Mod) ⟨mem, d, fs⟩ _ _ _ _ w9 H9.out.2.1 H9.out.1)
    have HB9 := Lib.hid H9.out.2.2
    clear hx9 hw9 hbx H8 HM8 H9 HXU
    generalize w8.heap.size = q8 at *
    generalize d.length = nd at *
    generalize fs.length = nf at *
    generalize d2.length = nd2 at *
    generalize fs2.length = nf2 at *
    generalize X.length = nx at *
    by_cases hcu : c = u
    · have hYX := HTT.out.1 hcu
      obtain ⟨rfl, hMm⟩ := HDY.out hYX
      have HMM := Lib.hid hMm
      have e1 : ((c.toNat : Int) == (u.toNat : Int)) = true := by rw [hcu]; simp
      clear HTT HDY hYX hMm hcu
      go_wp2_with fail
      refine HSM.out.mono ?_
      rintro e w10 ⟨⟨r, rfl, hr⟩, hb10⟩
      obtain rfl : r = true := hr.2 HMM.out
      have HB10 := Lib.hid (HB9.out.trans (hb10.mono HB9.out.size))
      clear hr hb10
      go_wp2_with fail
      go_ret
      exact ⟨rfl, HB10.out⟩
    · have hcn : c.toNat ≠ u.toNat := fun h => hcu (UInt8.toNat_inj.1 h)
      have e1 : ((c.toNat : Int) == (u.toNat : Int)) = false := by simp; omega
      rcases HTT.out.2 hcu with ⟨rfl, hMm⟩ | ⟨rfl, hpl⟩
      · have HMM := Lib.hid hMm
        clear HTT HDY hMm hcu hcn
        go_wp2_with fail
        refine HSM.out.mono ?_
        rintro e w10 ⟨⟨r, rfl, hr⟩, hb10⟩
        obtain rfl : r = false := by
          cases r with
          | false => rfl
          | true => exact absurd (hr.1 rfl) HMM.out
        have HB10 := Lib.hid (HB9.out.trans (hb10.mono HB9.out.size))
        clear hr hb10
        go_wp2_with fail
        go_ret
        exact ⟨rfl, HB10.out⟩
      · have hpi : (n : Int) ≤ (pl : Int) := by omega
        clear HTT HDY hcu hcn HSM
        go_wp2_with fail
        go_ret
        exact ⟨rfl, HB9.out⟩
end Go.Proofs.Ytijnfblmjknicaa
