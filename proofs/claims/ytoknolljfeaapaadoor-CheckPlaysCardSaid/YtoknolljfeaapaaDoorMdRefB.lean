/- The document's Bytes. -/
import Derived.Test.YtoknolljfeaapaaDoorMdRefW
namespace Go.Proofs.YtoknolljfeaapaaDoor
open Go.RowKit
set_option maxRecDepth 100000 in
theorem rhas2_any (op : Int) (w : World) : Calls Tryd.prog 68 #[.int .i64 op] w fun e w' => e = .returned (.bool (md.has op)) ∧ w' = w := by
  have HD : Hid (md.has op = decide (op = 1 ∨ op = 5 ∨ op = 6 ∨ op = 24 ∨ op = 25 ∨ op = 26 ∨ op = 28)) := Lib.hid rfl
  generalize md.has op = R at *
  have h8 : op = 1 ∨ op = 5 ∨ op = 6 ∨ op = 24 ∨ op = 25 ∨ op = 26 ∨ op = 28 ∨ (op ≠ 1 ∧ op ≠ 5 ∧ op ≠ 6 ∧ op ≠ 24 ∧ op ≠ 25 ∧ op ≠ 26 ∧ op ≠ 28) := by omega
  rcases h8 with rfl | rfl | rfl | rfl | rfl | rfl | rfl | ⟨g0, g1, g2, g3, g4, g5, g6⟩
  case inr.inr.inr.inr.inr.inr.inr =>
    have e0 : (op == 1) = false := by simpa using g0
    have e1 : (op == 5) = false := by simpa using g1
    have e2 : (op == 6) = false := by simpa using g2
    have e3 : (op == 24) = false := by simpa using g3
    have e4 : (op == 25) = false := by simpa using g4
    have e5 : (op == 26) = false := by simpa using g5
    have e6 : (op == 28) = false := by simpa using g6
    go_enter Tryd.func68, Tryd.ntmps68
    go_wp2
    go_ret
    exact ⟨ret_bool (by rw [HD.out]; simp [g0, g1, g2, g3, g4, g5, g6]), rfl⟩
  all_goals
    go_enter Tryd.func68, Tryd.ntmps68
    go_wp2
    go_ret
    exact ⟨ret_bool (by rw [HD.out]; rfl), rfl⟩
/-- bytes of a new row, behind a row of bytes -/
theorem rjoin_new {W2 W3 : World} {B : Nat} {v v3 : Value} {l ks : List UInt8} (h : BRow W2 B v l) (hB : B ≤ W2.heap.size) (hb : Below W2.heap.size W2 W3) (hr : BRow W3 W2.heap.size v3 ks) (hl : l.length + ks.length ≤ 1073741824) :
    Calls Tryd.prog 69 #[v, v3] W3 fun e w' => ∃ v', e = .returned v' ∧ BRow w' B v' (l ++ ks) ∧ Tb B W3 w' := by
  obtain ⟨ao, ac, rfl⟩ := own_slice hr
  have hbs : BsIn W3 (fun k => W2.heap.size ≤ k ∧ k < W3.heap.size) (.slice ao ks.length ac) ks := RowIn.of_own hr (by rw [byC_len, Nat.mul_one]) _ (fun g hg => hr.lt g hg)
  refine rjoin_any _ B v l ao ac ks W3 (row_below h hb) (Nat.le_trans hB hb.size) hbs (fun k hk => ⟨hk.2, fun e => ?_⟩) hl
  have := (h.lt k e).2
  omega
set_option maxRecDepth 100000 in
set_option maxHeartbeats 3200000 in
theorem rbytes_any (D : Nat → Prop) (m : md.Mod) (VD VF : Value) (w : World) (hs : ModIn w D VD VF m) (hD : ∀ k, D k → k < w.heap.size) (hr : md.right m = true) (hi : md.fnsI m.funcs) :
    Calls Tryd.prog 54 #[modV m VD VF] w fun e w' => ∃ v', e = .returned v' ∧ BRow w' w.heap.size v' (md.write m) ∧ Below w.heap.size w w' := by
  obtain ⟨od, cd, of, cf, rfl, rfl, hd1, hd2, hf1, hf2⟩ := hs.slices
  obtain ⟨mem, d, fs⟩ := m
  unfold md.right at hr
  simp only [Bool.and_eq_true, decide_eq_true_eq] at hr
  obtain ⟨⟨⟨⟨m0, m1⟩, hd⟩, n0, n1⟩, ha⟩ := hr
  obtain ⟨mem, rfl⟩ := Int.eq_ofNat_of_zero_le m0
  have HW : Hid (md.write ⟨mem, d, fs⟩ = md.head ++ md.twoB mem ++ md.twoB d.length ++ d ++ [UInt8.ofNat fs.length] ++ md.fnsB fs) := Lib.hid (by unfold md.write; simp)
  have HDI := Lib.hid hs
  have HRF := Lib.hid (fun k (h : k < fs.length) => And.intro (List.all_eq_true.1 ha fs[k] (List.getElem_mem h)) (hi fs[k] (List.getElem_mem h)))
  clear hs hi ha m0
  dsimp only at hd1 hf1
  have hb0 := below_one w (modO ⟨mem, d, fs⟩ (.slice od d.length cd) (.slice of fs.length cf))
  have hbx := heap_alloc_new w (modO ⟨mem, d, fs⟩ (.slice od d.length cd) (.slice of fs.length cf))
  have hT1 : Tb w.heap.size w (w.alloc (modO ⟨mem, d, fs⟩ (.slice od d.length cd) (.slice of fs.length cf))) := Tb.of_below hb0 (Nat.le_refl _)
  have HX := Lib.hid (And.intro hbx hT1)
  clear hb0 hbx hT1
  go_enter Tryd.func54, Tryd.ntmps54
  go_upto_region 2 with fail
  have hb2 := below_one (w.alloc (modO ⟨mem, d, fs⟩ (.slice od d.length cd) (.slice of fs.length cf))) (.cells #[.int .u8 67, .int .u8 83, .int .u8 77, .int .u8 1] 5)
  have hl2 := lit_row (w.alloc (modO ⟨mem, d, fs⟩ (.slice od d.length cd) (.slice of fs.length cf))) md.head #[.int .u8 67, .int .u8 83, .int .u8 77, .int .u8 1] rfl 4 rfl (by decide)
  rw [World.size_alloc] at hl2
  have H2 := Lib.hid (And.intro (own_base hl2 (Nat.le_succ _)) (And.intro (HX.out.2.then hb2 (by simp)) ((hb2.block _ (heap_lt HX.out.1)).trans HX.out.1)))
  clear hb2 hl2 HX
  generalize (w.alloc (.cells #[.int .i64 mem, .slice od d.length cd, .slice of fs.length cf] 25)).alloc (.cells #[.int .u8 67, .int .u8 83, .int .u8 77, .int .u8 1] 5) = w2 at *
  have k0 : w2.cell? ⟨w.heap.size, 0, none⟩ = some (.int .i64 mem) := (cell_of_heap H2.out.2.2).trans rfl
  have hlt2 := heap_lt H2.out.2.2
  go_wp2_with fail
  refine (rtwo_any mem w2 (by omega)).mono ?_
  rintro e w3 ⟨v3, rfl, r1, r2⟩
  have HJ3 := Lib.hid (rjoin_new H2.out.1 (Nat.le_of_lt hlt2) r2 r1 (by show 4 + 2 ≤ _; decide))
  have H3 := Lib.hid (And.intro (H2.out.2.1.then r2 (Nat.le_of_lt hlt2)) ((r2.block _ hlt2).trans H2.out.2.2))
  clear r1 r2 H2 k0 hlt2
  go_wp2_with fail
  refine HJ3.out.mono ?_
  rintro e w4 ⟨v4, rfl, r1, r2⟩
  have H4 := Lib.hid (And.intro r1 (And.intro (H3.out.1.trans r2) (r2.keep _ _ H3.out.2 (fun cur e => by injection e with _ e2; exact absurd e2 (by decide)))))
  have HA4 : Hid ((md.head ++ md.twoB mem).length = 6) := Lib.hid rfl
  clear r1 r2 H3 HJ3
  generalize md.head ++ md.twoB mem = acc4 at *
  have k1 : w4.cell? ⟨w.heap.size, 1, none⟩ = some (.slice od d.length cd) := (cell_of_heap H4.out.2.2).trans rfl
  have hlt4 := heap_lt H4.out.2.2
  go_wp2_with fail
  refine (rtwo_any d.length w4 (by omega)).mono ?_
  rintro e w5 ⟨v5, rfl, r1, r2⟩
  have HJ5 := Lib.hid (rjoin_new H4.out.1 (Nat.le_of_lt hlt4) r2 r1 (by rw [HA4.out]; show 6 + 2 ≤ _; decide))
  have H5 := Lib.hid (And.intro (H4.out.2.1.then r2 (Nat.le_of_lt hlt4)) ((r2.block _ hlt4).trans H4.out.2.2))
  clear r1 r2 H4 k1 hlt4
  go_wp2_with fail
  refine HJ5.out.mono ?_
  rintro e w6 ⟨v6, rfl, r1, r2⟩
  have H6 := Lib.hid (And.intro r1 (And.intro (H5.out.1.trans r2) (r2.keep _ _ H5.out.2 (fun cur e => by injection e with _ e2; exact absurd e2 (by decide)))))
  have HA6 : Hid ((acc4 ++ md.twoB d.length).length = 8) := Lib.hid (by rw [List.length_append, HA4.out]; rfl)
  clear r1 r2 H5 HJ5 HA4
  generalize acc4 ++ md.twoB d.length = acc6 at *
  have k1 : w6.cell? ⟨w.heap.size, 1, none⟩ = some (.slice od d.length cd) := (cell_of_heap H6.out.2.2).trans rfl
  have hlt6 := heap_lt H6.out.2.2
  have hd6 : BsIn w6 D (.slice od d.length cd) d := RowIn.keep HDI.out.data (fun k _ hk => H6.out.2.1.bel.block k hk) H6.out.2.1.size (fun _ h _ => h)
  have HJ7 := Lib.hid (rjoin_any D w.heap.size v6 acc6 od cd d w6 H6.out.1 (Nat.le_of_lt hlt6) hd6 (fun k hk => ⟨Nat.lt_trans (hD k hk) hlt6, fun e => by have := (H6.out.1.lt k e).1; have := hD k hk; omega⟩) (by rw [HA6.out]; omega))
  clear hd6
  go_wp2_with fail
  refine HJ7.out.mono ?_
  rintro e w7 ⟨v7, rfl, r1, r2⟩
  have H7 := Lib.hid (And.intro r1 (And.intro (H6.out.2.1.trans r2) (r2.keep _ _ H6.out.2.2 (fun cur e => by injection e with _ e2; exact absurd e2 (by decide)))))
  have HA7 : Hid ((acc6 ++ d).length ≤ 1032) := Lib.hid (by rw [List.length_append, HA6.out]; omega)
  clear r1 r2 H6 k1 hlt6 HA6 HJ7
  generalize acc6 ++ d = acc7 at *
  have k2 : w7.cell? ⟨w.heap.size, 2, none⟩ = some (.slice of fs.length cf) := (cell_of_heap H7.out.2.2).trans rfl
  have hlt7 := heap_lt H7.out.2.2
  obtain ⟨ao7, ac7, rfl⟩ := own_slice H7.out.1
  have HC7 : Hid (#[Value.int .u8 (fs.length : Int)] = (byC [UInt8.ofNat fs.length]).toArray) := Lib.hid (by
    unfold byC
    simp only [List.map_cons, List.map_nil, md.u8_toNat (show fs.length < 256 by omega)])
  go_wp2_with (at_builtin; go_loud (refine wpList_lit w7 _ rfl _ _ rfl w.heap.size (.slice ao7 acc7.length ac7) acc7 rfl H7.out.1 w7.heap.size rfl 1 [UInt8.ofNat fs.length] rfl HC7.out rfl (by rw [List.length_singleton]; have := HA7.out; omega) (Nat.le_of_lt hlt7) ?_))
  intro v8 w8 r1 r2
  have H8 := Lib.hid (And.intro r1 (And.intro (H7.out.2.1.trans r2) (r2.keep _ _ H7.out.2.2 (fun cur e => by injection e with _ e2; exact absurd e2 (by decide)))))
  have HA8 : Hid ((acc7 ++ [UInt8.ofNat fs.length]).length ≤ 1033) := Lib.hid (by rw [List.length_append, List.length_singleton]; have := HA7.out; omega)
  clear r1 r2 H7 k2 hlt7 HA7 HC7
  generalize acc7 ++ [UInt8.ofNat fs.length] = acc8 at *
  have HFS := Lib.hid HDI.out.fns
  obtain ⟨n, hn⟩ : ∃ n, fs.length = n := ⟨_, rfl⟩
  have HN := Lib.hid hn
  have HBX : Hid (w8.heap[w.heap.size]? = some (.cells #[.int .i64 mem, .slice od d.length cd, .slice of n cf] 25)) := Lib.hid (by rw [← hn]; exact H8.out.2.2)
  rw [hn] at n0 n1 hf1
  clear hn
  go_upto_region 7 with fail
  go_loopg [3, 4] n (fun gg s3 s4 wr => ∃ (k : Nat) (v' : Value) (acc : List UInt8), v' = s3 ∧ s4 = .int .i64 k ∧ k ≤ n ∧ n - k ≤ gg ∧ acc.length ≤ 1033 + k * 4405 ∧ Hid (BRow wr w.heap.size v' acc ∧ Tb w.heap.size w wr ∧ acc = acc8 ++ md.fnsB (fs.take k) ∧ wr.heap[w.heap.size]? = some (.cells #[.int .i64 mem, .slice od d.length cd, .slice of n cf] 25)))
  case atStart => exact ⟨0, v8, acc8, rfl, rfl, Nat.zero_le _, by omega, by have := HA8.out; omega, Lib.hid ⟨H8.out.1, H8.out.2.1, by simp [md.fnsB], HBX.out⟩⟩
  case round =>
    clear H8 HA8 HBX
    obtain ⟨k, v', acc, rfl, rfl, hk, hgg, hal, HA⟩ := hrel
    obtain ⟨ao, ac, rfl⟩ := own_slice HA.out.1
    have hBw : w.heap.size ≤ wr.heap.size := HA.out.2.1.size
    have x2 : wr.cell? ⟨w.heap.size, 2, none⟩ = some (.slice of n cf) := (cell_of_heap HA.out.2.2.2).trans rfl
    have hlx := heap_lt HA.out.2.2.2
    by_cases hlt : k < n
    case neg =>
      obtain rfl : k = n := by omega
      have HF : Hid (acc = md.write ⟨mem, d, fs⟩) := Lib.hid (by rw [HA.out.2.2.1, HW.out, List.take_of_length_le (by rw [HN.out]; exact Nat.le_refl _)])
      have HZ := Lib.hid (And.intro HA.out.1 HA.out.2.1.bel)
      clear HA
      go_wp2_with fail
      go_ret
      refine ⟨_, rfl, ?_, HZ.out.2⟩
      rw [← HF.out]
      exact HZ.out.1
    case pos =>
      have hki : (k : Int) < (n : Int) := by omega
      have hkl : k < fs.length := by rw [HN.out]; exact hlt
      obtain ⟨b, off, oc, cc, rfl, -, hb, k0, k1, k2, k3, hin⟩ := FnsIn.cell (tb_mod HFS.out HA.out.2.1 rfl) k hkl
      have hsn := md.fnsB_snoc fs k hkl
      obtain ⟨hrf, hci⟩ := HRF.out k hkl
      generalize fs[k] = f at *
      obtain ⟨p, r, l, c⟩ := f
      unfold md.rightFn at hrf
      simp only [Bool.and_eq_true, decide_eq_true_eq] at hrf
      obtain ⟨⟨⟨⟨⟨p0, p1⟩, r0, r1⟩, l0, l1⟩, c0, c1⟩, hall⟩ := hrf
      obtain ⟨p, rfl⟩ := Int.eq_ofNat_of_zero_le p0
      obtain ⟨r, rfl⟩ := Int.eq_ofNat_of_zero_le r0
      obtain ⟨l, rfl⟩ := Int.eq_ofNat_of_zero_le l0
      dsimp only at k0 k1 k2 k3 hin hci
      have HSN := Lib.hid hsn
      have HTW := Lib.hid HA.out.2.1
      have HCI := Lib.hid (fun j (h : j < c.length) => And.intro (List.all_eq_true.1 hall c[j] (List.getElem_mem h)) (hci c[j] (List.getElem_mem h)))
      have HIN := Lib.hid hin
      obtain ⟨hcc1, hcc2⟩ := (RowIn.lens hin).2
      obtain ⟨nc, hnc⟩ : ∃ nc, c.length = nc := ⟨_, rfl⟩
      have HNC := Lib.hid hnc
      rw [hnc] at k3 c0 c1 hcc1
      have hb7 := below_one wr (.cells #[.int .i64 p, .int .i64 r, .int .i64 l, .slice oc nc cc] 72)
      have H9 := Lib.hid (And.intro (row_below HA.out.1 hb7) (And.intro (HA.out.2.1.then hb7 hBw) (And.intro (heap_alloc_new wr (.cells #[.int .i64 p, .int .i64 r, .int .i64 l, .slice oc nc cc] 72)) ((hb7.block _ hlx).trans HA.out.2.2.2))))
      have HC9 : Hid (#[Value.int .u8 (p : Int), .int .u8 (r : Int), .int .u8 (l : Int)] = (byC [UInt8.ofNat p, UInt8.ofNat r, UInt8.ofNat l]).toArray) := Lib.hid (by
        unfold byC
        simp only [List.map_cons, List.map_nil, md.u8_toNat (show p < 256 by omega), md.u8_toNat (show r < 256 by omega), md.u8_toNat (show l < 256 by omega)])
      have hp8 : (p : Int) ≤ 255 := by omega
      have hr8 : (r : Int) ≤ 255 := by omega
      have hl8 : (l : Int) ≤ 255 := by omega
      clear hsn hall hci hin hnc hb7 p0 p1 r0 r1 l0 l1
      go_wp2_with (at_builtin; go_loud (refine wpList_lit (wr.alloc (.cells #[.int .i64 p, .int .i64 r, .int .i64 l, .slice oc nc cc] 72)) _ rfl _ _ rfl w.heap.size (.slice ao acc.length ac) acc rfl H9.out.1 (wr.heap.size + 1) (World.size_alloc wr _).symm 3 [UInt8.ofNat p, UInt8.ofNat r, UInt8.ofNat l] rfl HC9.out rfl (show acc.length + 3 ≤ _ by omega) (by simp; omega) ?_))
      intro v10 w10 r1 r2
      have H10 := Lib.hid (And.intro r1 (And.intro (H9.out.2.1.trans r2) (And.intro (r2.keep _ _ H9.out.2.2.1 (fun cur e => by injection e with _ e2; exact absurd e2 (by decide))) (r2.keep _ _ H9.out.2.2.2 (fun cur e => by injection e with _ e2; exact absurd e2 (by decide))))))
      have HA10 : Hid ((acc ++ [UInt8.ofNat p, UInt8.ofNat r, UInt8.ofNat l]).length = acc.length + 3) := Lib.hid (by simp)
      have HE10 : Hid (acc ++ [UInt8.ofNat p, UInt8.ofNat r, UInt8.ofNat l] = acc8 ++ md.fnsB (fs.take k) ++ [UInt8.ofNat p, UInt8.ofNat r, UInt8.ofNat l]) := Lib.hid (by rw [HA.out.2.2.1])
      clear r1 r2 H9 k0 k1 k2 k3 HC9 HA hb x2 hlx
      generalize acc ++ [UInt8.ofNat p, UInt8.ofNat r, UInt8.ofNat l] = acc10 at *
      generalize hg7 : wr.heap.size = g7 at *
      have y3 : w10.cell? ⟨g7, 3, none⟩ = some (.slice oc nc cc) := (cell_of_heap H10.out.2.2.1).trans rfl
      have hly := heap_lt H10.out.2.2.1
      go_wp2_with fail
      refine (rtwo_any nc w10 (by omega)).mono ?_
      rintro e w11 ⟨v11, rfl, r1, r2⟩
      have HJ11 := Lib.hid (rjoin_new H10.out.1 (by omega) r2 r1 (by rw [HA10.out]; show _ + 2 ≤ _; omega))
      have H11 := Lib.hid (And.intro (H10.out.2.1.then r2 (by omega)) (And.intro ((r2.block _ hly).trans H10.out.2.2.1) ((r2.block _ (heap_lt H10.out.2.2.2)).trans H10.out.2.2.2)))
      clear r1 r2 H10 y3 hly
      go_wp2_with fail
      refine HJ11.out.mono ?_
      rintro e w12 ⟨v12, rfl, r1, r2⟩
      have H12 := Lib.hid (And.intro r1 (And.intro (H11.out.1.trans r2) (And.intro (r2.keep _ _ H11.out.2.1 (fun cur e => by injection e with _ e2; exact absurd e2 (by decide))) (r2.keep _ _ H11.out.2.2 (fun cur e => by injection e with _ e2; exact absurd e2 (by decide))))))
      have HA12 : Hid ((acc10 ++ md.twoB nc).length = acc.length + 5) := Lib.hid (by rw [List.length_append, HA10.out]; rfl)
      have HE12 : Hid (acc10 ++ md.twoB nc = acc8 ++ md.fnsB (fs.take k) ++ [UInt8.ofNat p, UInt8.ofNat r, UInt8.ofNat l] ++ md.twoB nc) := Lib.hid (by rw [HE10.out])
      clear r1 r2 H11 HJ11 HA10 HE10
      generalize acc10 ++ md.twoB nc = acc12 at *
      go_upto_region 13 with fail
      have HTO := Lib.hid HTW.out
      have HL12 : Hid (g7 ≤ w12.heap.size) := Lib.hid (Nat.le_of_lt (heap_lt H12.out.2.2.1))
      generalize wr = wo at *
      go_loopg [3, 6] nc (fun gg s3 s6 wr => ∃ (j : Nat) (v' : Value) (bcc : List UInt8), v' = s3 ∧ s6 = .int .i64 j ∧ j ≤ nc ∧ nc - j ≤ gg ∧ bcc.length ≤ acc.length + 5 + j * 11 ∧ Hid (BRow wr w.heap.size v' bcc ∧ Tb w.heap.size w wr ∧ bcc = acc12 ++ md.codeB (c.take j) ∧ wr.heap[g7]? = some (.cells #[.int .i64 p, .int .i64 r, .int .i64 l, .slice oc nc cc] 72) ∧ wr.heap[w.heap.size]? = some (.cells #[.int .i64 mem, .slice od d.length cd, .slice (some ⟨b, off, none⟩) n cf] 25)))
      case atStart => exact ⟨0, v12, acc12, rfl, rfl, Nat.zero_le _, by omega, by have := HA12.out; omega, Lib.hid ⟨H12.out.1, H12.out.2.1, by simp [md.codeB], H12.out.2.2.1, H12.out.2.2.2⟩⟩
      case round =>
        clear H12 HA12
        obtain ⟨j, v', bcc, rfl, rfl, hj, hgj, hbl, HB⟩ := hrel
        obtain ⟨ao2, ac2, rfl⟩ := own_slice HB.out.1
        have hBw2 : w.heap.size ≤ wr.heap.size := HB.out.2.1.size
        have y3 : wr.cell? ⟨g7, 3, none⟩ = some (.slice oc nc cc) := (cell_of_heap HB.out.2.2.2.1).trans rfl
        have hly := heap_lt HB.out.2.2.2.1
        by_cases hjlt : j < nc
        case neg =>
          obtain rfl : j = nc := by omega
          have HF : Hid (bcc = acc8 ++ md.fnsB (fs.take (k + 1))) := Lib.hid (by
            rw [HB.out.2.2.1, HSN.out, HE12.out, show c.take j = c from List.take_of_length_le (by rw [HNC.out]; exact Nat.le_refl _)]
            unfold md.fnB
            dsimp only
            rw [HNC.out]
            simp)
          have HZ := Lib.hid (And.intro HB.out.1 (And.intro HB.out.2.1 HB.out.2.2.2.2))
          clear HB
          go_wp2_with fail
          go_roundg (n - (k + 1))
          case measure => omega
          case rel => exact ⟨k + 1, _, bcc, rfl, by go_num, by omega, Nat.le_refl _, by omega, Lib.hid ⟨HZ.out.1, HZ.out.2.1, HF.out, HZ.out.2.2⟩⟩
        case pos =>
          have hji : (j : Int) < (nc : Int) := by omega
          have hjl : j < c.length := by rw [HNC.out]; exact hjlt
          have hcell : ∀ W : World, Tb w.heap.size w W → g7 ≤ W.heap.size → ∃ b off, oc = some ⟨b, off, none⟩ ∧ b < W.heap.size ∧ W.cell? ⟨b, off + j * 2, none⟩ = some (.int .i64 c[j].op) ∧ W.cell? ⟨b, off + j * 2 + 1, none⟩ = some (.int .i64 c[j].n) := fun W hW hg => by
            obtain ⟨b2, off2, e, -, h1, h2, h3⟩ := InsIn.cell (RowIn.keep HIN.out (fun k hk _ => (hW.bel.block k (hD k hk)).trans (HTO.out.bel.block k (hD k hk)).symm) (by omega) (fun _ h _ => h)) j hjl
            exact ⟨b2, off2, e, h1, h2, h3⟩
          have hsn2 := md.codeB_snoc c j hjl
          obtain ⟨hri, hii⟩ := HCI.out j hjl
          generalize c[j] = i at *
          obtain ⟨op, nn⟩ := i
          unfold md.rightIns at hri
          simp only [Bool.and_eq_true, decide_eq_true_eq] at hri
          obtain ⟨⟨o0, o1⟩, -⟩ := hri
          obtain ⟨op, rfl⟩ := Int.eq_ofNat_of_zero_le o0
          dsimp only at hii hcell
          have HS2 := Lib.hid hsn2
          have HCE := Lib.hid hcell
          have HII := Lib.hid hii
          obtain ⟨b2, off2, rfl, hb2, q0, q1⟩ := hcell wr HB.out.2.1 (Nat.le_of_lt hly)
          have HC13 : Hid (#[Value.int .u8 (op : Int)] = (byC [UInt8.ofNat op]).toArray) := Lib.hid (by
            unfold byC
            simp only [List.map_cons, List.map_nil, md.u8_toNat (show op < 256 by omega)])
          have HIB : Hid (md.insB ⟨op, nn⟩ = UInt8.ofNat op :: (if md.has op = true then md.numB nn else [])) := Lib.hid rfl
          have HH := Lib.hid (fun W => rhas2_any (op : Int) W)
          have ho8 : (op : Int) ≤ 255 := by omega
          clear hsn2 o0 hcell hii
          generalize md.has op = hh at *
          go_wp2_with (at_builtin; go_loud (refine wpList_lit wr _ rfl _ _ rfl w.heap.size (.slice ao2 bcc.length ac2) bcc rfl HB.out.1 wr.heap.size rfl 1 [UInt8.ofNat op] rfl HC13.out rfl (show bcc.length + 1 ≤ _ by omega) hBw2 ?_))
          intro v13 w13 r1 r2
          have H13 := Lib.hid (And.intro r1 (And.intro (HB.out.2.1.trans r2) (And.intro (r2.keep _ _ HB.out.2.2.2.1 (fun cur e => by injection e with _ e2; exact absurd e2 (by decide))) (r2.keep _ _ HB.out.2.2.2.2 (fun cur e => by injection e with _ e2; exact absurd e2 (by decide))))))
          have HL13 : Hid ((bcc ++ [UInt8.ofNat op]).length = bcc.length + 1) := Lib.hid (by simp)
          have HE13 : Hid (bcc ++ [UInt8.ofNat op] = acc12 ++ md.codeB (c.take j) ++ [UInt8.ofNat op]) := Lib.hid (by rw [HB.out.2.2.1])
          clear r1 r2 HB q0 q1 hb2 y3 hly HC13
          generalize bcc ++ [UInt8.ofNat op] = bcc1 at *
          have y3 : w13.cell? ⟨g7, 3, none⟩ = some (.slice (some ⟨b2, off2, none⟩) nc cc) := (cell_of_heap H13.out.2.2.1).trans rfl
          have hly := heap_lt H13.out.2.2.1
          obtain ⟨b3, off3, e3, hb2, q0, q1⟩ := HCE.out w13 H13.out.2.1 (Nat.le_of_lt hly)
          injection e3 with e3
          injection e3 with e3 e4
          subst e3 e4
          go_wp2_with fail
          refine (HH.out _).mono ?_
          rintro e w' ⟨rfl, hw⟩
          replace hw := hw.symm
          subst hw
          cases hh with
          | true =>
            go_wp2_with fail
            refine (rnumber_any nn w13 HII.out).mono ?_
            rintro e w14 ⟨v14, rfl, r1, r2⟩
            have HNL := Lib.hid (md.numB_len nn)
            have HJ14 := Lib.hid (rjoin_new H13.out.1 (by omega) r2 r1 (by have := HNL.out; have := HL13.out; omega))
            have H14 := Lib.hid (And.intro (H13.out.2.1.then r2 (by omega)) (And.intro ((r2.block _ hly).trans H13.out.2.2.1) ((r2.block _ (heap_lt H13.out.2.2.2)).trans H13.out.2.2.2)))
            clear r1 r2 H13 y3 hly q0 q1 hb2
            go_wp2_with fail
            refine HJ14.out.mono ?_
            rintro e w15 ⟨v15, rfl, r1, r2⟩
            have H15 := Lib.hid (And.intro r1 (And.intro (H14.out.1.trans r2) (And.intro (show bcc1 ++ md.numB nn = acc12 ++ md.codeB (c.take (j + 1)) by rw [HE13.out, HS2.out, HIB.out]; simp) (And.intro (r2.keep _ _ H14.out.2.1 (fun cur e => by injection e with _ e2; exact absurd e2 (by decide))) (r2.keep _ _ H14.out.2.2 (fun cur e => by injection e with _ e2; exact absurd e2 (by decide)))))))
            have HL15 : Hid ((bcc1 ++ md.numB nn).length ≤ bcc.length + 11) := Lib.hid (by rw [List.length_append]; have := HNL.out; have := HL13.out; omega)
            clear r1 r2 H14 HJ14
            generalize bcc1 ++ md.numB nn = bcc2 at *
            go_wp2_with fail
            go_roundg (nc - (j + 1))
            case measure => omega
            case rel => exact ⟨j + 1, v15, bcc2, rfl, by go_num, by omega, Nat.le_refl _, by have := HL15.out; omega, H15⟩
          | false =>
            have H15 := Lib.hid (And.intro H13.out.1 (And.intro H13.out.2.1 (And.intro (show bcc1 = acc12 ++ md.codeB (c.take (j + 1)) by rw [HE13.out, HS2.out, HIB.out]; simp) H13.out.2.2)))
            clear H13 y3 hly q0 q1 hb2
            go_wp2_with fail
            go_roundg (nc - (j + 1))
            case measure => omega
            case rel => exact ⟨j + 1, v13, bcc1, rfl, by go_num, by omega, Nat.le_refl _, by have := HL13.out; omega, H15⟩
end Go.Proofs.YtoknolljfeaapaaDoor
