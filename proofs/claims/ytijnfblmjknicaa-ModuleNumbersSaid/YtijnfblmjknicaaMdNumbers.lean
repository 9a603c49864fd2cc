/- ModuleNumbers: the walk. -/
import Derived.Test.YtijnfblmjknicaaMdTurns
import Derived.Test.YtijnfblmjknicaaMdNumM
namespace Go.Proofs.Ytijnfblmjknicaa
open Go.RowKit
theorem md.dec_push {n : Int} (h : md.i64 n) : md.dec (md.enc (md.push n)) = md.push n ∧ md.code (md.enc (md.push n)) = 0 ∧ md.place (md.enc (md.push n)) = 0 := by
  have := md.dec_write (md.err_push n) (push_i64 h)
  rw [(md.err0 (md.err_push n)).2.2]
  exact ⟨this.2.1, this.1, this.2.2⟩
set_option maxRecDepth 100000 in
set_option maxHeartbeats 3200000 in
theorem numbers_any (n : Int) (w : World) (hn : md.i64 n) :
    Calls Try.prog 8 #[.int .i64 n] w fun e w' => e = .returned (.bool true) ∧ Below w.heap.size w w' := by
  have HAL := Lib.hid (alive_any w)
  have HEC := Lib.hid (fun W => encode_any _ (md.push n) _ _ _ (push_in n W W.heap.size (W.heap.size + 1) rfl rfl) (fun k hk => hk) (push_i64 hn))
  obtain ⟨X, hX⟩ : ∃ X, md.enc (md.push n) = X := ⟨_, rfl⟩
  have hX2 : md.pushed ++ md.numB n = X := by rw [← hX, (md.err0 (md.err_push n)).2.2, md.write_push]
  have HDP := Lib.hid (md.dec_push hn)
  rw [hX] at HDP
  have hul := md.fold_lt hn.1 hn.2
  obtain ⟨u, hu⟩ : ∃ u, md.fold n = u := ⟨_, rfl⟩
  rw [hu] at hul
  have hne := md.grp_ne 9 u
  have hnb : md.numB n = md.grp 9 u := by unfold md.numB; rw [hu]
  have HGP := Lib.hid (fun h => md.grow_push hn h)
  rw [hnb] at hX2 HGP
  have hln := md.grp_len 9 u
  have hl0 : 0 < (md.grp 9 u).length := List.length_pos_iff.2 hne
  have hXl : X.length = 15 + (md.grp 9 u).length := by rw [← hX2, List.length_append]; rfl
  obtain ⟨N, hN⟩ : ∃ N, (md.grp 9 u).length = N := ⟨_, rfl⟩
  have hL : 14 + N + 1 = X.length := by omega
  have hlast := md.last_at md.pushed (md.grp 9 u) hne (14 + N) (by rw [hX2, hL])
  have hgs := md.grow_set md.pushed (md.grp 9 u) hne (14 + N) (by rw [hX2, hL]) (UInt8.ofNat (((md.grp 9 u).getLastD 0).toNat + 128))
  rw [hX2] at hlast hgs
  have hlt := md.grp_last_lt 9 u (by have : (2 : Nat) * 128 ^ 9 = 18446744073709551616 := by decide
                                     omega)
  have hten := md.grp_ten 9 u (by have : (2 : Nat) * 128 ^ 9 = 18446744073709551616 := by decide
                                  omega)
  have h14 : X[14]? = some 1 := by rw [← hX2]; rfl
  have HG0 := Lib.hid (md.glen_start u)
  have HGS := Lib.hid md.glen_step
  have hu0 : (md.grp 9 u).length = 10 → u ≠ 0 := by rintro h rfl; revert h; decide
  obtain ⟨z, hz⟩ : ∃ z, (md.grp 9 u).getLastD 0 = z := ⟨_, rfl⟩
  have HT : Hid (N = 10 → z = 1) := Lib.hid (fun h => by rw [← hz]; exact hten (hu0 (by rw [hN]; exact h)) (by rw [hN, h]))
  have HGR : Hid (N < 10 → md.code (X.set (14 + N) (UInt8.ofNat (z.toNat + 128)) ++ [0]) = 120 ∧ md.place (X.set (14 + N) (UInt8.ofNat (z.toNat + 128)) ++ [0]) = 15 + N) := Lib.hid (fun h => by
    have := HGP.out (by rw [hN]; exact h)
    unfold md.grow at this
    rw [← hz, hgs, ← hN]
    exact this)
  rw [hN] at HG0 hXl hln hl0
  rw [hz] at hlast hlt
  have e2 : n < 0 → bits .xor .u64 IntKind.u64.max (IntKind.u64.wrap (IntKind.u64.wrap n * 2)) = (u : Int) := fun h => by
    have hf : md.fold n = 2 * (-n - 1).toNat + 1 := by unfold md.fold; rw [if_pos h]
    have e1 : IntKind.u64.wrap (IntKind.u64.wrap n * 2) = ((2 * n + 18446744073709551616).toNat : Nat) := by
      rw [IntKind.wrap_u64, IntKind.wrap_u64]; have := hn.1; omega
    rw [e1, u64_not _ (by have := hn.1; omega), ← hu, hf]
    have := hn.1
    omega
  have e3 : ¬ n < 0 → IntKind.u64.wrap (IntKind.u64.wrap n * 2) = (u : Int) ∧ n * 2 = (u : Int) := fun h => by
    have hf : md.fold n = 2 * n.toNat := by unfold md.fold; rw [if_neg h]
    have := hn.2
    constructor
    · rw [IntKind.wrap_u64, IntKind.wrap_u64, ← hu, hf]; omega
    · rw [← hu, hf]; omega
  have E2 := Lib.hid e2
  have E3 := Lib.hid e3
  have HXX := Lib.hid (And.intro hX (And.intro hlast h14))
  clear hL hX hX2 hu hnb HGP hgs hten hu0 hN hz hlast h14 hne e2 e3
  go_enter Try.func8, Try.ntmps8
  go_wp2_with fail
  refine HAL.out.mono ?_
  rintro e w1 ⟨rfl, hb1⟩
  have HB1 := Lib.hid hb1
  have hb2 := (below_one w1 (insO1 1 n)).trans ((below_one (w1.alloc (insO1 1 n)) (fnO1 w1.heap.size)).mono (by simp))
  have HB2 := Lib.hid (hb1.trans (hb2.mono hb1.size))
  have HE := Lib.hid (HEC.out w1)
  clear hb1 hb2 HEC HAL HB1
  go_wp2_with fail
  refine HE.out.mono ?_
  rintro e w2 ⟨v2, rfl, hr2, hb3⟩
  rw [md.err_push]
  rw [HXX.out.1] at hr2
  have HB3 := Lib.hid (HB2.out.trans (hb3.mono HB2.out.size))
  obtain ⟨g2, ac2, rfl, hg2, hc2, hm2⟩ : ∃ g cap, v2 = .slice (some ⟨g, 0, none⟩) (15 + N) cap ∧ g < w2.heap.size ∧ 15 + N ≤ cap ∧ cap ≤ maxLen := by
    rcases hr2.2 with ⟨_, h0⟩ | ⟨g, cap, cur, rfl, hb, hg, hc, hm, _⟩
    · exfalso; omega
    · exact ⟨g, cap, by rw [hXl], heap_lt hg, by omega, hm⟩
  have HR2 := Lib.hid (BRow.toIn hr2)
  unfold BRow at hr2
  rw [hXl] at hr2
  have y14 : w2.cell? ⟨g2, 14, none⟩ = some (.int .u8 1) := by
    rw [World.ownsRow.cellAt hr2 14 (by omega)]
    unfold byC
    rw [List.getElem?_map, HXX.out.2.2]
    rfl
  have yL : w2.cell? ⟨g2, 14 + N, none⟩ = some (.int .u8 (z.toNat : Nat)) := by
    rw [World.ownsRow.cellAt hr2 (14 + N) (by omega)]
    unfold byC
    rw [List.getElem?_map, HXX.out.2.1]
    rfl
  clear hr2 hb3 HE HB2
  go_upto_region 6 with fail
  have hx5 : (n < 0 ∧ bits .xor .u64 IntKind.u64.max (IntKind.u64.wrap (IntKind.u64.wrap n * 2)) = (u : Int)) ∨ (0 ≤ n ∧ n * 2 = (u : Int)) := by
    by_cases hneg : n < 0
    · exact .inl ⟨hneg, E2.out hneg⟩
    · exact .inr ⟨by omega, (E3.out (by omega)).2⟩
  have hp8 : (2 : Nat) * 128 ^ 8 = 144115188075855872 := by decide
  clear E2 E3
  rcases hx5 with ⟨hneg, hxx⟩ | ⟨hneg, hxx⟩
  all_goals
    go_upto_region 11 with fail
    clear hxx hneg
    go_loopg [6, 7] 9 (fun gg s6 s7 wr => ∃ (g f v : Nat), s6 = .int .i64 g ∧ s7 = u64V v ∧ (v = 0 ∨ f + 1 ≤ gg) ∧ v < 2 * 128 ^ f ∧ Hid (g + md.glen f v = N) ∧ Hid (wr = w2))
    case atStart => exact ⟨1, 8, u / 128, rfl, congrArg (Value.int .u64) (by omega), by omega, by omega, Lib.hid (by rw [HG0.out]), Lib.hid rfl⟩
    case round =>
      obtain ⟨g, f, v, rfl, rfl, hfg, hv, HA, HW⟩ := hrel
      obtain rfl := HW.out
      by_cases h0 : v = 0
      case neg =>
        have hvi : (0 : Int) < (v : Int) := by omega
        have hs := HGS.out f v hv h0
        have HS : Hid (g + 1 + md.glen (f - 1) (v / 128) = N) := Lib.hid (by have := HA.out; omega)
        have hg10 : g ≤ 10 := by have := HA.out; omega
        have hv2 : v / 128 < 2 * 128 ^ (f - 1) ∧ (v / 128 = 0 ∨ f - 1 + 1 ≤ f) := by
          cases f with
          | zero =>
            have : v < 2 := by simpa using hv
            exact ⟨by simp; omega, .inl (by omega)⟩
          | succ f => exact ⟨by rw [Nat.pow_succ] at hv; simp; omega, .inr (by omega)⟩
        have hfg2 : f + 1 ≤ gk := by omega
        have HV2 := Lib.hid hv2
        clear hs hv2 HA hv
        go_wp2_with fail
        go_roundg f
        case measure => omega
        case rel => exact ⟨g + 1, f - 1, v / 128, by go_num, congrArg (Value.int .u64) (by omega), HV2.out.2, HV2.out.1, HS, Lib.hid rfl⟩
      case pos =>
        subst h0
        have hgN : g = N := by have := HA.out; simpa [md.glen] using this
        subst hgN
        clear HA HW hfg hv HGS HG0
        have hzi : ¬ (128 : Int) ≤ (z.toNat : Int) := by omega
        have hD := Lib.hid (decode_then _ _ X wr HR2.out (md.push n) 0 0 HDP.out 0 0 1 rfl rfl rfl)
        go_upto_region 16 with fail
        go_wp2_with fail
        refine hD.out.mono ?_
        rintro e w3 ⟨od3, cd3, of3, cf3, rfl, hm3, hb34⟩
        have hrw := HR2.out
        have HIN3 := Lib.hid (RowIn.below hrw hb34)
        have HM3 := Lib.hid hm3.toIn
        have HB4 := Lib.hid (HB3.out.trans (hb34.mono HB3.out.size))
        have y14' := (World.cell?_of_block (a := ⟨g2, 14, none⟩) (hb34.block g2 hg2)).trans y14
        have yL' := (World.cell?_of_block (a := ⟨g2, 14 + g, none⟩) (hb34.block g2 hg2)).trans yL
        have hg3 : g2 < w3.heap.size := Nat.lt_of_lt_of_le hg2 hb34.size
        clear hb34 hm3 hrw hD HR2 HB3 y14 yL hg2
        go_upto_region 17 with fail
        obtain ⟨w4, hw4⟩ : ∃ w4, (w3.alloc (.cells #[.int .i64 0, .slice od3 0 cd3, .slice of3 1 cf3] 26)).alloc (.cells #[.int .i64 0, .int .i64 0] 29) = w4 := ⟨_, rfl⟩
        have hx4 := boxes_two w3 _ _ _ _ _ w4 hw4
        rw [hw4]
        have xm := HM3.out.below hx4.2.2
        obtain ⟨b, off, oc, cc, rfl, -, hlb, -, -, -, k3, hin⟩ := FnsIn.cell xm.fns 0 (Nat.lt_succ_self 0)
        obtain ⟨b2, off2, rfl, -, hlb2, -, q1⟩ := InsIn.cell hin 0 (Nat.lt_succ_self 0)
        simp only [Nat.zero_mul, Nat.add_zero] at k3 q1
        replace k3 : w4.cell? ⟨b, off + 3, none⟩ = some (.slice (some ⟨b2, off2, none⟩) 1 cc) := k3
        replace q1 : w4.cell? ⟨b2, off2 + 1, none⟩ = some (.int .i64 n) := q1
        have hcf : 1 ≤ cf3 := by
          obtain ⟨cs, hrr, -⟩ := xm.fns
          exact (RowIn.lens hrr).2.1
        have hcc : 1 ≤ cc := (RowIn.lens hin).2.1
        have f0 : w4.cell? ⟨w3.heap.size + 1, 0, none⟩ = some (.int .i64 0) := (cell_of_heap hx4.2.1).trans rfl
        have k2 : w4.cell? ⟨w3.heap.size, 2, none⟩ = some (.slice (some ⟨b, off, none⟩) 1 cf3) := (cell_of_heap hx4.1).trans rfl
        have hl1 := heap_lt hx4.2.1
        have hl2 := heap_lt hx4.1
        have HB5 := Lib.hid (HB4.out.trans (hx4.2.2.mono HB4.out.size))
        have HIN4 := Lib.hid (RowIn.below HIN3.out hx4.2.2)
        have yL2 := (World.cell?_of_block (a := ⟨g2, 14 + g, none⟩) (hx4.2.2.block g2 hg3)).trans yL'
        have hg4 : g2 < w4.heap.size := Nat.lt_of_lt_of_le hg3 hx4.2.2.size
        clear hx4 hw4 xm hin HM3 HIN3 HB4 y14' yL' hg3
        generalize w3.heap.size = q3 at *
        go_upto_region 19 with fail
        clear f0 k2 hl1 hl2 k3 q1 hlb hlb2 hcf hcc
        by_cases h10 : g = 10
        · have hz1 : (z.toNat : Int) = 1 := by rw [HT.out h10]; rfl
          subst h10
          rw [hz1] at yL2
          clear HT HGR HIN4
          go_wp2_with fail
          go_ret
          exact ⟨rfl, HB5.out⟩
        · have h10i : ((g : Int) == 10) = false := by simp; omega
          have HGR2 := Lib.hid (HGR.out (by omega))
          clear HT HGR
          obtain ⟨Y, hY⟩ : ∃ Y, X.set (14 + g) (UInt8.ofNat (z.toNat + 128)) = Y := ⟨_, rfl⟩
          rw [hY] at HGR2
          have hYl : Y.length = 15 + g := by rw [← hY]; simp; exact hXl
          have hbw : w.heap.size ≤ w4.heap.size := HB5.out.size
          go_upto_region 21 with fail
          have hb5 := below_one w4 (.cells #[] 5)
          have H5 := Lib.hid (And.intro (empty_row w4 w4.heap.size (Nat.le_refl _)) (And.intro (RowIn.below HIN4.out hb5) hb5))
          clear hb5 HIN4
          go_wp2_with (at_builtin; go_loud (refine wpList_bytes rfl _ _ rfl w4.heap.size (.slice (some ⟨w4.heap.size, 0, none⟩) 0 0) [] rfl H5.out.1 (some ⟨g2, 0, none⟩) (15 + g) ac2 (fun _ => True) X rfl H5.out.2.1 (show 0 + X.length ≤ _ by omega) (by simp) ?_))
          intro v6 w6 r1 r2
          have hb26 : Below w4.heap.size w4 w6 := H5.out.2.2.grown r2 (by simp) (fun k hk => (H5.out.1.lt k hk).1)
          unfold BRow at r1
          rw [hXl] at r1
          obtain ⟨g6, ac6, cur6, rfl, hg6, hcur6, hc6, hm6⟩ : ∃ g' cap cur, v6 = .slice (some ⟨g', 0, none⟩) (15 + g) cap ∧ w4.heap.size ≤ g' ∧ w6.heap[g']? = some (.cells cur 5 (0, 0)) ∧ 15 + g ≤ cap ∧ cap ≤ maxLen := by
            rcases r1.2 with ⟨_, h0⟩ | ⟨g', cap, cur, rfl, hb, hg, hc, hm, _⟩
            · exfalso; omega
            · exact ⟨g', cap, cur, rfl, hb, hg, hc, hm⟩
          have hzc : ((UInt8.ofNat (z.toNat + 128)).toNat : Int) = (z.toNat : Int) + 128 := by rw [md.u8_toNat (by omega)]; omega
          have hst := (World.ownsRow.stored r1 (14 + g) (.int .u8 ((z.toNat : Int) + 128))).1
          have hcell : w6.cell? ⟨g6, 14 + g, none⟩ = some (.int .u8 (z.toNat : Nat)) := by
            rw [World.ownsRow.cellAt r1 (14 + g) (by omega)]
            unfold byC
            rw [List.getElem?_map, HXX.out.2.1]
            rfl
          have hfz := thaw (k := 14 + g) hcur6
          have hlt6 := heap_lt hcur6
          have hb27 : Below w4.heap.size w4 (w6.setCell ⟨g6, 14 + g, none⟩ (.int .u8 ((z.toNat : Int) + 128))) := hb26.setCell hg6 _
          have hrow7 : BRow (w6.setCell ⟨g6, 14 + g, none⟩ (.int .u8 ((z.toNat : Int) + 128))) w4.heap.size (.slice (some ⟨g6, 0, none⟩) (15 + g) ac6) Y := by
            have e : (byC X).set (14 + g) (.int .u8 ((z.toNat : Int) + 128)) = byC Y := by rw [← hY, ← hzc]; unfold byC; rw [List.map_set]
            rw [e] at hst
            unfold BRow
            rw [hYl]
            exact hst
          have H7 := Lib.hid (And.intro hrow7 (And.intro (HB5.out.trans (hb27.mono hbw)) hb27.size))
          have hzz : (z.toNat : Int) + 128 ≤ 255 := by omega
          clear r1 r2 hb26 hst hcur6 hb27 hY hrow7 H5 HB5 hzc
          go_upto_region 23 with fail
          generalize w6.setCell ⟨g6, 14 + g, none⟩ (.int .u8 ((z.toNat : Int) + 128)) = w7 at *
          clear hcell hfz hlt6 hzz
          have HC7 : Hid (#[Value.int .u8 0] = (byC [0]).toArray) := Lib.hid rfl
          have hs7 : w4.heap.size ≤ w7.heap.size := H7.out.2.2
          go_wp2_with (at_builtin; go_loud (refine wpList_lit w7 _ rfl _ _ rfl w4.heap.size (.slice (some ⟨g6, 0, none⟩) (15 + g) ac6) Y rfl H7.out.1 w7.heap.size rfl 1 [0] rfl HC7.out rfl (show Y.length + 1 ≤ _ by omega) hs7 ?_))
          intro v8 w8 r1 r2
          obtain ⟨Z, hZ⟩ : ∃ Z, Y ++ [0] = Z := ⟨_, rfl⟩
          rw [hZ] at r1 HGR2
          clear hZ
          have H8 := Lib.hid (And.intro (BRow.toIn r1) (H7.out.2.1.trans (r2.bel.mono hbw)))
          obtain ⟨ao8, ac8, rfl⟩ := own_slice r1
          clear r1 r2 H7 HC7 hs7
          have HD2 := Lib.hid (decode_then _ _ Z w8 H8.out.1 md.zero 120 (15 + g) ⟨md.dec_bad HGR2.out.1, HGR2.out⟩ 0 0 0 rfl rfl rfl)
          clear HGR2
          go_wp2_with fail
          refine HD2.out.mono ?_
          rintro e w9 ⟨od8, cd8, of8, cf8, rfl, -, hb8⟩
          have HB8 := Lib.hid (H8.out.2.trans (hb8.mono H8.out.2.size))
          clear hb8 HD2 H8
          go_upto_region 25 with fail
          obtain ⟨w10, hw10⟩ : ∃ w10, (w9.alloc (.cells #[.int .i64 0, .slice od8 0 cd8, .slice of8 0 cf8] 26)).alloc (.cells #[.int .i64 120, .int .i64 (15 + (g : Int))] 29) = w10 := ⟨_, rfl⟩
          have hx9 := boxes_two w9 _ _ _ _ _ w10 hw10
          rw [hw10]
          have HB9 := Lib.hid (HB8.out.trans (hx9.2.2.mono HB8.out.size))
          have f0 : w10.cell? ⟨w9.heap.size + 1, 0, none⟩ = some (.int .i64 120) := (cell_of_heap hx9.2.1).trans rfl
          have f1 : w10.cell? ⟨w9.heap.size + 1, 1, none⟩ = some (.int .i64 (15 + (g : Int))) := (cell_of_heap hx9.2.1).trans rfl
          have hl1 := heap_lt hx9.2.1
          clear hx9 hw10 HB8
          go_wp2_with fail
          go_ret
          exact ⟨rfl, HB9.out⟩
end Go.Proofs.Ytijnfblmjknicaa
