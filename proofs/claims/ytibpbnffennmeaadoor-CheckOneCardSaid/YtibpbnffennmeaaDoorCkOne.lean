/- CheckOne: the walk. -/
import Derived.Test.YtibpbnffennmeaaDoorCkOneM
namespace Go.Proofs.YtibpbnffennmeaaDoor
open Go.RowKit
/-- a row of instructions that is one's own, from B on; all ahead of B stays -/
structure CR (B : Nat) (W0 W : World) (V : Value) (l : List md.Ins) : Prop where
  own : W.ownsRow B 46 2 V l.length (codeC l)
  bel : Below B W0 W
theorem CR.next {B : Nat} {W0 W W' : World} {V : Value} {l : List md.Ins} (h : CR B W0 W V l) (hB : B ≤ W.heap.size) (hb : Below W.heap.size W W') : CR B W0 W' V l := ⟨row_below h.own hb, h.bel.trans (hb.mono hB)⟩
theorem CR.push {B : Nat} {W0 W W' : World} {V V' : Value} {l l' : List md.Ins} (h : CR B W0 W V l) (hB : B ≤ W.heap.size) (hr : W'.ownsRow B 46 2 V' l'.length (codeC l')) (hg : W.grownBy W' V.ownBlock) : CR B W0 W' V' l' :=
  ⟨hr, h.bel.trans ((Below.refl B W).grown hg hB (fun k hk => (h.own.lt k hk).1))⟩
set_option maxRecDepth 100000 in
set_option maxHeartbeats 6400000 in
theorem one13_any (x y : Int) (w : World) (ht : HT w) :
    Calls Tryd.prog 7 #[.int .i64 x, .int .i64 y] w fun e w' => e = .returned (.bool true) ∧ Below w.heap.size w w' := by
  have HTT := Lib.hid (fun (W : World) (hb : Below w.heap.size w W) => ht.below hb)
  have HAL := Lib.hid (alive13_any w ht)
  have ha1 := i64_and1023 x
  have ha7 := i64_and7 y
  obtain ⟨x1, hx1⟩ : ∃ x1 : Nat, x % 1024 = x1 := ⟨(x % 1024).toNat, by omega⟩
  obtain ⟨kk, hkk⟩ : ∃ kk : Nat, y % 8 = kk := ⟨(y % 8).toNat, by omega⟩
  have hk8 : kk < 8 := by omega
  rw [hx1] at ha1
  rw [hkk] at ha7
  have hrem : Int.tmod (x1 : Int) 24 = ((x1 % 24 : Nat) : Int) := by
    rw [Int.tmod_eq_emod_of_nonneg (by omega)]; omega
  have hop0 : x1 % 24 < 24 := Nat.mod_lt _ (by decide)
  generalize x1 % 24 = op0 at *
  clear hx1 hkk ht
  go_enter Tryd.func7, Tryd.ntmps7
  go_wp2_with fail
  refine HAL.out.mono ?_
  rintro e w1 ⟨rfl, hb1⟩
  have HB1 := Lib.hid hb1
  clear hb1 HAL
  have hcase : (op0 = 5 ∨ op0 = 6) ∨ (op0 ≠ 5 ∧ op0 ≠ 6) := by omega
  have HCASE := Lib.hid hcase
  clear hcase
  rcases HCASE.out with hc | ⟨hc5, hc6⟩
  · rcases hc with rfl | rfl
    all_goals
      have HPL := Lib.hid (ck.one_plain 7 (by decide))
      have HALL : Hid (∀ more : Nat, more < 2 → ck.check (ck.mone (ck.oneCode 7 kk more)) = ck.oneFl 7 kk more) := Lib.hid (((ck.one_all 7 (by decide)).resolve_left (by decide)).resolve_left (by decide) kk hk8)
      go_upto_region 7 with fail
      go_wp2_with fail
      refine (ins13_any 7 0 w1).mono ?_
      rintro e w2 ⟨rfl, hb2⟩
      have HB2 := Lib.hid (HB1.out.trans (hb2.mono HB1.out.size))
      have hb3 := below_one w2 (insB 7 0)
      have HI3 := Lib.hid (heap_alloc_new w2 (insB 7 0))
      have HB3 := Lib.hid (HB2.out.trans (hb3.mono HB2.out.size))
      clear hb2 hb3 HB1 HB2
      go_upto_region 8 with fail
      generalize w2.alloc (insB 7 0) = w3 at *
      generalize w2.heap.size = q at *
      have i0 : w3.cell? ⟨q, 0, none⟩ = some (.int .i64 7) := (cell_of_heap HI3.out).trans rfl
      have i1 : w3.cell? ⟨q, 1, none⟩ = some (.int .i64 0) := (cell_of_heap HI3.out).trans rfl
      have hli := heap_lt HI3.out
      have HEF := Lib.hid (fun (of : Option Addr) (W : World) (h : ModIn W (fun k => k < W.heap.size) (.slice none 0 0) (.slice of 1 1) (ck.mone [⟨7, 0⟩])) (hb : Below w.heap.size w W) => effect_then [⟨7, 0⟩] (ck.plain 7) 7 0 (ck.one_eff 7 (by decide) _) of W h (HTT.out W hb))
      generalize hR : ck.plain ((7 : Nat) : Int) = R at *
      have HRR := Lib.hid hR
      clear hR
      obtain ⟨t, p, ok⟩ := R
      have hplain := HPL.out
      dsimp only at hplain
      obtain ⟨rfl, ht0, ht2, hp0, hp2⟩ := hplain
      go_cut [6, 7, 8] from 30 to 38 (fun s6 s7 s8 wx => s6 = .int .i64 t ∧ s7 = .int .i64 p ∧ s8 = .bool true ∧ Hid (wx.heap[q]? = some (insB 7 0) ∧ Below w.heap.size w wx))
      case first =>
        have hbL := below_one w3 (.cells #[.int .i64 7, .int .i64 0] 46)
        have HML := Lib.hid (mod_then [⟨7, 0⟩] _ 1 1 (w3.alloc (.cells #[.int .i64 7, .int .i64 0] 46)).drew (RowIn.keep (InsIn.new w3 [⟨7, 0⟩] #[.int .i64 7, .int .i64 0] rfl 1 rfl (by decide)) (fun _ _ _ => rfl) (Nat.le_refl _) (fun _ h _ => h)))
        have HBL := Lib.hid (And.intro (HB3.out.trans (hbL.mono HB3.out.size)) ((hbL.block _ hli).trans HI3.out))
        clear hbL
        go_region_law (first
          | (go_simp; go_at_call 24; refine HML.out.mono ?_; rintro e w4 ⟨of4, rfl, hm4, hb4⟩; have hb4' : Below (w3.alloc (.cells #[.int .i64 7, .int .i64 0] 46)).heap.size (w3.alloc (.cells #[.int .i64 7, .int .i64 0] 46)) w4 := ⟨hb4.os, hb4.tape, hb4.output, hb4.size, hb4.block⟩; have HM4 := Lib.hid hm4; have HQ4 := Lib.hid (And.intro ((hb4'.block _ (heap_lt HBL.out.2)).trans HBL.out.2) (HBL.out.1.trans (hb4'.mono HBL.out.1.size))); have j0 : w4.cell? ⟨q, 0, none⟩ = some (.int .i64 7) := (cell_of_heap HQ4.out.1).trans rfl; have j1 : w4.cell? ⟨q, 1, none⟩ = some (.int .i64 0) := (cell_of_heap HQ4.out.1).trans rfl; have hlj := heap_lt HQ4.out.1; clear hb4 hb4' hm4)
          | (go_simp; go_at_call 19; refine (HEF.out _ w4 HM4.out HQ4.out.2).mono ?_; rintro e w5 ⟨rfl, hb5⟩; have HQ5 := Lib.hid (And.intro ((hb5.block _ (heap_lt HQ4.out.1)).trans HQ4.out.1) (HQ4.out.2.trans (hb5.mono HQ4.out.2.size))); clear hb5))
        all_goals
          go_wp2_with fail
          go_meet
          exact ⟨rfl, rfl, rfl, HQ5⟩
      case rest =>
      obtain ⟨rfl, rfl, rfl, HQ⟩ := hcut
      clear i0 i1 hli HI3 HB3 HEF HPL
      generalize wc = w5 at *
      have hbL := below_one w5 (.cells #[.int .i64 0, .int .i64 1] 3)
      have HL0 := Lib.hid (heap_alloc_new w5 (.cells #[.int .i64 0, .int .i64 1] 3))
      have HQ2 := Lib.hid (And.intro ((hbL.block _ (heap_lt HQ.out.1)).trans HQ.out.1) (HQ.out.2.trans (hbL.mono HQ.out.2.size)))
      clear hbL HQ
      go_upto_region 12 with fail
      generalize w5.alloc (.cells #[.int .i64 0, .int .i64 1] 3) = w6 at *
      generalize w5.heap.size = gl at *
      go_loopg [43] 2 (fun gg s43 wr => ∃ r : Nat, s43 = .int .i64 r ∧ r ≤ 2 ∧ 2 - r ≤ gg ∧ Hid (wr.heap[q]? = some (insB 7 0) ∧ wr.heap[gl]? = some (.cells #[.int .i64 0, .int .i64 1] 3 (0, 0)) ∧ Below w.heap.size w wr))
      case atStart => exact ⟨0, rfl, by omega, by omega, Lib.hid ⟨HQ2.out.1, HL0.out, HQ2.out.2⟩⟩
      case round =>
        clear HQ2 HL0
        obtain ⟨r, rfl, hr, hgr, HA⟩ := hrel
        by_cases hr2 : r < 2
        case neg =>
          obtain rfl : r = 2 := by omega
          go_wp2_with fail
          go_ret
          exact ⟨rfl, HA.out.2.2⟩
        case pos =>
          have hri : (r : Int) < 2 := by omega
          have cl : wr.cell? ⟨gl, r, none⟩ = some (.int .i64 r) := (cell_of_heap HA.out.2.1).trans (by rcases (show r = 0 ∨ r = 1 by omega) with rfl | rfl <;> rfl)
          have hll := heap_lt HA.out.2.1
          have HCHK := Lib.hid (HALL.out r hr2)
          have HFX := Lib.hid (fun (W : World) (hb : Below wr.heap.size wr W) => And.intro ((hb.block _ (heap_lt HA.out.1)).trans HA.out.1) (And.intro ((hb.block _ (heap_lt HA.out.2.1)).trans HA.out.2.1) (HA.out.2.2.trans (hb.mono HA.out.2.2.size))))
          have HC0 : Hid (CR wr.heap.size wr (wr.alloc (.cells #[] 46)) (.slice (some ⟨wr.heap.size, 0, none⟩) 0 0) (ck.pushes 0)) := Lib.hid ⟨World.ownsRow_lit wr #[] 0 (Nat.le_refl _) (by unfold maxLen; omega) rfl, below_one wr _⟩
          have HFL : Hid (ck.oneFl 7 kk r = if t ≤ (kk : Int) ∧ r = 0 then ⟨0, 0, 0⟩ else ⟨0, -1, 130⟩) := Lib.hid (by unfold ck.oneFl; rw [HRR.out])
          obtain ⟨N, hN⟩ : ∃ N, ck.oneN 7 kk r = N := ⟨_, rfl⟩
          have HNN := Lib.hid hN
          have hNN : N = ((kk : Int) - t + p + r).toNat := by rw [← hN]; unfold ck.oneN; rw [HRR.out]
          have hN2 : (N : Int) = (kk : Int) - t + p + r ∨ (N = 0 ∧ (kk : Int) - t + p + r < 0) := by omega
          have HN2 := Lib.hid hN2
          have hN10 : N ≤ 12 := by omega
          clear HA hN hNN hN2
          go_upto_region 16 with fail
          generalize wr.alloc (.cells #[] 46) = w7 at *
          clear cl hll
          generalize wr = wo at *
          go_loopg [11, 12] kk (fun gg s11 s12 wr => ∃ (j : Nat) (ao : Option Addr) (ac : Nat), s12 = .int .i64 j ∧ s11 = .slice ao j ac ∧ j ≤ kk ∧ kk - j ≤ gg ∧ Hid (CR wo.heap.size wo wr (.slice ao j ac) (ck.pushes j)))
          case atStart => exact ⟨0, _, _, rfl, rfl, Nat.zero_le _, by omega, HC0⟩
          case round =>
            clear HC0
            obtain ⟨j, ao, ac, rfl, rfl, hj, hgj, HB⟩ := hrel
            by_cases hjk : j < kk
            case pos =>
              have hji : (j : Int) < (kk : Int) := by omega
              go_wp2_with fail
              refine (ins13_any 1 j wr).mono ?_
              rintro e v2 ⟨rfl, hb2⟩
              have H2 := Lib.hid (HB.out.next HB.out.bel.size hb2)
              clear hb2 HB
              obtain ⟨LL, hLL⟩ : ∃ LL : List md.Ins, (ck.pushes j) ++ [⟨1, (j : Nat)⟩] = LL := ⟨_, rfl⟩
              have HLL := Lib.hid hLL
              clear hLL
              go_wp2_with (at_builtin; go_loud (refine wpList_ins v2 ⟨1, (j : Nat)⟩ rfl _ _ rfl wo.heap.size (.slice ao j ac) (ck.pushes j) LL HLL.out rfl H2.out.own v2.heap.size rfl rfl (by rw [ck.pushes_len]; omega) H2.out.bel.size ?_))
              intro V' v3 r1 r2
              have H3 : Hid (CR wo.heap.size wo v3 V' (ck.pushes (j + 1))) := Lib.hid (by
                rw [ck.pushes_snoc, HLL.out]
                exact H2.out.push H2.out.bel.size r1 r2)
              obtain ⟨ao', ac', rfl⟩ : ∃ ao ac, V' = .slice ao (j + 1) ac := by
                obtain ⟨ao, ac, e⟩ := own_slice H3.out.own
                exact ⟨ao, ac, by rw [e, ck.pushes_len]⟩
              clear r1 r2 H2
              go_wp2_with fail
              go_roundg (kk - (j + 1))
              case measure => omega
              case rel => exact ⟨j + 1, ao', ac', by go_num, rfl, by omega, Nat.le_refl _, H3⟩
            case neg =>
              obtain rfl : j = kk := by omega
              have hji : ¬ (j : Int) < (j : Int) := by omega
              have i0 : wr.cell? ⟨q, 0, none⟩ = some (.int .i64 7) := (cell_of_heap (HFX.out wr HB.out.bel).1).trans rfl
              have i1 : wr.cell? ⟨q, 1, none⟩ = some (.int .i64 0) := (cell_of_heap (HFX.out wr HB.out.bel).1).trans rfl
              have hli := heap_lt (HFX.out wr HB.out.bel).1
              obtain ⟨LL, hLL⟩ : ∃ LL : List md.Ins, (ck.pushes j) ++ [⟨7, 0⟩] = LL := ⟨_, rfl⟩
              have HLL := Lib.hid hLL
              clear hLL
              go_wp2_with (at_builtin; go_loud (refine wpList_ins wr ⟨7, 0⟩ rfl _ _ rfl wo.heap.size (.slice ao j ac) (ck.pushes j) LL HLL.out rfl HB.out.own wr.heap.size rfl rfl (by rw [ck.pushes_len]; omega) HB.out.bel.size ?_))
              intro V1 v3 r1 r2
              have H3 : Hid (CR wo.heap.size wo v3 V1 (ck.pushes j ++ [⟨7, 0⟩] ++ ck.drops 0)) := Lib.hid (by
                rw [show ck.pushes j ++ [(⟨7, 0⟩ : md.Ins)] ++ ck.drops 0 = ck.pushes j ++ [⟨7, 0⟩] from List.append_nil _, HLL.out]
                exact HB.out.push HB.out.bel.size r1 r2)
              obtain ⟨ao1, ac1, rfl⟩ : ∃ ao ac, V1 = .slice ao (j + 1 + 0) ac := by
                obtain ⟨ao, ac, e⟩ := own_slice H3.out.own
                exact ⟨ao, ac, e.trans (by congr 1; simp [ck.pushes_len, ck.drops_len]; try omega)⟩
              clear r1 r2 HB i0 i1 hli
              go_upto_region 21 with fail
              generalize wr = wp at *
              go_loopg [11, 13] N (fun gg s11 s13 wr => ∃ (d : Nat) (ao : Option Addr) (ac : Nat), s13 = .int .i64 d ∧ s11 = .slice ao (j + 1 + d) ac ∧ d ≤ N ∧ N - d ≤ gg ∧ Hid (CR wo.heap.size wo wr (.slice ao (j + 1 + d) ac) (ck.pushes j ++ [⟨7, 0⟩] ++ ck.drops d)))
              case atStart => exact ⟨0, ao1, ac1, rfl, rfl, Nat.zero_le _, by omega, H3⟩
              case round =>
                clear H3
                obtain ⟨d, ao2, ac2, rfl, rfl, hd, hgd, HD⟩ := hrel
                have hlen : (ck.pushes j ++ [(⟨7, 0⟩ : md.Ins)] ++ ck.drops d).length = j + 1 + d := by
                  simp only [List.length_append, List.length_singleton, ck.pushes_len, ck.drops_len]
                have HLEN := Lib.hid hlen
                clear hlen
                by_cases hdN : d < N
                case pos =>
                  have hdi : (d : Int) < (j : Int) - t + p + (r : Int) := by have := HN2.out; omega
                  go_wp2_with fail
                  refine (ins13_any 2 0 wr).mono ?_
                  rintro e v4 ⟨rfl, hb4⟩
                  have H4 := Lib.hid (HD.out.next HD.out.bel.size hb4)
                  clear hb4 HD
                  obtain ⟨LL, hLL⟩ : ∃ LL : List md.Ins, (ck.pushes j ++ [⟨7, 0⟩] ++ ck.drops d) ++ [⟨2, 0⟩] = LL := ⟨_, rfl⟩
                  have HLL := Lib.hid hLL
                  clear hLL
                  go_wp2_with (at_builtin; go_loud (refine wpList_ins v4 ⟨2, 0⟩ rfl _ _ rfl wo.heap.size (.slice ao2 (j + 1 + d) ac2) (ck.pushes j ++ [⟨7, 0⟩] ++ ck.drops d) LL HLL.out rfl H4.out.own v4.heap.size rfl rfl (by rw [HLEN.out]; omega) H4.out.bel.size ?_))
                  intro V' v5 r1 r2
                  have H5 : Hid (CR wo.heap.size wo v5 V' (ck.pushes j ++ [⟨7, 0⟩] ++ ck.drops (d + 1))) := Lib.hid (by
                    rw [ck.drops_snoc, ← List.append_assoc, HLL.out]
                    exact H4.out.push H4.out.bel.size r1 r2)
                  obtain ⟨ao', ac', rfl⟩ : ∃ ao ac, V' = .slice ao (j + 1 + (d + 1)) ac := by
                    obtain ⟨ao, ac, e⟩ := own_slice H5.out.own
                    exact ⟨ao, ac, e.trans (by congr 1; simp [ck.pushes_len, ck.drops_len]; try omega)⟩
                  clear r1 r2 H4
                  go_wp2_with fail
                  go_roundg (N - (d + 1))
                  case measure => omega
                  case rel => exact ⟨d + 1, ao', ac', by go_num, rfl, by omega, Nat.le_refl _, H5⟩
                case neg =>
                  obtain rfl : d = N := by omega
                  have hdi : ¬ (d : Int) < (j : Int) - t + p + (r : Int) := by have := HN2.out; omega
                  go_wp2_with fail
                  refine (ins13_any 27 0 wr).mono ?_
                  rintro e v4 ⟨rfl, hb4⟩
                  have H4 := Lib.hid (HD.out.next HD.out.bel.size hb4)
                  clear hb4 HD
                  obtain ⟨LL, hLL⟩ : ∃ LL : List md.Ins, (ck.pushes j ++ [⟨7, 0⟩] ++ ck.drops d) ++ [⟨27, 0⟩] = LL := ⟨_, rfl⟩
                  have HLL := Lib.hid hLL
                  clear hLL
                  go_wp2_with (at_builtin; go_loud (refine wpList_ins v4 ⟨27, 0⟩ rfl _ _ rfl wo.heap.size (.slice ao2 (j + 1 + d) ac2) (ck.pushes j ++ [⟨7, 0⟩] ++ ck.drops d) LL HLL.out rfl H4.out.own v4.heap.size rfl rfl (by rw [HLEN.out]; omega) H4.out.bel.size ?_))
                  intro V' v5 r1 r2
                  have H5 : Hid (CR wo.heap.size wo v5 V' (ck.oneCode 7 j r)) := Lib.hid (by
                    show CR _ _ _ _ (ck.pushes j ++ [⟨7, 0⟩] ++ ck.drops (ck.oneN 7 j r) ++ [⟨27, 0⟩])
                    rw [HNN.out, HLL.out]
                    exact H4.out.push H4.out.bel.size r1 r2)
                  clear r1 r2 H4
                  obtain ⟨ao3, ac3, rfl⟩ := own_slice H5.out.own
                  have hin : InsIn v5 (fun k => k < v5.heap.size) (.slice ao3 (ck.oneCode 7 j r).length ac3) (ck.oneCode 7 j r) := RowIn.of_own H5.out.own (codeC_len _) _ (fun g hg => (H5.out.own.lt g hg).2)
                  have HMD := Lib.hid (mod_then (ck.oneCode 7 j r) _ _ _ v5 hin)
                  have H6 := Lib.hid H5.out.bel
                  clear hin H5
                  generalize (ck.oneCode 7 j r).length = nl at *
                  go_wp2_with fail
                  refine HMD.out.mono ?_
                  rintro e v6 ⟨of6, rfl, hm6, hb6⟩
                  have H7 := Lib.hid (H6.out.trans (hb6.mono H6.out.size))
                  have HCT := Lib.hid (check_then (ck.oneCode 7 j r) _ HCHK.out of6 v6 hm6 (HTT.out v6 (HFX.out v6 H7.out).2.2) (ck.one_i64 7 j r hk8))
                  clear hm6 hb6 HMD H6
                  generalize hfl : ck.oneFl 7 j r = FL at *
                  clear hfl
                  go_wp2_with fail
                  refine HCT.out.mono ?_
                  rintro e v7 ⟨rfl, hb7⟩
                  have H8 := Lib.hid (H7.out.trans (hb7.mono H7.out.size))
                  have hb9 := below_one v7 (flO FL)
                  have HN9 := Lib.hid (heap_alloc_new v7 (flO FL))
                  have H9 := Lib.hid (H8.out.trans (hb9.mono H8.out.size))
                  clear hb7 hb9 HCT H7 H8
                  by_cases hgood : t ≤ (j : Int) ∧ r = 0
                  · obtain ⟨hg1, rfl⟩ := hgood
                    have hfl : FL = ⟨0, 0, 0⟩ := by rw [HFL.out, if_pos ⟨hg1, rfl⟩]
                    subst hfl
                    clear HFL HCHK
                    dsimp only at HN9 H9 ⊢
                    go_upto_region 26 with fail
                    generalize v7.alloc (.cells #[.int .i64 0, .int .i64 0, .int .i64 0] 29) = v9 at *
                    generalize v7.heap.size = q9 at *
                    have a0 : v9.cell? ⟨q9, 0, none⟩ = some (.int .i64 0) := (cell_of_heap HN9.out).trans rfl
                    have a1 : v9.cell? ⟨q9, 1, none⟩ = some (.int .i64 0) := (cell_of_heap HN9.out).trans rfl
                    have a2 : v9.cell? ⟨q9, 2, none⟩ = some (.int .i64 0) := (cell_of_heap HN9.out).trans rfl
                    have hla := heap_lt HN9.out
                    go_wp2_with fail
                    go_roundg (2 - (0 + 1))
                    case measure => omega
                    case rel => exact ⟨0 + 1, by go_num, by omega, Nat.le_refl _, Lib.hid (HFX.out v9 H9.out)⟩
                  · have hfl : FL = ⟨0, -1, 130⟩ := by rw [HFL.out, if_neg hgood]
                    subst hfl
                    clear HFL HCHK
                    dsimp only at HN9 H9 ⊢
                    go_upto_region 26 with fail
                    generalize v7.alloc (.cells #[.int .i64 0, .int .i64 (-1), .int .i64 130] 29) = v9 at *
                    generalize v7.heap.size = q9 at *
                    have a0 : v9.cell? ⟨q9, 0, none⟩ = some (.int .i64 0) := (cell_of_heap HN9.out).trans rfl
                    have a1 : v9.cell? ⟨q9, 1, none⟩ = some (.int .i64 (-1)) := (cell_of_heap HN9.out).trans rfl
                    have a2 : v9.cell? ⟨q9, 2, none⟩ = some (.int .i64 130) := (cell_of_heap HN9.out).trans rfl
                    have hla := heap_lt HN9.out
                    by_cases hg1 : t ≤ (j : Int)
                    · have hr1 : r ≠ 0 := fun e => hgood ⟨hg1, e⟩
                      have er : ((r : Int) == 0) = false := by simp; omega
                      clear hgood hr1
                      go_wp2_with fail
                      go_roundg (2 - (r + 1))
                      case measure => omega
                      case rel => exact ⟨r + 1, by go_num, by omega, Nat.le_refl _, Lib.hid (HFX.out v9 H9.out)⟩
                    · clear hgood
                      go_wp2_with fail
                      go_roundg (2 - (r + 1))
                      case measure => omega
                      case rel => exact ⟨r + 1, by go_num, by omega, Nat.le_refl _, Lib.hid (HFX.out v9 H9.out)⟩
  · have e5 : ((op0 : Int) == 5) = false := by simp; omega
    have e6 : ((op0 : Int) == 6) = false := by simp; omega
    have HPL := Lib.hid (ck.one_plain op0 hop0)
    have HALL : Hid (∀ more : Nat, more < 2 → ck.check (ck.mone (ck.oneCode op0 kk more)) = ck.oneFl op0 kk more) := Lib.hid (((ck.one_all op0 hop0).resolve_left hc5).resolve_left hc6 kk hk8)
    go_upto_region 7 with fail
    go_wp2_with fail
    refine (ins13_any (op0 : Int) 0 w1).mono ?_
    rintro e w2 ⟨rfl, hb2⟩
    have HB2 := Lib.hid (HB1.out.trans (hb2.mono HB1.out.size))
    have hb3 := below_one w2 (insB (op0 : Int) 0)
    have HI3 := Lib.hid (heap_alloc_new w2 (insB (op0 : Int) 0))
    have HB3 := Lib.hid (HB2.out.trans (hb3.mono HB2.out.size))
    clear hb2 hb3 HB1 HB2
    go_upto_region 8 with fail
    generalize w2.alloc (insB (op0 : Int) 0) = w3 at *
    generalize w2.heap.size = q at *
    have i0 : w3.cell? ⟨q, 0, none⟩ = some (.int .i64 (op0 : Int)) := (cell_of_heap HI3.out).trans rfl
    have i1 : w3.cell? ⟨q, 1, none⟩ = some (.int .i64 0) := (cell_of_heap HI3.out).trans rfl
    have hli := heap_lt HI3.out
    have HEF := Lib.hid (fun (of : Option Addr) (W : World) (h : ModIn W (fun k => k < W.heap.size) (.slice none 0 0) (.slice of 1 1) (ck.mone [⟨(op0 : Int), 0⟩])) (hb : Below w.heap.size w W) => effect_then [⟨(op0 : Int), 0⟩] (ck.plain op0) (op0 : Int) 0 (ck.one_eff op0 hop0 _) of W h (HTT.out W hb))
    generalize hR : ck.plain ((op0 : Nat) : Int) = R at *
    have HRR := Lib.hid hR
    clear hR
    obtain ⟨t, p, ok⟩ := R
    have hplain := HPL.out
    dsimp only at hplain
    obtain ⟨rfl, ht0, ht2, hp0, hp2⟩ := hplain
    go_cut [6, 7, 8] from 30 to 38 (fun s6 s7 s8 wx => s6 = .int .i64 t ∧ s7 = .int .i64 p ∧ s8 = .bool true ∧ Hid (wx.heap[q]? = some (insB (op0 : Int) 0) ∧ Below w.heap.size w wx))
    case first =>
      have hbL := below_one w3 (.cells #[.int .i64 (op0 : Int), .int .i64 0] 46)
      have HML := Lib.hid (mod_then [⟨(op0 : Int), 0⟩] _ 1 1 (w3.alloc (.cells #[.int .i64 (op0 : Int), .int .i64 0] 46)).drew (RowIn.keep (InsIn.new w3 [⟨(op0 : Int), 0⟩] #[.int .i64 (op0 : Int), .int .i64 0] rfl 1 rfl (by decide)) (fun _ _ _ => rfl) (Nat.le_refl _) (fun _ h _ => h)))
      have HBL := Lib.hid (And.intro (HB3.out.trans (hbL.mono HB3.out.size)) ((hbL.block _ hli).trans HI3.out))
      clear hbL
      go_region_law (first
        | (go_simp; go_at_call 24; refine HML.out.mono ?_; rintro e w4 ⟨of4, rfl, hm4, hb4⟩; have hb4' : Below (w3.alloc (.cells #[.int .i64 (op0 : Int), .int .i64 0] 46)).heap.size (w3.alloc (.cells #[.int .i64 (op0 : Int), .int .i64 0] 46)) w4 := ⟨hb4.os, hb4.tape, hb4.output, hb4.size, hb4.block⟩; have HM4 := Lib.hid hm4; have HQ4 := Lib.hid (And.intro ((hb4'.block _ (heap_lt HBL.out.2)).trans HBL.out.2) (HBL.out.1.trans (hb4'.mono HBL.out.1.size))); have j0 : w4.cell? ⟨q, 0, none⟩ = some (.int .i64 (op0 : Int)) := (cell_of_heap HQ4.out.1).trans rfl; have j1 : w4.cell? ⟨q, 1, none⟩ = some (.int .i64 0) := (cell_of_heap HQ4.out.1).trans rfl; have hlj := heap_lt HQ4.out.1; clear hb4 hb4' hm4)
        | (go_simp; go_at_call 19; refine (HEF.out _ w4 HM4.out HQ4.out.2).mono ?_; rintro e w5 ⟨rfl, hb5⟩; have HQ5 := Lib.hid (And.intro ((hb5.block _ (heap_lt HQ4.out.1)).trans HQ4.out.1) (HQ4.out.2.trans (hb5.mono HQ4.out.2.size))); clear hb5))
      all_goals
        go_wp2_with fail
        go_meet
        exact ⟨rfl, rfl, rfl, HQ5⟩
    case rest =>
    obtain ⟨rfl, rfl, rfl, HQ⟩ := hcut
    clear i0 i1 hli HI3 HB3 HEF HPL
    generalize wc = w5 at *
    have hbL := below_one w5 (.cells #[.int .i64 0, .int .i64 1] 3)
    have HL0 := Lib.hid (heap_alloc_new w5 (.cells #[.int .i64 0, .int .i64 1] 3))
    have HQ2 := Lib.hid (And.intro ((hbL.block _ (heap_lt HQ.out.1)).trans HQ.out.1) (HQ.out.2.trans (hbL.mono HQ.out.2.size)))
    clear hbL HQ
    go_upto_region 12 with fail
    generalize w5.alloc (.cells #[.int .i64 0, .int .i64 1] 3) = w6 at *
    generalize w5.heap.size = gl at *
    go_loopg [43] 2 (fun gg s43 wr => ∃ r : Nat, s43 = .int .i64 r ∧ r ≤ 2 ∧ 2 - r ≤ gg ∧ Hid (wr.heap[q]? = some (insB (op0 : Int) 0) ∧ wr.heap[gl]? = some (.cells #[.int .i64 0, .int .i64 1] 3 (0, 0)) ∧ Below w.heap.size w wr))
    case atStart => exact ⟨0, rfl, by omega, by omega, Lib.hid ⟨HQ2.out.1, HL0.out, HQ2.out.2⟩⟩
    case round =>
      clear HQ2 HL0
      obtain ⟨r, rfl, hr, hgr, HA⟩ := hrel
      by_cases hr2 : r < 2
      case neg =>
        obtain rfl : r = 2 := by omega
        go_wp2_with fail
        go_ret
        exact ⟨rfl, HA.out.2.2⟩
      case pos =>
        have hri : (r : Int) < 2 := by omega
        have cl : wr.cell? ⟨gl, r, none⟩ = some (.int .i64 r) := (cell_of_heap HA.out.2.1).trans (by rcases (show r = 0 ∨ r = 1 by omega) with rfl | rfl <;> rfl)
        have hll := heap_lt HA.out.2.1
        have HCHK := Lib.hid (HALL.out r hr2)
        have HFX := Lib.hid (fun (W : World) (hb : Below wr.heap.size wr W) => And.intro ((hb.block _ (heap_lt HA.out.1)).trans HA.out.1) (And.intro ((hb.block _ (heap_lt HA.out.2.1)).trans HA.out.2.1) (HA.out.2.2.trans (hb.mono HA.out.2.2.size))))
        have HC0 : Hid (CR wr.heap.size wr (wr.alloc (.cells #[] 46)) (.slice (some ⟨wr.heap.size, 0, none⟩) 0 0) (ck.pushes 0)) := Lib.hid ⟨World.ownsRow_lit wr #[] 0 (Nat.le_refl _) (by unfold maxLen; omega) rfl, below_one wr _⟩
        have HFL : Hid (ck.oneFl op0 kk r = if t ≤ (kk : Int) ∧ r = 0 then ⟨0, 0, 0⟩ else ⟨0, -1, 130⟩) := Lib.hid (by unfold ck.oneFl; rw [HRR.out])
        obtain ⟨N, hN⟩ : ∃ N, ck.oneN op0 kk r = N := ⟨_, rfl⟩
        have HNN := Lib.hid hN
        have hNN : N = ((kk : Int) - t + p + r).toNat := by rw [← hN]; unfold ck.oneN; rw [HRR.out]
        have hN2 : (N : Int) = (kk : Int) - t + p + r ∨ (N = 0 ∧ (kk : Int) - t + p + r < 0) := by omega
        have HN2 := Lib.hid hN2
        have hN10 : N ≤ 12 := by omega
        clear HA hN hNN hN2
        go_upto_region 16 with fail
        generalize wr.alloc (.cells #[] 46) = w7 at *
        clear cl hll
        generalize wr = wo at *
        go_loopg [11, 12] kk (fun gg s11 s12 wr => ∃ (j : Nat) (ao : Option Addr) (ac : Nat), s12 = .int .i64 j ∧ s11 = .slice ao j ac ∧ j ≤ kk ∧ kk - j ≤ gg ∧ Hid (CR wo.heap.size wo wr (.slice ao j ac) (ck.pushes j)))
        case atStart => exact ⟨0, _, _, rfl, rfl, Nat.zero_le _, by omega, HC0⟩
        case round =>
          clear HC0
          obtain ⟨j, ao, ac, rfl, rfl, hj, hgj, HB⟩ := hrel
          by_cases hjk : j < kk
          case pos =>
            have hji : (j : Int) < (kk : Int) := by omega
            go_wp2_with fail
            refine (ins13_any 1 j wr).mono ?_
            rintro e v2 ⟨rfl, hb2⟩
            have H2 := Lib.hid (HB.out.next HB.out.bel.size hb2)
            clear hb2 HB
            obtain ⟨LL, hLL⟩ : ∃ LL : List md.Ins, (ck.pushes j) ++ [⟨1, (j : Nat)⟩] = LL := ⟨_, rfl⟩
            have HLL := Lib.hid hLL
            clear hLL
            go_wp2_with (at_builtin; go_loud (refine wpList_ins v2 ⟨1, (j : Nat)⟩ rfl _ _ rfl wo.heap.size (.slice ao j ac) (ck.pushes j) LL HLL.out rfl H2.out.own v2.heap.size rfl rfl (by rw [ck.pushes_len]; omega) H2.out.bel.size ?_))
            intro V' v3 r1 r2
            have H3 : Hid (CR wo.heap.size wo v3 V' (ck.pushes (j + 1))) := Lib.hid (by
              rw [ck.pushes_snoc, HLL.out]
              exact H2.out.push H2.out.bel.size r1 r2)
            obtain ⟨ao', ac', rfl⟩ : ∃ ao ac, V' = .slice ao (j + 1) ac := by
              obtain ⟨ao, ac, e⟩ := own_slice H3.out.own
              exact ⟨ao, ac, by rw [e, ck.pushes_len]⟩
            clear r1 r2 H2
            go_wp2_with fail
            go_roundg (kk - (j + 1))
            case measure => omega
            case rel => exact ⟨j + 1, ao', ac', by go_num, rfl, by omega, Nat.le_refl _, H3⟩
          case neg =>
            obtain rfl : j = kk := by omega
            have hji : ¬ (j : Int) < (j : Int) := by omega
            have i0 : wr.cell? ⟨q, 0, none⟩ = some (.int .i64 (op0 : Int)) := (cell_of_heap (HFX.out wr HB.out.bel).1).trans rfl
            have i1 : wr.cell? ⟨q, 1, none⟩ = some (.int .i64 0) := (cell_of_heap (HFX.out wr HB.out.bel).1).trans rfl
            have hli := heap_lt (HFX.out wr HB.out.bel).1
            obtain ⟨LL, hLL⟩ : ∃ LL : List md.Ins, (ck.pushes j) ++ [⟨(op0 : Int), 0⟩] = LL := ⟨_, rfl⟩
            have HLL := Lib.hid hLL
            clear hLL
            go_wp2_with (at_builtin; go_loud (refine wpList_ins wr ⟨(op0 : Int), 0⟩ rfl _ _ rfl wo.heap.size (.slice ao j ac) (ck.pushes j) LL HLL.out rfl HB.out.own wr.heap.size rfl rfl (by rw [ck.pushes_len]; omega) HB.out.bel.size ?_))
            intro V1 v3 r1 r2
            have H3 : Hid (CR wo.heap.size wo v3 V1 (ck.pushes j ++ [⟨(op0 : Int), 0⟩] ++ ck.drops 0)) := Lib.hid (by
              rw [show ck.pushes j ++ [(⟨(op0 : Int), 0⟩ : md.Ins)] ++ ck.drops 0 = ck.pushes j ++ [⟨(op0 : Int), 0⟩] from List.append_nil _, HLL.out]
              exact HB.out.push HB.out.bel.size r1 r2)
            obtain ⟨ao1, ac1, rfl⟩ : ∃ ao ac, V1 = .slice ao (j + 1 + 0) ac := by
              obtain ⟨ao, ac, e⟩ := own_slice H3.out.own
              exact ⟨ao, ac, e.trans (by congr 1; simp [ck.pushes_len, ck.drops_len]; try omega)⟩
            clear r1 r2 HB i0 i1 hli
            go_upto_region 21 with fail
            generalize wr = wp at *
            go_loopg [11, 13] N (fun gg s11 s13 wr => ∃ (d : Nat) (ao : Option Addr) (ac : Nat), s13 = .int .i64 d ∧ s11 = .slice ao (j + 1 + d) ac ∧ d ≤ N ∧ N - d ≤ gg ∧ Hid (CR wo.heap.size wo wr (.slice ao (j + 1 + d) ac) (ck.pushes j ++ [⟨(op0 : Int), 0⟩] ++ ck.drops d)))
            case atStart => exact ⟨0, ao1, ac1, rfl, rfl, Nat.zero_le _, by omega, H3⟩
            case round =>
              clear H3
              obtain ⟨d, ao2, ac2, rfl, rfl, hd, hgd, HD⟩ := hrel
              have hlen : (ck.pushes j ++ [(⟨(op0 : Int), 0⟩ : md.Ins)] ++ ck.drops d).length = j + 1 + d := by
                simp only [List.length_append, List.length_singleton, ck.pushes_len, ck.drops_len]
              have HLEN := Lib.hid hlen
              clear hlen
              by_cases hdN : d < N
              case pos =>
                have hdi : (d : Int) < (j : Int) - t + p + (r : Int) := by have := HN2.out; omega
                go_wp2_with fail
                refine (ins13_any 2 0 wr).mono ?_
                rintro e v4 ⟨rfl, hb4⟩
                have H4 := Lib.hid (HD.out.next HD.out.bel.size hb4)
                clear hb4 HD
                obtain ⟨LL, hLL⟩ : ∃ LL : List md.Ins, (ck.pushes j ++ [⟨(op0 : Int), 0⟩] ++ ck.drops d) ++ [⟨2, 0⟩] = LL := ⟨_, rfl⟩
                have HLL := Lib.hid hLL
                clear hLL
                go_wp2_with (at_builtin; go_loud (refine wpList_ins v4 ⟨2, 0⟩ rfl _ _ rfl wo.heap.size (.slice ao2 (j + 1 + d) ac2) (ck.pushes j ++ [⟨(op0 : Int), 0⟩] ++ ck.drops d) LL HLL.out rfl H4.out.own v4.heap.size rfl rfl (by rw [HLEN.out]; omega) H4.out.bel.size ?_))
                intro V' v5 r1 r2
                have H5 : Hid (CR wo.heap.size wo v5 V' (ck.pushes j ++ [⟨(op0 : Int), 0⟩] ++ ck.drops (d + 1))) := Lib.hid (by
                  rw [ck.drops_snoc, ← List.append_assoc, HLL.out]
                  exact H4.out.push H4.out.bel.size r1 r2)
                obtain ⟨ao', ac', rfl⟩ : ∃ ao ac, V' = .slice ao (j + 1 + (d + 1)) ac := by
                  obtain ⟨ao, ac, e⟩ := own_slice H5.out.own
                  exact ⟨ao, ac, e.trans (by congr 1; simp [ck.pushes_len, ck.drops_len]; try omega)⟩
                clear r1 r2 H4
                go_wp2_with fail
                go_roundg (N - (d + 1))
                case measure => omega
                case rel => exact ⟨d + 1, ao', ac', by go_num, rfl, by omega, Nat.le_refl _, H5⟩
              case neg =>
                obtain rfl : d = N := by omega
                have hdi : ¬ (d : Int) < (j : Int) - t + p + (r : Int) := by have := HN2.out; omega
                go_wp2_with fail
                refine (ins13_any 27 0 wr).mono ?_
                rintro e v4 ⟨rfl, hb4⟩
                have H4 := Lib.hid (HD.out.next HD.out.bel.size hb4)
                clear hb4 HD
                obtain ⟨LL, hLL⟩ : ∃ LL : List md.Ins, (ck.pushes j ++ [⟨(op0 : Int), 0⟩] ++ ck.drops d) ++ [⟨27, 0⟩] = LL := ⟨_, rfl⟩
                have HLL := Lib.hid hLL
                clear hLL
                go_wp2_with (at_builtin; go_loud (refine wpList_ins v4 ⟨27, 0⟩ rfl _ _ rfl wo.heap.size (.slice ao2 (j + 1 + d) ac2) (ck.pushes j ++ [⟨(op0 : Int), 0⟩] ++ ck.drops d) LL HLL.out rfl H4.out.own v4.heap.size rfl rfl (by rw [HLEN.out]; omega) H4.out.bel.size ?_))
                intro V' v5 r1 r2
                have H5 : Hid (CR wo.heap.size wo v5 V' (ck.oneCode op0 j r)) := Lib.hid (by
                  show CR _ _ _ _ (ck.pushes j ++ [⟨(op0 : Int), 0⟩] ++ ck.drops (ck.oneN op0 j r) ++ [⟨27, 0⟩])
                  rw [HNN.out, HLL.out]
                  exact H4.out.push H4.out.bel.size r1 r2)
                clear r1 r2 H4
                obtain ⟨ao3, ac3, rfl⟩ := own_slice H5.out.own
                have hin : InsIn v5 (fun k => k < v5.heap.size) (.slice ao3 (ck.oneCode op0 j r).length ac3) (ck.oneCode op0 j r) := RowIn.of_own H5.out.own (codeC_len _) _ (fun g hg => (H5.out.own.lt g hg).2)
                have HMD := Lib.hid (mod_then (ck.oneCode op0 j r) _ _ _ v5 hin)
                have H6 := Lib.hid H5.out.bel
                clear hin H5
                generalize (ck.oneCode op0 j r).length = nl at *
                go_wp2_with fail
                refine HMD.out.mono ?_
                rintro e v6 ⟨of6, rfl, hm6, hb6⟩
                have H7 := Lib.hid (H6.out.trans (hb6.mono H6.out.size))
                have HCT := Lib.hid (check_then (ck.oneCode op0 j r) _ HCHK.out of6 v6 hm6 (HTT.out v6 (HFX.out v6 H7.out).2.2) (ck.one_i64 op0 j r hk8))
                clear hm6 hb6 HMD H6
                generalize hfl : ck.oneFl op0 j r = FL at *
                clear hfl
                go_wp2_with fail
                refine HCT.out.mono ?_
                rintro e v7 ⟨rfl, hb7⟩
                have H8 := Lib.hid (H7.out.trans (hb7.mono H7.out.size))
                have hb9 := below_one v7 (flO FL)
                have HN9 := Lib.hid (heap_alloc_new v7 (flO FL))
                have H9 := Lib.hid (H8.out.trans (hb9.mono H8.out.size))
                clear hb7 hb9 HCT H7 H8
                by_cases hgood : t ≤ (j : Int) ∧ r = 0
                · obtain ⟨hg1, rfl⟩ := hgood
                  have hfl : FL = ⟨0, 0, 0⟩ := by rw [HFL.out, if_pos ⟨hg1, rfl⟩]
                  subst hfl
                  clear HFL HCHK
                  dsimp only at HN9 H9 ⊢
                  go_upto_region 26 with fail
                  generalize v7.alloc (.cells #[.int .i64 0, .int .i64 0, .int .i64 0] 29) = v9 at *
                  generalize v7.heap.size = q9 at *
                  have a0 : v9.cell? ⟨q9, 0, none⟩ = some (.int .i64 0) := (cell_of_heap HN9.out).trans rfl
                  have a1 : v9.cell? ⟨q9, 1, none⟩ = some (.int .i64 0) := (cell_of_heap HN9.out).trans rfl
                  have a2 : v9.cell? ⟨q9, 2, none⟩ = some (.int .i64 0) := (cell_of_heap HN9.out).trans rfl
                  have hla := heap_lt HN9.out
                  go_wp2_with fail
                  go_roundg (2 - (0 + 1))
                  case measure => omega
                  case rel => exact ⟨0 + 1, by go_num, by omega, Nat.le_refl _, Lib.hid (HFX.out v9 H9.out)⟩
                · have hfl : FL = ⟨0, -1, 130⟩ := by rw [HFL.out, if_neg hgood]
                  subst hfl
                  clear HFL HCHK
                  dsimp only at HN9 H9 ⊢
                  go_upto_region 26 with fail
                  generalize v7.alloc (.cells #[.int .i64 0, .int .i64 (-1), .int .i64 130] 29) = v9 at *
                  generalize v7.heap.size = q9 at *
                  have a0 : v9.cell? ⟨q9, 0, none⟩ = some (.int .i64 0) := (cell_of_heap HN9.out).trans rfl
                  have a1 : v9.cell? ⟨q9, 1, none⟩ = some (.int .i64 (-1)) := (cell_of_heap HN9.out).trans rfl
                  have a2 : v9.cell? ⟨q9, 2, none⟩ = some (.int .i64 130) := (cell_of_heap HN9.out).trans rfl
                  have hla := heap_lt HN9.out
                  by_cases hg1 : t ≤ (j : Int)
                  · have hr1 : r ≠ 0 := fun e => hgood ⟨hg1, e⟩
                    have er : ((r : Int) == 0) = false := by simp; omega
                    clear hgood hr1
                    go_wp2_with fail
                    go_roundg (2 - (r + 1))
                    case measure => omega
                    case rel => exact ⟨r + 1, by go_num, by omega, Nat.le_refl _, Lib.hid (HFX.out v9 H9.out)⟩
                  · clear hgood
                    go_wp2_with fail
                    go_roundg (2 - (r + 1))
                    case measure => omega
                    case rel => exact ⟨r + 1, by go_num, by omega, Nat.le_refl _, Lib.hid (HFX.out v9 H9.out)⟩
end Go.Proofs.YtibpbnffennmeaaDoor
