/- The document's Check: what is wrong with a module. -/
import Derived.Test.YtoknolljfeaapaaDoorCkRefH
import Derived.Test.YtoknolljfeaapaaDoorCkBad
import Derived.Test.YtoknolljfeaapaaDoorMdRefE
namespace Go.Proofs.YtoknolljfeaapaaDoor
open Go.RowKit
abbrev rflZ : Obj := .cells #[.int .i64 0, .int .i64 0, .int .i64 0] 32
theorem rfl3 {w X : World} {b : Nat} {x0 x1 x2 : Value} (h : X.heap[b]? = some (.cells #[x0, x1, x2] 32 (0, 0))) (hb : Below w.heap.size w X) (hw : w.heap.size ≤ b) (a0 a1 a2 : Value) :
    (((X.setCell ⟨b, 0, none⟩ a0).setCell ⟨b, 1, none⟩ a1).setCell ⟨b, 2, none⟩ a2).heap[b]? = some (.cells #[a0, a1, a2] 32 (0, 0)) ∧ Below w.heap.size w (((X.setCell ⟨b, 0, none⟩ a0).setCell ⟨b, 1, none⟩ a1).setCell ⟨b, 2, none⟩ a2) := by
  have h0 := heap_setCell_same X b 0 _ _ a0 h
  have h1 := heap_setCell_same _ b 1 _ _ a1 h0
  exact ⟨heap_setCell_same _ b 2 _ _ a2 h1, ((hb.setCell hw _).setCell hw _).setCell hw _⟩
theorem ck.ops_rng {m : md.Mod} (h : md.err m = 0) {f : Nat} (hf : f < m.funcs.length) : ∀ i ∈ (ck.fnAt m f).code, 0 ≤ i.op ∧ i.op ≤ 29 := by
  intro i hi
  unfold md.err at h
  by_cases hr : md.right m = true
  · unfold md.right at hr
    simp only [Bool.and_eq_true, decide_eq_true_eq, List.all_eq_true] at hr
    rw [ck.fnAt_lt hf] at hi
    have := hr.2 _ (List.getElem_mem hf)
    unfold md.rightFn at this
    simp only [Bool.and_eq_true, decide_eq_true_eq, List.all_eq_true] at this
    have := this.2 i hi
    unfold md.rightIns at this
    simp only [Bool.and_eq_true, decide_eq_true_eq] at this
    exact this.1
  · rw [if_neg hr] at h
    cases h
theorem ck.checkFn_none {m : md.Mod} {f : Nat} {c : List md.Ins} (hc : (ck.fnAt m f).code = c) (h : ck.firstBad m f 0 c = none) : ck.checkFn m f = if (ck.heights m f).isSome = true then ck.fine else ⟨f, -1, 130⟩ := by
  unfold ck.checkFn
  rw [hc, h]
theorem ck.checkFn_some {m : md.Mod} {f k : Nat} {c : List md.Ins} (hc : (ck.fnAt m f).code = c) (h : ck.firstBad m f 0 c = some k) : ck.checkFn m f = ⟨f, k, 130⟩ := by
  unfold ck.checkFn
  rw [hc, h]
set_option maxRecDepth 100000 in
set_option maxHeartbeats 6400000 in
theorem rcheck_any (D : Nat → Prop) (m : md.Mod) (VD VF : Value) (w : World) (h : ModIn w D VD VF m) (hD : ∀ k, D k → k < w.heap.size) (hi : md.fnsI m.funcs) :
    Calls Tryd.prog 11 #[modV m VD VF] w fun e w' => FlawAns w w' e (ck.check m) := by
  obtain ⟨R, hR⟩ : ∃ R, ck.check m = R := ⟨_, rfl⟩
  rw [hR]
  obtain ⟨od, cd, of, cf, rfl, rfl, hd1, hd2, hf1, hf2⟩ := h.slices
  have hx := two_boxes w (modB m.mem (.slice od m.data.length cd) (.slice of m.funcs.length cf)) rflZ
  have HM := Lib.hid (h.below hx.2.2)
  have HX := Lib.hid hx
  have HBB := Lib.hid hx.2.2
  have HR : Hid (R = if md.err m ≠ 0 then ⟨-1, -1, 1⟩ else if (ck.fnAt m 0).params ≠ 3 ∨ (ck.fnAt m 0).results ≠ 0 then ⟨0, -1, 1⟩ else ck.checkFrom m m.funcs.length 0) := Lib.hid (by rw [← hR]; rfl)
  have HEN := Lib.hid (rencode_any D m _ _ _ HM.out (fun k hk => Nat.lt_of_lt_of_le (hD k hk) hx.2.2.size) hi)
  have HLM := Lib.hid (ck.lim_of_err (m := m))
  have HOR := Lib.hid (fun (he : md.err m = 0) (f : Nat) (hf : f < m.funcs.length) => ck.ops_rng he hf)
  obtain ⟨W2, hW2⟩ : ∃ W2, (w.alloc (modB m.mem (.slice od m.data.length cd) (.slice of m.funcs.length cf))).alloc rflZ = W2 := ⟨_, rfl⟩
  rw [hW2] at HM HX HBB HEN
  have HW2 := Lib.hid hW2
  clear hW2 hR h hx hd1 hd2 hD hi
  obtain ⟨p, hp⟩ : ∃ p, w.heap.size = p := ⟨_, rfl⟩
  have HP := Lib.hid hp
  rw [hp] at HX
  have x0 : W2.cell? ⟨p, 0, none⟩ = some (.int .i64 m.mem) := (cell_of_heap HX.out.1).trans rfl
  have x1 : W2.cell? ⟨p, 1, none⟩ = some (.slice od m.data.length cd) := (cell_of_heap HX.out.1).trans rfl
  have x2 : W2.cell? ⟨p, 2, none⟩ = some (.slice of m.funcs.length cf) := (cell_of_heap HX.out.1).trans rfl
  have hlx := heap_lt HX.out.1
  go_enter Tryd.func11, Tryd.ntmps11
  go_upto_region 1 with fail
  try rw [HW2.out]
  try rw [hp]
  clear HW2 hp
  obtain ⟨em, hem⟩ : ∃ em, md.err m = em := ⟨_, rfl⟩
  have HEM := Lib.hid hem
  rw [hem] at HR
  clear hem
  go_wp2_with fail
  refine HEN.out.mono ?_
  rintro e w3 ⟨v3, rfl, -, hb3⟩
  have H3 : Hid (w3.heap[p + 1]? = some rflZ ∧ Below W2.heap.size W2 w3) := Lib.hid ⟨(hb3.block _ (heap_lt HX.out.2.1)).trans HX.out.2.1, hb3⟩
  rw [HEM.out]
  clear hb3 HEN x0 x1 x2 hlx
  by_cases he : em = 0
  case neg =>
    have HRR : Hid (R = ⟨-1, -1, 1⟩) := Lib.hid (by rw [HR.out, if_pos he])
    have e1 : ((em : Int) != 0) = true := by simp; omega
    have HF := Lib.hid (rfl3 H3.out.1 (HBB.out.trans (H3.out.2.mono HBB.out.size)) (by rw [HP.out]; omega) (.int .i64 (-1)) (.int .i64 (-1)) (.int .i64 1))
    have d0 : w3.cell? ⟨p + 1, 0, none⟩ = some (.int .i64 0) := (cell_of_heap H3.out.1).trans rfl
    have d1 : w3.cell? ⟨p + 1, 1, none⟩ = some (.int .i64 0) := (cell_of_heap H3.out.1).trans rfl
    have d2 : w3.cell? ⟨p + 1, 2, none⟩ = some (.int .i64 0) := (cell_of_heap H3.out.1).trans rfl
    have e0 := thaw (k := 0) H3.out.1
    have e1 := thaw (k := 1) H3.out.1
    have e2 := thaw (k := 2) H3.out.1
    have hlz := heap_lt H3.out.1
    clear HR H3 HLM
    go_wp2_with fail
    refine bodyPost_ret (results_cell_row rfl _ _ (p + 1) 32 _ (0, 0) _ rfl HF.out.1 Tryd.underlying32 rfl (by kernel_rfl)) rfl ?_
    exact FlawAns.eq (r := ⟨-1, -1, 1⟩) ⟨rfl, HF.out.2⟩ HRR.out.symm
  case pos =>
    subst he
    obtain ⟨hlm, hn1, hn16⟩ := HLM.out HEM.out
    have HLM2 := Lib.hid hlm
    have HOR2 := Lib.hid (HOR.out HEM.out)
    clear HLM hlm HOR HEM
    have HR2 : Hid (R = if (ck.fnAt m 0).params ≠ 3 ∨ (ck.fnAt m 0).results ≠ 0 then ⟨0, -1, 1⟩ else ck.checkFrom m m.funcs.length 0) := Lib.hid (by rw [HR.out]; rfl)
    obtain ⟨b, off, oc, cc, rfl, -, hlb, p0, p1, p2, p3, -⟩ := FnsIn.cell (HM.out.below H3.out.2).fns 0 (by omega)
    rw [← ck.fnAt_lt (by omega : 0 < m.funcs.length)] at p0 p1 p2 p3
    simp only [Nat.zero_mul, Nat.add_zero] at p0 p1 p2 p3
    clear HR
    generalize ck.fnAt m 0 = F0 at *
    obtain ⟨P0, P1, P2, cd0⟩ := F0
    dsimp only at p0 p1 p2 p3 HR2
    clear p2 p3
    have bx := (H3.out.2.block _ (heap_lt HX.out.1)).trans HX.out.1
    have x2 : w3.cell? ⟨p, 2, none⟩ = some (.slice (some ⟨b, off, none⟩) m.funcs.length cf) := (cell_of_heap bx).trans rfl
    have hlx := heap_lt bx
    have hpos : (0 : Int) < (m.funcs.length : Int) := by omega
    clear bx
    by_cases hst : P0 ≠ 3 ∨ P1 ≠ 0
    case pos =>
      have HRR : Hid (R = ⟨0, -1, 1⟩) := Lib.hid (by rw [HR2.out, if_pos hst])
      have HF := Lib.hid (rfl3 H3.out.1 (HBB.out.trans (H3.out.2.mono HBB.out.size)) (by rw [HP.out]; omega) (.int .i64 0) (.int .i64 (-1)) (.int .i64 1))
      have d0 : w3.cell? ⟨p + 1, 0, none⟩ = some (.int .i64 0) := (cell_of_heap H3.out.1).trans rfl
      have d1 : w3.cell? ⟨p + 1, 1, none⟩ = some (.int .i64 0) := (cell_of_heap H3.out.1).trans rfl
      have d2 : w3.cell? ⟨p + 1, 2, none⟩ = some (.int .i64 0) := (cell_of_heap H3.out.1).trans rfl
      have e0 := thaw (k := 0) H3.out.1
      have e1 := thaw (k := 1) H3.out.1
      have e2 := thaw (k := 2) H3.out.1
      have hlz := heap_lt H3.out.1
      clear HR2 H3
      by_cases h3 : P0 = 3
      · have g3 : (P0 != 3) = false := by simp [h3]
        have g0 : (P1 != 0) = true := by simp; omega
        clear hst h3
        go_wp2_with fail
        refine bodyPost_ret (results_cell_row rfl _ _ (p + 1) 32 _ (0, 0) _ rfl HF.out.1 Tryd.underlying32 rfl (by kernel_rfl)) rfl ?_
        exact FlawAns.eq (r := ⟨0, -1, 1⟩) ⟨rfl, HF.out.2⟩ HRR.out.symm
      · have g3 : (P0 != 3) = true := by simpa using h3
        clear hst h3
        go_wp2_with fail
        refine bodyPost_ret (results_cell_row rfl _ _ (p + 1) 32 _ (0, 0) _ rfl HF.out.1 Tryd.underlying32 rfl (by kernel_rfl)) rfl ?_
        exact FlawAns.eq (r := ⟨0, -1, 1⟩) ⟨rfl, HF.out.2⟩ HRR.out.symm
    case neg =>
      have g3 : (P0 != 3) = false := by simp; omega
      have g0 : (P1 != 0) = false := by simp; omega
      have HRR : Hid (ck.checkFrom m m.funcs.length 0 = R) := Lib.hid (by rw [HR2.out, if_neg hst])
      clear hst
      go_upto_region 7 with fail
      clear p0 p1 hlb x2 hlx HR2 g3 g0
      go_loopg [5] m.funcs.length (fun gg s5 wr => ∃ j : Nat, s5 = .int .i64 j ∧ j ≤ m.funcs.length ∧ m.funcs.length - j ≤ gg ∧ Hid (ck.checkFrom m (m.funcs.length - j) j = R ∧ wr.heap[p + 1]? = some rflZ ∧ Below W2.heap.size W2 wr))
      case atStart => exact ⟨0, rfl, Nat.zero_le _, by omega, Lib.hid ⟨HRR.out, H3.out⟩⟩
      case round =>
        clear H3 HRR
        obtain ⟨j, rfl, hj, hgg, HA⟩ := hrel
        have bx := (HA.out.2.2.block _ (heap_lt HX.out.1)).trans HX.out.1
        have x2 : wr.cell? ⟨p, 2, none⟩ = some (.slice (some ⟨b, off, none⟩) m.funcs.length cf) := (cell_of_heap bx).trans rfl
        have hlx := heap_lt bx
        by_cases hlt : j < m.funcs.length
        case neg =>
          have hji : ¬ (j : Int) < (m.funcs.length : Int) := by omega
          have HRR : Hid (ck.fine = R) := Lib.hid (by
            have := HA.out.1
            rw [show m.funcs.length - j = 0 by omega] at this
            exact this)
          have HF := Lib.hid (rfl3 HA.out.2.1 (HBB.out.trans (HA.out.2.2.mono HBB.out.size)) (by rw [HP.out]; omega) (.int .i64 0) (.int .i64 0) (.int .i64 0))
          have HZ := Lib.hid HA.out.2.1
          have d0 : wr.cell? ⟨p + 1, 0, none⟩ = some (.int .i64 0) := (cell_of_heap HZ.out).trans rfl
          have d1 : wr.cell? ⟨p + 1, 1, none⟩ = some (.int .i64 0) := (cell_of_heap HZ.out).trans rfl
          have d2 : wr.cell? ⟨p + 1, 2, none⟩ = some (.int .i64 0) := (cell_of_heap HZ.out).trans rfl
          have e0 := thaw (k := 0) HZ.out
          have e1 := thaw (k := 1) HZ.out
          have e2 := thaw (k := 2) HZ.out
          have hlz := heap_lt HZ.out
          clear HA
          go_wp2_with fail
          refine bodyPost_ret (results_cell_row rfl _ _ (p + 1) 32 _ (0, 0) _ rfl HF.out.1 Tryd.underlying32 rfl (by kernel_rfl)) rfl ?_
          exact FlawAns.eq (r := ck.fine) ⟨rfl, HF.out.2⟩ HRR.out
        case pos =>
          have hji : (j : Int) < (m.funcs.length : Int) := by omega
          have hst : (if ck.checkFn m j = ck.fine then ck.checkFrom m (m.funcs.length - (j + 1)) (j + 1) else ck.checkFn m j) = R := by
            have := HA.out.1
            rw [show m.funcs.length - j = (m.funcs.length - (j + 1)) + 1 by omega] at this
            exact this
          have HST := Lib.hid hst
          clear hst bx
          obtain ⟨b', off', oc', cc', ee, -, hlb0, -, -, -, p30, hin⟩ := FnsIn.cell HM.out.fns j hlt
          obtain ⟨rfl, rfl⟩ : b = b' ∧ off = off' := by
            injection ee with ee
            injection ee with e1 e2
            exact ⟨e1, e2⟩
          clear ee
          have p3 := (cell_of_eq (HA.out.2.2.block b hlb0) _).trans p30
          have hlb := Nat.lt_of_lt_of_le hlb0 HA.out.2.2.size
          clear p30 hlb0
          have hlimj := HLM2.out m.funcs[j] (List.getElem_mem _)
          obtain ⟨c, hc⟩ : ∃ c, (ck.fnAt m j).code = c := ⟨_, rfl⟩
          have hcf : (m.funcs[j]'hlt).code = c := by rw [← ck.fnAt_lt hlt]; exact hc
          rw [hcf] at p3 hin hlimj
          have HC := Lib.hid hc
          have HIN := Lib.hid hin
          have hcc := (RowIn.lens hin).2
          obtain ⟨nc, hnc⟩ : ∃ nc, c.length = nc := ⟨_, rfl⟩
          have HNC := Lib.hid hnc
          rw [hnc] at p3 hcc hlimj
          obtain ⟨FB, hFB⟩ : ∃ FB, ck.firstBad m j 0 c = FB := ⟨_, rfl⟩
          have HFB := Lib.hid hFB
          have HA2 : Hid (wr.heap[p + 1]? = some rflZ ∧ Below W2.heap.size W2 wr) := Lib.hid HA.out.2
          clear hc hcf hin hnc hFB HA
          go_upto_region 11 with fail
          clear p3 hlb x2 hlx
          go_loopg [7] nc (fun gg s7 wx => ∃ i : Nat, s7 = .int .i64 i ∧ i ≤ nc ∧ nc - i ≤ gg ∧ Hid (ck.firstBad m j i (c.drop i) = FB ∧ wx.heap[p + 1]? = some rflZ ∧ Below W2.heap.size W2 wx))
          case atStart => exact ⟨0, rfl, Nat.zero_le _, by omega, Lib.hid ⟨HFB.out, HA2.out.1, HA2.out.2⟩⟩
          case round =>
            clear HA2
            obtain ⟨i, rfl, hi, hgi, HA⟩ := hrel
            have HZ := Lib.hid HA.out.2.1
            have bx := (HA.out.2.2.block _ (heap_lt HX.out.1)).trans HX.out.1
            have x0 : wr.cell? ⟨p, 0, none⟩ = some (.int .i64 m.mem) := (cell_of_heap bx).trans rfl
            have x1 : wr.cell? ⟨p, 1, none⟩ = some (.slice od m.data.length cd) := (cell_of_heap bx).trans rfl
            have x2 : wr.cell? ⟨p, 2, none⟩ = some (.slice (some ⟨b, off, none⟩) m.funcs.length cf) := (cell_of_heap bx).trans rfl
            have hlx := heap_lt bx
            clear bx
            by_cases hit : i < nc
            case neg =>
              have hii : ¬ (i : Int) < (nc : Int) := by omega
              have HFN : Hid (ck.firstBad m j 0 c = none) := Lib.hid (by
                have := HA.out.1
                rw [List.drop_eq_nil_of_le (by rw [HNC.out]; omega)] at this
                rw [HFB.out]
                exact this.symm)
              have HPT : Hid (ck.Pt m j) := Lib.hid ⟨HLM2.out.pt, hlt, fun x hx => by rw [HC.out] at hx; exact ck.firstBad_none c 0 HFN.out x hx⟩
              have HHG := Lib.hid (rheights_any D m _ _ j wr (HM.out.below HA.out.2.2) HLM2.out HPT.out)
              have HCF := Lib.hid (ck.checkFn_none HC.out HFN.out)
              generalize ck.heights m j = HG at *
              cases HG with
              | none =>
                have HRR : Hid (R = ⟨j, -1, 130⟩) := Lib.hid (by
                  have h2 := HST.out
                  have h3 : ck.checkFn m j = ⟨j, -1, 130⟩ := HCF.out
                  rw [h3, if_neg ck.flaw_ne'] at h2
                  exact h2.symm)
                clear HST HCF
                go_wp2_with fail
                refine HHG.out.mono ?_
                rintro e w5 ⟨hb5, rfl⟩
                have hz5 := (hb5.block _ (heap_lt HZ.out)).trans HZ.out
                have HF := Lib.hid (rfl3 hz5 (HBB.out.trans ((HA.out.2.2.trans (hb5.mono HA.out.2.2.size)).mono HBB.out.size)) (by rw [HP.out]; omega) (.int .i64 (j : Nat)) (.int .i64 (-1)) (.int .i64 130))
                have d0 : w5.cell? ⟨p + 1, 0, none⟩ = some (.int .i64 0) := (cell_of_heap hz5).trans rfl
                have d1 : w5.cell? ⟨p + 1, 1, none⟩ = some (.int .i64 0) := (cell_of_heap hz5).trans rfl
                have d2 : w5.cell? ⟨p + 1, 2, none⟩ = some (.int .i64 0) := (cell_of_heap hz5).trans rfl
                have e0 := thaw (k := 0) hz5
                have e1 := thaw (k := 1) hz5
                have e2 := thaw (k := 2) hz5
                have hlz := heap_lt hz5
                clear hb5 hz5 HA HZ HHG x0 x1 x2 hlx
                go_wp2_with fail
                refine bodyPost_ret (results_cell_row rfl _ _ (p + 1) 32 _ (0, 0) _ rfl HF.out.1 Tryd.underlying32 rfl (by kernel_rfl)) rfl ?_
                exact FlawAns.eq (r := ⟨j, -1, 130⟩) ⟨rfl, HF.out.2⟩ HRR.out.symm
              | some hs =>
                have HS2 : Hid (ck.checkFrom m (m.funcs.length - (j + 1)) (j + 1) = R) := Lib.hid (by
                  have h2 := HST.out
                  have h3 : ck.checkFn m j = ck.fine := HCF.out
                  rw [h3, if_pos rfl] at h2
                  exact h2)
                clear HST HCF
                go_wp2_with fail
                refine HHG.out.mono ?_
                rintro e w5 ⟨hb5, V5, rfl, -⟩
                have H5 : Hid (w5.heap[p + 1]? = some rflZ ∧ Below W2.heap.size W2 w5) := Lib.hid ⟨(hb5.block _ (heap_lt HZ.out)).trans HZ.out, HA.out.2.2.trans (hb5.mono HA.out.2.2.size)⟩
                clear hb5 HA HZ HHG x0 x1 x2 hlx
                go_wp2_with fail
                go_roundg (m.funcs.length - (j + 1))
                case measure => omega
                case rel => exact ⟨j + 1, by go_num, by omega, Nat.le_refl _, Lib.hid ⟨HS2.out, H5.out⟩⟩
            case pos =>
              have hii : (i : Int) < (nc : Int) := by omega
              have hic : i < c.length := by rw [HNC.out]; exact hit
              have hfb := HA.out.1
              rw [List.drop_eq_getElem_cons hic] at hfb
              obtain ⟨bc, offc, rfl, -, hlc, y0, y1⟩ := InsIn.cell (RowIn.below HIN.out HA.out.2.2) i hic
              have hor := HOR2.out j hlt c[i] (by rw [HC.out]; exact List.getElem_mem _)
              generalize c[i] = ci at *
              obtain ⟨op, nn⟩ := ci
              dsimp only at y0 y1 hor
              have hfb2 : (if ck.points m j ⟨op, nn⟩ = true then ck.firstBad m j (i + 1) (c.drop (i + 1)) else some i) = FB := hfb
              have HFB2 := Lib.hid hfb2
              clear hfb hfb2
              have HPS := Lib.hid (bad_any D m _ _ j op nn wr.drew (HM.out.below (below_dN HA.out.2.2 1)) HLM2.out hlt hor.1 hor.2)
              generalize ck.points m j ⟨op, nn⟩ = PB at *
              go_upto_region 13 with fail
              go_cut [58] from 52 to 57 (fun s58 wx => s58 = .bool (!PB) ∧ Hid (wx.heap[p + 1]? = some rflZ ∧ Below W2.heap.size W2 wx))
              case first =>
                go_region_law (go_simp; go_at_call 33; refine HPS.out.mono ?_; rintro e w5 ⟨rfl, hb5⟩; have hb5' : Below wr.heap.size wr w5 := ⟨hb5.os, hb5.tape, hb5.output, hb5.size, hb5.block⟩; have H5 := Lib.hid (And.intro ((hb5'.block _ (heap_lt HZ.out)).trans HZ.out) (HA.out.2.2.trans (hb5'.mono HA.out.2.2.size))); clear hb5 hb5')
                all_goals
                  go_wp2_with fail
                  go_meet
                  exact ⟨rfl, H5⟩
              case rest =>
              obtain ⟨rfl, H5⟩ := hcut
              clear x0 x1 x2 hlx y0 y1 hlc HPS HZ HA
              generalize wc = w5 at *
              cases PB with
              | true =>
                have HFB3 : Hid (ck.firstBad m j (i + 1) (c.drop (i + 1)) = FB) := Lib.hid (by have := HFB2.out; rw [if_pos rfl] at this; exact this)
                clear HFB2
                go_wp2_with fail
                go_roundg (nc - (i + 1))
                case measure => omega
                case rel => exact ⟨i + 1, by go_num, by omega, Nat.le_refl _, Lib.hid ⟨HFB3.out, H5.out⟩⟩
              | false =>
                have HRR : Hid (R = ⟨j, i, 130⟩) := Lib.hid (by
                  have h1 : FB = some i := HFB2.out.symm
                  have h2 := HST.out
                  rw [ck.checkFn_some HC.out (HFB.out.trans h1), if_neg ck.flaw_ne'] at h2
                  exact h2.symm)
                clear HFB2 HST
                have HF := Lib.hid (rfl3 H5.out.1 (HBB.out.trans (H5.out.2.mono HBB.out.size)) (by rw [HP.out]; omega) (.int .i64 (j : Nat)) (.int .i64 (i : Nat)) (.int .i64 130))
                have d0 : w5.cell? ⟨p + 1, 0, none⟩ = some (.int .i64 0) := (cell_of_heap H5.out.1).trans rfl
                have d1 : w5.cell? ⟨p + 1, 1, none⟩ = some (.int .i64 0) := (cell_of_heap H5.out.1).trans rfl
                have d2 : w5.cell? ⟨p + 1, 2, none⟩ = some (.int .i64 0) := (cell_of_heap H5.out.1).trans rfl
                have e0 := thaw (k := 0) H5.out.1
                have e1 := thaw (k := 1) H5.out.1
                have e2 := thaw (k := 2) H5.out.1
                have hlz := heap_lt H5.out.1
                clear H5
                go_wp2_with fail
                refine bodyPost_ret (results_cell_row rfl _ _ (p + 1) 32 _ (0, 0) _ rfl HF.out.1 Tryd.underlying32 rfl (by kernel_rfl)) rfl ?_
                exact FlawAns.eq (r := ⟨j, i, 130⟩) ⟨rfl, HF.out.2⟩ HRR.out.symm
end Go.Proofs.YtoknolljfeaapaaDoor
