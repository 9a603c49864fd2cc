/- Check. -/
import Derived.Test.YtoknolljfeaapaaDoorCkChkM
namespace Go.Proofs.YtoknolljfeaapaaDoor
open Go.RowKit
theorem hSFlaw : Tryd.prog.underlying 29 = some (.struct (Tryd.prog.fieldsOf 29)) := by kernel_rfl
theorem hpFlaw : Tryd.prog.stoodInHeld 29 = false := by kernel_rfl
set_option maxRecDepth 100000 in
theorem run_ne_flaw (a b c : Int) (r : Bool) (hr : r = !decide (a = 0 ∧ b = 0 ∧ c = 0)) (w : World) :
    (binOp .neq 29 (.agg #[.int .i64 a, .int .i64 b, .int .i64 c]) (.agg #[.int .i64 0, .int .i64 0, .int .i64 0])).run Tryd.prog w = .ok (.bool r) w := by
  subst hr
  have u3 := Tryd.underlying3
  have a3 := Tryd.isAgg3
  have z3 := Tryd.sizeOf3
  have u4 := Tryd.underlying27
  have a4 := Tryd.isAgg27
  have z4 := Tryd.sizeOf27
  rw [run_neq_struct, show (10000 : Nat) = 9999 + 1 from rfl, run_equalIn_agg w 9999 29 _ _ hSFlaw hpFlaw]
  simp only [Program.fieldsOf, Tryd.underlying29]
  go_simp
  by_cases h1 : a = 0 <;> by_cases h2 : b = 0 <;> by_cases h3 : c = 0 <;> simp [h1, h2, h3]
theorem ck.ne_fine (x : ck.Flaw) : (!decide (x.fn = 0 ∧ x.ins = 0 ∧ x.code = 0)) = !decide (x = ck.fine) := by
  obtain ⟨a, b, c⟩ := x
  congr 1
  rw [Bool.eq_iff_iff]
  simp only [decide_eq_true_eq, ck.fine, ck.Flaw.mk.injEq]
theorem ck.checkFn_cases (m : md.Mod) (f : Nat) : ck.checkFn m f = ck.fine ∨ ∃ a b, ck.checkFn m f = ⟨a, b, 130⟩ := by
  unfold ck.checkFn
  split
  · exact .inr ⟨_, _, rfl⟩
  · split
    · exact .inl rfl
    · exact .inr ⟨_, _, rfl⟩
set_option maxRecDepth 100000 in
set_option maxHeartbeats 3200000 in
theorem check_any (D : Nat → Prop) (m : md.Mod) (VD VF : Value) (w : World) (h : ModIn w D VD VF m) (ht : HT w) (hD : ∀ k, D k → k < w.heap.size) (hi : md.fnsI m.funcs) :
    Calls Tryd.prog 10 #[modV m VD VF] w fun e w' => FlawAns w w' e (ck.check m) := by
  obtain ⟨R, hR⟩ : ∃ R, ck.check m = R := ⟨_, rfl⟩
  rw [hR]
  obtain ⟨od, cd, of, cf, rfl, rfl, hd1, hd2, hf1, hf2⟩ := h.slices
  have hx := two_boxes w (modB m.mem (.slice od m.data.length cd) (.slice of m.funcs.length cf)) flZ
  have HM := Lib.hid (h.below hx.2.2)
  have HT2 := Lib.hid (ht.below hx.2.2)
  have HX := Lib.hid hx
  have HBB := Lib.hid hx.2.2
  have HR : Hid (R = if md.err m ≠ 0 then ⟨-1, -1, 1⟩ else if (ck.fnAt m 0).params ≠ 3 ∨ (ck.fnAt m 0).results ≠ 0 then ⟨0, -1, 1⟩ else ck.checkFrom m m.funcs.length 0) := Lib.hid (by rw [← hR]; rfl)
  have HEN := Lib.hid (encode_any D m _ _ _ HM.out (fun k hk => Nat.lt_of_lt_of_le (hD k hk) hx.2.2.size) hi)
  have HLM := Lib.hid (ck.lim_of_err (m := m))
  obtain ⟨W2, hW2⟩ : ∃ W2, (w.alloc (modB m.mem (.slice od m.data.length cd) (.slice of m.funcs.length cf))).alloc flZ = W2 := ⟨_, rfl⟩
  rw [hW2] at HM HT2 HX HBB HEN
  have HW2 := Lib.hid hW2
  clear hW2 hR h ht hx hd1 hd2 hD hi
  obtain ⟨p, hp⟩ : ∃ p, w.heap.size = p := ⟨_, rfl⟩
  have HP := Lib.hid hp
  rw [hp] at HX
  have x0 : W2.cell? ⟨p, 0, none⟩ = some (.int .i64 m.mem) := (cell_of_heap HX.out.1).trans rfl
  have x1 : W2.cell? ⟨p, 1, none⟩ = some (.slice od m.data.length cd) := (cell_of_heap HX.out.1).trans rfl
  have x2 : W2.cell? ⟨p, 2, none⟩ = some (.slice of m.funcs.length cf) := (cell_of_heap HX.out.1).trans rfl
  have hlx := heap_lt HX.out.1
  go_enter Tryd.func10, Tryd.ntmps10
  go_upto_region 1 with fail
  try rw [HW2.out]
  try rw [hp]
  clear HW2 hp
  generalize hem : md.err m = em at *
  have HEM := Lib.hid hem
  clear hem
  go_wp2_with fail
  refine HEN.out.mono ?_
  rintro e w3 ⟨v3, rfl, -, hb3⟩
  have H3 : Hid (w3.heap[p + 1]? = some flZ ∧ Below W2.heap.size W2 w3) := Lib.hid ⟨(hb3.block _ (heap_lt HX.out.2.1)).trans HX.out.2.1, hb3⟩
  rw [HEM.out]
  clear hb3 HEN x0 x1 x2 hlx
  by_cases he : em = 0
  case neg =>
    have HRR : Hid (R = ⟨-1, -1, 1⟩) := Lib.hid (by rw [HR.out, if_pos he])
    have e1 : ((em : Int) != 0) = true := by simp; omega
    have HF := Lib.hid (fl3 H3.out.1 (HBB.out.trans (H3.out.2.mono HBB.out.size)) (by rw [HP.out]; omega) (.int .i64 (-1)) (.int .i64 (-1)) (.int .i64 1))
    have d0 : w3.cell? ⟨p + 1, 0, none⟩ = some (.int .i64 0) := (cell_of_heap H3.out.1).trans rfl
    have d1 : w3.cell? ⟨p + 1, 1, none⟩ = some (.int .i64 0) := (cell_of_heap H3.out.1).trans rfl
    have d2 : w3.cell? ⟨p + 1, 2, none⟩ = some (.int .i64 0) := (cell_of_heap H3.out.1).trans rfl
    have e0 := thaw (k := 0) H3.out.1
    have e1 := thaw (k := 1) H3.out.1
    have e2 := thaw (k := 2) H3.out.1
    have hlz := heap_lt H3.out.1
    clear HR H3 HLM
    go_wp2_with fail
    refine bodyPost_ret (results_cell_row rfl _ _ (p + 1) 29 _ (0, 0) _ rfl HF.out.1 Tryd.underlying29 rfl (by kernel_rfl)) rfl ?_
    exact FlawAns.eq (r := ⟨-1, -1, 1⟩) ⟨rfl, HF.out.2⟩ HRR.out.symm
  case pos =>
    subst he
    obtain ⟨hlm, hn1, hn16⟩ := HLM.out rfl
    have HLM2 := Lib.hid hlm
    clear HLM hlm
    have HR2 : Hid (R = if (ck.fnAt m 0).params ≠ 3 ∨ (ck.fnAt m 0).results ≠ 0 then ⟨0, -1, 1⟩ else ck.checkFrom m m.funcs.length 0) := Lib.hid (by rw [HR.out]; rfl)
    obtain ⟨b, off, oc, cc, rfl, -, hlb, p0, p1, p2, p3, -⟩ := FnsIn.cell (HM.out.below H3.out.2).fns 0 (by omega)
    rw [← ck.fnAt_lt (by omega : 0 < m.funcs.length)] at p0 p1 p2 p3
    simp only [Nat.zero_mul, Nat.add_zero] at p0 p1 p2 p3
    clear HR
    generalize ck.fnAt m 0 = F0 at *
    obtain ⟨P0, P1, P2, cd0⟩ := F0
    dsimp only at p0 p1 p2 p3 HR2
    generalize cd0.length = nc0 at *
    have bx := (H3.out.2.block _ (heap_lt HX.out.1)).trans HX.out.1
    have x2 : w3.cell? ⟨p, 2, none⟩ = some (.slice (some ⟨b, off, none⟩) m.funcs.length cf) := (cell_of_heap bx).trans rfl
    have hlx := heap_lt bx
    have hb4 := below_one w3 (.cells #[.int .i64 P0, .int .i64 P1, .int .i64 P2, .slice oc nc0 cc] 72)
    have HN4 := Lib.hid (heap_alloc_new w3 (.cells #[.int .i64 P0, .int .i64 P1, .int .i64 P2, .slice oc nc0 cc] 72))
    have H4 : Hid ((w3.alloc (.cells #[.int .i64 P0, .int .i64 P1, .int .i64 P2, .slice oc nc0 cc] 72)).heap[p + 1]? = some flZ ∧ Below W2.heap.size W2 (w3.alloc (.cells #[.int .i64 P0, .int .i64 P1, .int .i64 P2, .slice oc nc0 cc] 72))) := Lib.hid ⟨(hb4.block _ (heap_lt H3.out.1)).trans H3.out.1, H3.out.2.trans (hb4.mono H3.out.2.size)⟩
    have hpos : (0 : Int) < (m.funcs.length : Int) := by omega
    clear hb4 bx
    go_upto_region 5 with fail
    generalize w3.alloc (.cells #[.int .i64 P0, .int .i64 P1, .int .i64 P2, .slice oc nc0 cc] 72) = w4 at *
    generalize w3.heap.size = q at *
    clear p0 p1 p2 p3 hlb x2 hlx H3
    have a0 : w4.cell? ⟨q, 0, none⟩ = some (.int .i64 P0) := (cell_of_heap HN4.out).trans rfl
    have a1 : w4.cell? ⟨q, 1, none⟩ = some (.int .i64 P1) := (cell_of_heap HN4.out).trans rfl
    have hla := heap_lt HN4.out
    have HZ := Lib.hid H4.out.1
    by_cases hst : P0 ≠ 3 ∨ P1 ≠ 0
    case pos =>
      have HRR : Hid (R = ⟨0, -1, 1⟩) := Lib.hid (by rw [HR2.out, if_pos hst])
      have HF := Lib.hid (fl3 H4.out.1 (HBB.out.trans (H4.out.2.mono HBB.out.size)) (by rw [HP.out]; omega) (.int .i64 0) (.int .i64 (-1)) (.int .i64 1))
      have d0 : w4.cell? ⟨p + 1, 0, none⟩ = some (.int .i64 0) := (cell_of_heap HZ.out).trans rfl
      have d1 : w4.cell? ⟨p + 1, 1, none⟩ = some (.int .i64 0) := (cell_of_heap HZ.out).trans rfl
      have d2 : w4.cell? ⟨p + 1, 2, none⟩ = some (.int .i64 0) := (cell_of_heap HZ.out).trans rfl
      have e0 := thaw (k := 0) HZ.out
      have e1 := thaw (k := 1) HZ.out
      have e2 := thaw (k := 2) HZ.out
      have hlz := heap_lt HZ.out
      clear HR2 H4
      by_cases h3 : P0 = 3
      · have g3 : (P0 != 3) = false := by simp [h3]
        have g0 : (P1 != 0) = true := by simp; omega
        clear hst h3
        go_wp2_with fail
        refine bodyPost_ret (results_cell_row rfl _ _ (p + 1) 29 _ (0, 0) _ rfl HF.out.1 Tryd.underlying29 rfl (by kernel_rfl)) rfl ?_
        exact FlawAns.eq (r := ⟨0, -1, 1⟩) ⟨rfl, HF.out.2⟩ HRR.out.symm
      · have g3 : (P0 != 3) = true := by simpa using h3
        clear hst h3
        go_wp2_with fail
        refine bodyPost_ret (results_cell_row rfl _ _ (p + 1) 29 _ (0, 0) _ rfl HF.out.1 Tryd.underlying29 rfl (by kernel_rfl)) rfl ?_
        exact FlawAns.eq (r := ⟨0, -1, 1⟩) ⟨rfl, HF.out.2⟩ HRR.out.symm
    case neg =>
      have g3 : (P0 != 3) = false := by simp; omega
      have g0 : (P1 != 0) = false := by simp; omega
      have HRR : Hid (ck.checkFrom m m.funcs.length 0 = R) := Lib.hid (by rw [HR2.out, if_neg hst])
      have bx4 := (H4.out.2.block _ (heap_lt HX.out.1)).trans HX.out.1
      have x2 : w4.cell? ⟨p, 2, none⟩ = some (.slice (some ⟨b, off, none⟩) m.funcs.length cf) := (cell_of_heap bx4).trans rfl
      have hlx := heap_lt bx4
      have HCF := Lib.hid (fun (f : Nat) (W : World) (hf : f < m.funcs.length) (hb : Below W2.heap.size W2 W) => checkFunc_any D m _ _ f W (HM.out.below hb) (HT2.out.below hb) HLM2.out hf)
      clear hst bx4 HZ
      go_upto_region 8 with fail
      clear a0 a1 hla x2 hlx HR2
      go_loopg [32] m.funcs.length (fun gg s32 wr => ∃ j : Nat, s32 = .int .i64 j ∧ j ≤ m.funcs.length ∧ m.funcs.length - j ≤ gg ∧ Hid (ck.checkFrom m (m.funcs.length - j) j = R ∧ wr.heap[p + 1]? = some flZ ∧ Below W2.heap.size W2 wr))
      case atStart => exact ⟨0, rfl, Nat.zero_le _, by omega, Lib.hid ⟨HRR.out, H4.out⟩⟩
      case round =>
        clear H4 HRR
        obtain ⟨j, rfl, hj, hgg, HA⟩ := hrel
        by_cases hlt : j < m.funcs.length
        case neg =>
          have hji : ¬ (j : Int) < (m.funcs.length : Int) := by omega
          have HRR : Hid (ck.fine = R) := Lib.hid (by
            have := HA.out.1
            rw [show m.funcs.length - j = 0 by omega] at this
            exact this)
          have HF := Lib.hid (fl3 HA.out.2.1 (HBB.out.trans (HA.out.2.2.mono HBB.out.size)) (by rw [HP.out]; omega) (.int .i64 0) (.int .i64 0) (.int .i64 0))
          have HZ := Lib.hid HA.out.2.1
          have d0 : wr.cell? ⟨p + 1, 0, none⟩ = some (.int .i64 0) := (cell_of_heap HZ.out).trans rfl
          have d1 : wr.cell? ⟨p + 1, 1, none⟩ = some (.int .i64 0) := (cell_of_heap HZ.out).trans rfl
          have d2 : wr.cell? ⟨p + 1, 2, none⟩ = some (.int .i64 0) := (cell_of_heap HZ.out).trans rfl
          have e0 := thaw (k := 0) HZ.out
          have e1 := thaw (k := 1) HZ.out
          have e2 := thaw (k := 2) HZ.out
          have hlz := heap_lt HZ.out
          clear HA
          go_wp2_with fail
          refine bodyPost_ret (results_cell_row rfl _ _ (p + 1) 29 _ (0, 0) _ rfl HF.out.1 Tryd.underlying29 rfl (by kernel_rfl)) rfl ?_
          exact FlawAns.eq (r := ck.fine) ⟨rfl, HF.out.2⟩ HRR.out
        case pos =>
          have hji : (j : Int) < (m.funcs.length : Int) := by omega
          have bx := (HA.out.2.2.block _ (heap_lt HX.out.1)).trans HX.out.1
          have x0 : wr.cell? ⟨p, 0, none⟩ = some (.int .i64 m.mem) := (cell_of_heap bx).trans rfl
          have x1 : wr.cell? ⟨p, 1, none⟩ = some (.slice od m.data.length cd) := (cell_of_heap bx).trans rfl
          have x2 : wr.cell? ⟨p, 2, none⟩ = some (.slice (some ⟨b, off, none⟩) m.funcs.length cf) := (cell_of_heap bx).trans rfl
          have hlx := heap_lt bx
          have HCJ := Lib.hid (HCF.out j wr hlt HA.out.2.2)
          have hst : (if ck.checkFn m j = ck.fine then ck.checkFrom m (m.funcs.length - (j + 1)) (j + 1) else ck.checkFn m j) = R := by
            have := HA.out.1
            rw [show m.funcs.length - j = (m.funcs.length - (j + 1)) + 1 by omega] at this
            exact this
          have HST := Lib.hid hst
          have hcs := ck.checkFn_cases m j
          clear bx hst
          generalize ck.checkFn m j = X at *
          have HCS := Lib.hid hcs
          clear hcs
          go_upto_region 10 with fail
          go_wp2_with fail
          refine HCJ.out.mono ?_
          rintro e w5 ⟨rfl, hb5⟩
          have hb6 := below_one w5 (flO X)
          have HN6 := Lib.hid (heap_alloc_new w5 (flO X))
          have hb56 := hb5.trans (hb6.mono hb5.size)
          have H6 : Hid ((w5.alloc (flO X)).heap[p + 1]? = some flZ ∧ Below W2.heap.size W2 (w5.alloc (flO X))) := Lib.hid ⟨(hb56.block _ (heap_lt HA.out.2.1)).trans HA.out.2.1, HA.out.2.2.trans (hb56.mono HA.out.2.2.size)⟩
          clear hb5 hb6 hb56 HCJ HA x0 x1 x2 hlx
          rcases HCS.out with rfl | ⟨X0, X1, rfl⟩
          · unfold ck.fine at HN6 H6 ⊢
            dsimp only at HN6 H6 ⊢
            have HS2 : Hid (ck.checkFrom m (m.funcs.length - (j + 1)) (j + 1) = R) := Lib.hid (by have := HST.out; rw [if_pos rfl] at this; exact this)
            clear HST HCS
            go_upto_region 11 with fail
            generalize w5.alloc (.cells #[.int .i64 0, .int .i64 0, .int .i64 0] 29) = w6 at *
            generalize w5.heap.size = q6 at *
            have a0 : w6.cell? ⟨q6, 0, none⟩ = some (.int .i64 0) := (cell_of_heap HN6.out).trans rfl
            have a1 : w6.cell? ⟨q6, 1, none⟩ = some (.int .i64 0) := (cell_of_heap HN6.out).trans rfl
            have a2 : w6.cell? ⟨q6, 2, none⟩ = some (.int .i64 0) := (cell_of_heap HN6.out).trans rfl
            have hla := heap_lt HN6.out
            go_wp2_with fail
            go_roundg (m.funcs.length - (j + 1))
            case measure => omega
            case rel => exact ⟨j + 1, by go_num, by omega, Nat.le_refl _, Lib.hid ⟨HS2.out, H6.out⟩⟩
          · dsimp only at HN6 H6 ⊢
            have HS2 : Hid (⟨X0, X1, 130⟩ = R) := Lib.hid (by have := HST.out; rw [if_neg ck.flaw_ne'] at this; exact this)
            clear HST HCS
            go_upto_region 11 with fail
            generalize w5.alloc (.cells #[.int .i64 X0, .int .i64 X1, .int .i64 130] 29) = w6 at *
            generalize w5.heap.size = q6 at *
            have a0 : w6.cell? ⟨q6, 0, none⟩ = some (.int .i64 X0) := (cell_of_heap HN6.out).trans rfl
            have a1 : w6.cell? ⟨q6, 1, none⟩ = some (.int .i64 X1) := (cell_of_heap HN6.out).trans rfl
            have a2 : w6.cell? ⟨q6, 2, none⟩ = some (.int .i64 130) := (cell_of_heap HN6.out).trans rfl
            have hla := heap_lt HN6.out
            have HF := Lib.hid (fl3 H6.out.1 (HBB.out.trans (H6.out.2.mono HBB.out.size)) (by rw [HP.out]; omega) (.int .i64 X0) (.int .i64 X1) (.int .i64 130))
            have HZ := Lib.hid H6.out.1
            have d0 : w6.cell? ⟨p + 1, 0, none⟩ = some (.int .i64 0) := (cell_of_heap HZ.out).trans rfl
            have d1 : w6.cell? ⟨p + 1, 1, none⟩ = some (.int .i64 0) := (cell_of_heap HZ.out).trans rfl
            have d2 : w6.cell? ⟨p + 1, 2, none⟩ = some (.int .i64 0) := (cell_of_heap HZ.out).trans rfl
            have e0 := thaw (k := 0) HZ.out
            have e1 := thaw (k := 1) HZ.out
            have e2 := thaw (k := 2) HZ.out
            have hlz := heap_lt HZ.out
            clear H6
            go_wp2_with fail
            refine bodyPost_ret (results_cell_row rfl _ _ (p + 1) 29 _ (0, 0) _ rfl HF.out.1 Tryd.underlying29 rfl (by kernel_rfl)) rfl ?_
            exact FlawAns.eq (r := ⟨X0, X1, 130⟩) ⟨rfl, HF.out.2⟩ HS2.out
end Go.Proofs.YtoknolljfeaapaaDoor
