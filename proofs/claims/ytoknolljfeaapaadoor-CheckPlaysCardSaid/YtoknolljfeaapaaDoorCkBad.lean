/- The document's bad: an instruction that can't be, whatever the heights. -/
import Derived.Test.YtoknolljfeaapaaDoorCkPut
import Derived.Test.YtoknolljfeaapaaDoorCkPts
namespace Go.Proofs.YtoknolljfeaapaaDoor
open Go.RowKit
theorem ck.ok_points {m : md.Mod} {f : Nat} (hf : f < m.funcs.length) {op n : Int} (h0 : 0 ≤ op) (h1 : op ≤ 29) (h5 : ¬ (op = 5 ∨ op = 6)) (h24 : ¬ (op = 24 ∨ op = 25)) : (ck.effect m f ⟨op, n⟩).2.2 = ck.points m f ⟨op, n⟩ := by
  unfold ck.effect ck.points
  rw [if_pos (ck.below_iff.2 ⟨by omega, by omega⟩)]
  simp only
  rw [if_neg h5, if_neg h24]
  by_cases h26 : op = 26
  · rw [if_pos h26, if_pos h26]
    unfold ck.callEff
    cases ck.below n m.funcs.length <;> rfl
  rw [if_neg h26, if_neg h26]
  by_cases h27 : op = 27
  · rw [if_pos h27, if_neg (by omega)]
  rw [if_neg h27]
  by_cases h28 : op = 28
  · rw [if_pos h28, if_pos h28]
    unfold ck.hostEff
    cases ck.below n 12 <;> rfl
  rw [if_neg h28, if_neg h28]
  obtain ⟨k, rfl⟩ : ∃ k : Nat, op = (k : Int) := ⟨op.toNat, by omega⟩
  rw [ck.plain_tab k (by omega) (by omega) (by omega) (by omega)]
theorem ck.bad_below {n b : Int} : (!ck.below n b) = (decide (n < 0) || decide (b ≤ n)) := by
  unfold ck.below
  by_cases h1 : n < 0 <;> by_cases h2 : b ≤ n <;> simp [h1, h2] <;> omega
set_option maxRecDepth 100000 in
set_option maxHeartbeats 3200000 in
theorem bad_any (D : Nat → Prop) (m : md.Mod) (VD VF : Value) (f : Nat) (op n : Int) (w : World) (h : ModIn w D VD VF m) (hm : ck.Lim m) (hf : f < m.funcs.length) (hop0 : 0 ≤ op) (hop1 : op ≤ 29) :
    Calls Tryd.prog 33 #[modV m VD VF, .int .i64 f, .agg #[.int .i64 op, .int .i64 n]] w fun e w' => BoolAns w w' e (!ck.points m f ⟨op, n⟩) := by
  obtain ⟨od, cd, of, cf, rfl, rfl, hd1, hd2, hf1, hf2⟩ := h.slices
  have hx := two_boxes w (modB m.mem (.slice od m.data.length cd) (.slice of m.funcs.length cf)) (insB op n)
  have HM := Lib.hid (h.below hx.2.2)
  have HX := Lib.hid hx
  have hlim := hm.at_ f
  have HEP := Lib.hid (fun (h5 : ¬ (op = 5 ∨ op = 6)) (h24 : ¬ (op = 24 ∨ op = 25)) => ck.ok_points (n := n) hf hop0 hop1 h5 h24)
  have HE : Hid (ck.points m f ⟨op, n⟩ = if op = 5 ∨ op = 6 then ck.below n ((ck.fnAt m f).params + (ck.fnAt m f).locals) else if op = 24 ∨ op = 25 then ck.below n (ck.fnAt m f).code.length else if op = 26 then ck.below n m.funcs.length else if op = 28 then ck.below n 12 else true) := Lib.hid rfl
  have HFE := Lib.hid (fun (W : World) (hb : ModIn W D (.slice od m.data.length cd) (.slice of m.funcs.length cf) m) => reffect_any D m _ _ f op n W hb)
  obtain ⟨b, off, oc, cc, rfl, -, hlb, p0, p1, p2, p3, hin⟩ := FnsIn.cell HM.out.fns f hf
  rw [← ck.fnAt_lt hf] at p0 p1 p2 p3 hin
  have hcc := (RowIn.lens hin).2
  have hsum : IntKind.i64.wrap ((ck.fnAt m f).params + (ck.fnAt m f).locals) = (ck.fnAt m f).params + (ck.fnAt m f).locals := by rw [IntKind.wrap_i64]; omega
  clear h hd1 hd2 hx hm hin
  generalize ck.points m f ⟨op, n⟩ = R0 at *
  generalize ck.effect m f ⟨op, n⟩ = EF at *
  generalize ck.fnAt m f = F at *
  obtain ⟨P0, P1, P2, c⟩ := F
  dsimp only at p0 p1 p2 p3 hcc hsum HE hlim
  obtain ⟨nc, hnc⟩ : ∃ nc, c.length = nc := ⟨_, rfl⟩
  rw [hnc] at p3 hcc HE
  clear hnc
  obtain ⟨W2, hW2⟩ : ∃ W2, (w.alloc (modB m.mem (.slice od m.data.length cd) (.slice (some ⟨b, off, none⟩) m.funcs.length cf))).alloc (insB op n) = W2 := ⟨_, rfl⟩
  rw [hW2] at HX HM hlb p0 p1 p2 p3
  have HW2 := Lib.hid hW2
  clear hW2
  have k2 : W2.cell? ⟨w.heap.size, 2, none⟩ = some (.slice (some ⟨b, off, none⟩) m.funcs.length cf) := (cell_of_heap HX.out.1).trans rfl
  have hl0 := heap_lt HX.out.1
  have hl1 := heap_lt HX.out.2.1
  have hb3 := below_one W2 (.cells #[.int .i64 P0, .int .i64 P1, .int .i64 P2, .slice oc nc cc] 72)
  have HX3 := Lib.hid (And.intro ((hb3.block _ hl0).trans HX.out.1) (And.intro ((hb3.block _ hl1).trans HX.out.2.1) (And.intro (heap_alloc_new W2 (.cells #[.int .i64 P0, .int .i64 P1, .int .i64 P2, .slice oc nc cc] 72)) (And.intro (HX.out.2.2.trans (hb3.mono HX.out.2.2.size)) (HM.out.below hb3)))))
  clear hb3 HX HM
  go_enter Tryd.func33, Tryd.ntmps33
  go_upto_region 1 with fail
  rw [HW2.out]
  clear HW2
  go_upto_region 2 with fail
  clear p0 p1 p2 p3 hlb k2 hl0 hl1
  generalize W2.alloc (.cells #[.int .i64 P0, .int .i64 P1, .int .i64 P2, .slice oc nc cc] 72) = W3 at *
  generalize W2.heap.size = q at *
  have k0 : W3.cell? ⟨w.heap.size, 0, none⟩ = some (.int .i64 m.mem) := (cell_of_heap HX3.out.1).trans rfl
  have k1 : W3.cell? ⟨w.heap.size, 1, none⟩ = some (.slice od m.data.length cd) := (cell_of_heap HX3.out.1).trans rfl
  have k2 : W3.cell? ⟨w.heap.size, 2, none⟩ = some (.slice (some ⟨b, off, none⟩) m.funcs.length cf) := (cell_of_heap HX3.out.1).trans rfl
  have i0 : W3.cell? ⟨w.heap.size + 1, 0, none⟩ = some (.int .i64 op) := (cell_of_heap HX3.out.2.1).trans rfl
  have i1 : W3.cell? ⟨w.heap.size + 1, 1, none⟩ = some (.int .i64 n) := (cell_of_heap HX3.out.2.1).trans rfl
  have y0 : W3.cell? ⟨q, 0, none⟩ = some (.int .i64 P0) := (cell_of_heap HX3.out.2.2.1).trans rfl
  have y2 : W3.cell? ⟨q, 2, none⟩ = some (.int .i64 P2) := (cell_of_heap HX3.out.2.2.1).trans rfl
  have y3 : W3.cell? ⟨q, 3, none⟩ = some (.slice oc nc cc) := (cell_of_heap HX3.out.2.2.1).trans rfl
  have hl0 := heap_lt HX3.out.1
  have hl1 := heap_lt HX3.out.2.1
  have hlq := heap_lt HX3.out.2.2.1
  clear hlim
  by_cases h5 : op = 5 ∨ op = 6
  · have HR : Hid ((!R0) = (decide (n < 0) || decide (P0 + P2 ≤ n))) := Lib.hid (by rw [HE.out, if_pos h5, ck.bad_below])
    clear HE HEP HFE
    rcases h5 with rfl | rfl
    all_goals
      by_cases hn : n < 0
      · have hd : decide (n < 0) = true := decide_eq_true hn
        rw [hd] at HR
        go_wp2_with fail
        go_ret
        exact BoolAns.eq ⟨rfl, HX3.out.2.2.2.1⟩ HR.out.symm
      · have hd : decide (n < 0) = false := decide_eq_false hn
        rw [hd] at HR
        go_wp2_with fail
        go_ret
        exact BoolAns.eq ⟨rfl, HX3.out.2.2.2.1⟩ HR.out.symm
  have e5 : (op == 5) = false := by simp; omega
  have e6 : (op == 6) = false := by simp; omega
  by_cases h24 : op = 24 ∨ op = 25
  · have HR : Hid ((!R0) = (decide (n < 0) || decide ((nc : Int) ≤ n))) := Lib.hid (by rw [HE.out, if_neg h5, if_pos h24, ck.bad_below])
    clear HE HEP HFE
    rcases h24 with rfl | rfl
    all_goals
      clear e5 e6 h5
      by_cases hn : n < 0
      · have hd : decide (n < 0) = true := decide_eq_true hn
        rw [hd] at HR
        go_wp2_with fail
        go_ret
        exact BoolAns.eq ⟨rfl, HX3.out.2.2.2.1⟩ HR.out.symm
      · have hd : decide (n < 0) = false := decide_eq_false hn
        rw [hd] at HR
        go_wp2_with fail
        go_ret
        exact BoolAns.eq ⟨rfl, HX3.out.2.2.2.1⟩ HR.out.symm
  have e24 : (op == 24) = false := by simp; omega
  have e25 : (op == 25) = false := by simp; omega
  have hRR := HEP.out h5 h24
  have HFW := Lib.hid (HFE.out W3 HX3.out.2.2.2.2)
  obtain ⟨t, p, ok⟩ := EF
  dsimp only at hRR
  subst hRR
  clear HE HEP HFE
  go_wp2_with fail
  refine HFW.out.mono ?_
  rintro e w4 ⟨rfl, hb4⟩
  dsimp only
  have HB4 := Lib.hid (HX3.out.2.2.2.1.trans (hb4.mono HX3.out.2.2.2.1.size))
  clear hb4
  go_wp2_with fail
  go_ret
  exact BoolAns.eq ⟨rfl, HB4.out⟩ rfl
end Go.Proofs.YtoknolljfeaapaaDoor
