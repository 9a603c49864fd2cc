/- points. -/
import Derived.Test.YtoknolljfeaapaaDoorCkEff3
namespace Go.Proofs.YtoknolljfeaapaaDoor
open Go.RowKit
set_option maxRecDepth 100000 in
set_option maxHeartbeats 3200000 in
theorem points_any (D : Nat → Prop) (m : md.Mod) (VD VF : Value) (f : Nat) (op n : Int) (w : World) (h : ModIn w D VD VF m) (hm : ck.Lim m) (hf : f < m.funcs.length) :
    Calls Tryd.prog 52 #[modV m VD VF, .int .i64 f, .agg #[.int .i64 op, .int .i64 n]] w fun e w' => BoolAns w w' e (ck.points m f ⟨op, n⟩) := by
  obtain ⟨od, cd, of, cf, rfl, rfl, hd1, hd2, hf1, hf2⟩ := h.slices
  have hx := two_boxes w (modB m.mem (.slice od m.data.length cd) (.slice of m.funcs.length cf)) (insB op n)
  have HM := Lib.hid (h.below hx.2.2)
  have HX := Lib.hid hx
  have hlim := hm.at_ f
  have HE : Hid (ck.points m f ⟨op, n⟩ = if op = 5 ∨ op = 6 then ck.below n ((ck.fnAt m f).params + (ck.fnAt m f).locals) else if op = 24 ∨ op = 25 then ck.below n (ck.fnAt m f).code.length else if op = 26 then ck.below n m.funcs.length else if op = 28 then ck.below n 12 else true) := Lib.hid rfl
  rw [ck.fnAt_lt hf] at HE hlim
  obtain ⟨mem, d, fs⟩ := m
  dsimp only at HM HX HE hf1 hf2 hf hlim ⊢
  generalize ck.points ⟨mem, d, fs⟩ f ⟨op, n⟩ = R0 at *
  obtain ⟨b, off, oc, cc, rfl, -, hlb, p0, -, p2, p3, hin⟩ := FnsIn.cell HM.out.fns f hf
  dsimp only at p0 p2 p3 hlb hin
  have hcc := (RowIn.lens hin).2
  replace hlim : 0 ≤ fs[f].params ∧ fs[f].params ≤ 8 ∧ 0 ≤ fs[f].locals ∧ fs[f].params + fs[f].locals ≤ 16 := by omega
  clear h hd1 hd2 hx hm HM hin
  generalize fs[f].params = P0 at *
  generalize fs[f].locals = P2 at *
  generalize fs[f].code.length = nc at *
  generalize d.length = nd at *
  have HBL := Lib.hid (fun b W => below_any n b W)
  obtain ⟨W2, hW2⟩ : ∃ W2, (w.alloc (modB mem (.slice od nd cd) (.slice (some ⟨b, off, none⟩) fs.length cf))).alloc (insB op n) = W2 := ⟨_, rfl⟩
  rw [hW2] at HX hlb p0 p2 p3
  have HW2 := Lib.hid hW2
  clear hW2
  generalize fs.length = nf at *
  have k0 : W2.cell? ⟨w.heap.size, 0, none⟩ = some (.int .i64 mem) := (cell_of_heap HX.out.1).trans rfl
  have k1 : W2.cell? ⟨w.heap.size, 1, none⟩ = some (.slice od nd cd) := (cell_of_heap HX.out.1).trans rfl
  have k2 : W2.cell? ⟨w.heap.size, 2, none⟩ = some (.slice (some ⟨b, off, none⟩) nf cf) := (cell_of_heap HX.out.1).trans rfl
  have i0 : W2.cell? ⟨w.heap.size + 1, 0, none⟩ = some (.int .i64 op) := (cell_of_heap HX.out.2.1).trans rfl
  have i1 : W2.cell? ⟨w.heap.size + 1, 1, none⟩ = some (.int .i64 n) := (cell_of_heap HX.out.2.1).trans rfl
  have hl0 := heap_lt HX.out.1
  have hl1 := heap_lt HX.out.2.1
  have HB := Lib.hid HX.out.2.2
  clear HX
  go_enter Tryd.func52, Tryd.ntmps52
  go_upto_region 1 with fail
  rw [HW2.out]
  clear HW2
  by_cases h5 : op = 5 ∨ op = 6
  · have HR : Hid (R0 = ck.below n (P0 + P2)) := Lib.hid (by rw [HE.out, if_pos h5])
    clear HE
    have hsum : IntKind.i64.wrap (P0 + P2) = P0 + P2 := by rw [IntKind.wrap_i64]; omega
    rcases h5 with rfl | rfl
    all_goals
      clear hlim
      go_upto_region 4 with fail
      go_quiet ((go_at_call 34; exact Calls.quiet_of_same (HBL.out _ _)))
      go_wp2_with fail
      go_ret
      exact BoolAns.eq ⟨rfl, below_dN HB.out _⟩ HR.out.symm
  have e5 : (op == 5) = false := by simp; omega
  have e6 : (op == 6) = false := by simp; omega
  clear hlim
  by_cases h24 : op = 24 ∨ op = 25
  · have HR : Hid (R0 = ck.below n nc) := Lib.hid (by rw [HE.out, if_neg h5, if_pos h24])
    clear HE h5
    rcases h24 with rfl | rfl
    all_goals
      clear e5 e6
      go_upto_region 7 with fail
      go_quiet ((go_at_call 34; exact Calls.quiet_of_same (HBL.out _ _)))
      go_wp2_with fail
      go_ret
      exact BoolAns.eq ⟨rfl, below_dN HB.out _⟩ HR.out.symm
  have e24 : (op == 24) = false := by simp; omega
  have e25 : (op == 25) = false := by simp; omega
  by_cases h26 : op = 26
  · have HR : Hid (R0 = ck.below n nf) := Lib.hid (by rw [HE.out, if_neg h5, if_neg h24, if_pos h26])
    subst h26
    clear HE h5 h24 e5 e6 e24 e25
    go_wp2_with fail
    refine (HBL.out _ _).mono ?_
    rintro e w' ⟨rfl, hw⟩
    replace hw := hw.symm
    subst hw
    go_wp2_with fail
    go_ret
    exact BoolAns.eq ⟨rfl, HB.out⟩ HR.out.symm
  have e26 : (op == 26) = false := by simpa using h26
  by_cases h28 : op = 28
  · have HR : Hid (R0 = ck.below n 12) := Lib.hid (by rw [HE.out, if_neg h5, if_neg h24, if_neg h26, if_pos h28])
    subst h28
    clear HE h5 h24 e5 e6 e24 e25 h26 e26
    go_wp2_with fail
    refine (HBL.out _ _).mono ?_
    rintro e w' ⟨rfl, hw⟩
    replace hw := hw.symm
    subst hw
    go_wp2_with fail
    go_ret
    exact BoolAns.eq ⟨rfl, HB.out⟩ HR.out.symm
  have e28 : (op == 28) = false := by simpa using h28
  have HR : Hid (R0 = true) := Lib.hid (by rw [HE.out, if_neg h5, if_neg h24, if_neg h26, if_neg h28])
  clear HE h5 h24 h26 h28
  go_wp2_with fail
  go_ret
  exact BoolAns.eq ⟨rfl, HB.out⟩ HR.out.symm
end Go.Proofs.YtoknolljfeaapaaDoor
