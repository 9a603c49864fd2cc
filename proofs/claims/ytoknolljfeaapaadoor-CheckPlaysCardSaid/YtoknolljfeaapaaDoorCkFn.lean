/- checkFunc. -/
import Derived.Test.YtoknolljfeaapaaDoorCkHgt
namespace Go.Proofs.YtoknolljfeaapaaDoor
open Go.RowKit
theorem ck.firstBad_none {m : md.Mod} {f : Nat} : ∀ (l : List md.Ins) (k : Nat), ck.firstBad m f k l = none → ∀ i ∈ l, ck.points m f i = true
  | [], _, _, i, hi => by cases hi
  | x :: r, k, h, i, hi => by
    unfold ck.firstBad at h
    by_cases hx : ck.points m f x = true
    · rw [if_pos hx] at h
      rcases List.mem_cons.1 hi with rfl | hi
      · exact hx
      · exact ck.firstBad_none r (k + 1) h i hi
    · rw [if_neg hx] at h
      cases h
abbrev flV (x : ck.Flaw) : Value := .agg #[.int .i64 x.fn, .int .i64 x.ins, .int .i64 x.code]
abbrev flO (x : ck.Flaw) : Obj := .cells #[.int .i64 x.fn, .int .i64 x.ins, .int .i64 x.code] 29
abbrev flZ : Obj := .cells #[.int .i64 0, .int .i64 0, .int .i64 0] 29
/-- what checkFunc and Check answer -/
def FlawAns (w w' : World) (e : Ending) (x : ck.Flaw) : Prop := e = .returned (flV x) ∧ Below w.heap.size w w'
theorem FlawAns.eq {w w' : World} {e : Ending} {r r' : ck.Flaw} (h : FlawAns w w' e r) (hr : r = r') : FlawAns w w' e r' := hr ▸ h
theorem fl3 {w X : World} {b : Nat} {x0 x1 x2 : Value} (h : X.heap[b]? = some (.cells #[x0, x1, x2] 29 (0, 0))) (hb : Below w.heap.size w X) (hw : w.heap.size ≤ b) (a0 a1 a2 : Value) :
    (((X.setCell ⟨b, 0, none⟩ a0).setCell ⟨b, 1, none⟩ a1).setCell ⟨b, 2, none⟩ a2).heap[b]? = some (.cells #[a0, a1, a2] 29 (0, 0)) ∧ Below w.heap.size w (((X.setCell ⟨b, 0, none⟩ a0).setCell ⟨b, 1, none⟩ a1).setCell ⟨b, 2, none⟩ a2) := by
  have h0 := heap_setCell_same X b 0 _ _ a0 h
  have h1 := heap_setCell_same _ b 1 _ _ a1 h0
  exact ⟨heap_setCell_same _ b 2 _ _ a2 h1, ((hb.setCell hw _).setCell hw _).setCell hw _⟩
set_option maxRecDepth 100000 in
set_option maxHeartbeats 3200000 in
theorem checkFunc_any (D : Nat → Prop) (m : md.Mod) (VD VF : Value) (f : Nat) (w : World) (h : ModIn w D VD VF m) (ht : HT w) (hm : ck.Lim m) (hf : f < m.funcs.length) :
    Calls Tryd.prog 31 #[modV m VD VF, .int .i64 f] w fun e w' => FlawAns w w' e (ck.checkFn m f) := by
  obtain ⟨R, hR⟩ : ∃ R, ck.checkFn m f = R := ⟨_, rfl⟩
  rw [hR]
  obtain ⟨od, cd, of, cf, rfl, rfl, hd1, hd2, hf1, hf2⟩ := h.slices
  have hx := two_boxes w (modB m.mem (.slice od m.data.length cd) (.slice of m.funcs.length cf)) flZ
  have HM := Lib.hid (h.below hx.2.2)
  have HT2 := Lib.hid (ht.below hx.2.2)
  have HX := Lib.hid hx
  have HLM := Lib.hid hm
  have hlim := hm (ck.fnAt m f) (by rw [ck.fnAt_lt hf]; exact List.getElem_mem _)
  obtain ⟨b, off, oc, cc, rfl, -, hlb, -, -, -, p3, hin⟩ := FnsIn.cell HM.out.fns f hf
  obtain ⟨c, hc⟩ : ∃ c, (ck.fnAt m f).code = c := ⟨_, rfl⟩
  have hcf : (m.funcs[f]'hf).code = c := by rw [← ck.fnAt_lt hf]; exact hc
  rw [hcf] at p3 hin
  have hcc := (RowIn.lens hin).2
  have HIN := Lib.hid hin
  have HC := Lib.hid hc
  have HR : Hid (R = match ck.firstBad m f 0 c with | some k => ⟨f, k, 130⟩ | none => if (ck.heights m f).isSome = true then ck.fine else ⟨f, -1, 130⟩) := Lib.hid (by rw [← hR, ← hc]; rfl)
  have hn400 : c.length ≤ 400 := by rw [← hc]; omega
  obtain ⟨FB, hFB⟩ : ∃ FB, ck.firstBad m f 0 c = FB := ⟨_, rfl⟩
  have HFB := Lib.hid hFB
  rw [hFB] at HR
  obtain ⟨W2, hW2⟩ : ∃ W2, (w.alloc (modB m.mem (.slice od m.data.length cd) (.slice (some ⟨b, off, none⟩) m.funcs.length cf))).alloc flZ = W2 := ⟨_, rfl⟩
  rw [hW2] at HM HT2 HX hlb p3 HIN
  have HW2 := Lib.hid hW2
  clear hW2 hR h ht hm hx hd1 hd2 hin hc hcf hFB hlim
  have k2 : W2.cell? ⟨w.heap.size, 2, none⟩ = some (.slice (some ⟨b, off, none⟩) m.funcs.length cf) := (cell_of_heap HX.out.1).trans rfl
  have hl0 := heap_lt HX.out.1
  go_enter Tryd.func31, Tryd.ntmps31
  go_upto_region 1 with fail
  rw [HW2.out]
  clear HW2
  go_upto_region 2 with fail
  clear k2 hl0 p3 hlb
  have HBB := Lib.hid HX.out.2.2
  obtain ⟨p, hp⟩ : ∃ p, w.heap.size = p := ⟨_, rfl⟩
  rw [hp] at HX ⊢
  have HP := Lib.hid hp
  clear hp
  generalize hnc : c.length = nc at *
  have HNC := Lib.hid hnc
  clear hnc
  go_loopg [16] nc (fun gg s16 wr => ∃ j : Nat, s16 = .int .i64 j ∧ j ≤ nc ∧ nc - j ≤ gg ∧ Hid (ck.firstBad m f j (c.drop j) = FB ∧ wr.heap[p + 1]? = some flZ ∧ Below W2.heap.size W2 wr))
  case atStart => exact ⟨0, rfl, Nat.zero_le _, by omega, Lib.hid ⟨HFB.out, HX.out.2.1, Below.refl _ _⟩⟩
  case round =>
    have HFB0 := HFB
    clear HFB
    obtain ⟨j, rfl, hj, hgg, HA⟩ := hrel
    have bx := (HA.out.2.2.block _ (heap_lt HX.out.1)).trans HX.out.1
    have x0 : wr.cell? ⟨p, 0, none⟩ = some (.int .i64 m.mem) := (cell_of_heap bx).trans rfl
    have x1 : wr.cell? ⟨p, 1, none⟩ = some (.slice od m.data.length cd) := (cell_of_heap bx).trans rfl
    have x2 : wr.cell? ⟨p, 2, none⟩ = some (.slice (some ⟨b, off, none⟩) m.funcs.length cf) := (cell_of_heap bx).trans rfl
    have hlx := heap_lt bx
    by_cases hlt : j < nc
    case neg =>
      obtain rfl : j = nc := by omega
      have hji : ¬ (j : Int) < (j : Int) := by omega
      have hfb : FB = none := by
        have := HA.out.1
        rw [List.drop_eq_nil_of_le (by rw [HNC.out]; exact Nat.le_refl _)] at this
        exact this.symm
      subst hfb
      have HPT : Hid (ck.Pt m f) := Lib.hid ⟨HLM.out.pt, hf, fun i hi => by rw [HC.out] at hi; exact ck.firstBad_none c 0 HFB0.out i hi⟩
      have HHG := Lib.hid (heights_any D m _ _ f j wr (HM.out.below HA.out.2.2) (HT2.out.below HA.out.2.2) HLM.out HPT.out (by rw [HC.out, HNC.out]))
      have HR2 : Hid (R = if (ck.heights m f).isSome = true then ck.fine else ⟨f, -1, 130⟩) := HR
      have HA2 := Lib.hid (And.intro HA.out.2.1 HA.out.2.2)
      clear HR HA
      generalize ck.heights m f = HG at *
      cases HG with
      | none =>
        go_wp2_with fail
        refine HHG.out.mono ?_
        rintro e w3 ⟨rfl, hb3⟩
        have hz3 := (hb3.block _ (heap_lt HA2.out.1)).trans HA2.out.1
        have hbz := HBB.out.trans ((HA2.out.2.trans (hb3.mono HA2.out.2.size)).mono HBB.out.size)
        have HF := Lib.hid (fl3 hz3 hbz (by rw [HP.out]; omega) (.int .i64 (f : Nat)) (.int .i64 (-1)) (.int .i64 130))
        have d0 : w3.cell? ⟨p + 1, 0, none⟩ = some (.int .i64 0) := (cell_of_heap hz3).trans rfl
        have d1 : w3.cell? ⟨p + 1, 1, none⟩ = some (.int .i64 0) := (cell_of_heap hz3).trans rfl
        have d2 : w3.cell? ⟨p + 1, 2, none⟩ = some (.int .i64 0) := (cell_of_heap hz3).trans rfl
        have e0 := thaw (k := 0) hz3
        have e1 := thaw (k := 1) hz3
        have e2 := thaw (k := 2) hz3
        have hlz := heap_lt hz3
        clear hz3 hbz hb3 HHG bx x0 x1 x2 hlx HA2
        go_wp2_with fail
        refine bodyPost_ret (results_cell_row rfl _ _ (p + 1) 29 _ (0, 0) _ rfl HF.out.1 Tryd.underlying29 rfl (by kernel_rfl)) rfl ?_
        exact FlawAns.eq (r := ⟨f, -1, 130⟩) ⟨rfl, HF.out.2⟩ HR2.out.symm
      | some hs =>
        go_wp2_with fail
        refine HHG.out.mono ?_
        rintro e w3 ⟨⟨-, g, rfl, -, -⟩, hb3⟩
        have hz3 := (hb3.block _ (heap_lt HA2.out.1)).trans HA2.out.1
        have hbz := HBB.out.trans ((HA2.out.2.trans (hb3.mono HA2.out.2.size)).mono HBB.out.size)
        have HF := Lib.hid (fl3 hz3 hbz (by rw [HP.out]; omega) (.int .i64 0) (.int .i64 0) (.int .i64 0))
        have d0 : w3.cell? ⟨p + 1, 0, none⟩ = some (.int .i64 0) := (cell_of_heap hz3).trans rfl
        have d1 : w3.cell? ⟨p + 1, 1, none⟩ = some (.int .i64 0) := (cell_of_heap hz3).trans rfl
        have d2 : w3.cell? ⟨p + 1, 2, none⟩ = some (.int .i64 0) := (cell_of_heap hz3).trans rfl
        have e0 := thaw (k := 0) hz3
        have e1 := thaw (k := 1) hz3
        have e2 := thaw (k := 2) hz3
        have hlz := heap_lt hz3
        clear hz3 hbz hb3 HHG bx x0 x1 x2 hlx HA2
        go_wp2_with fail
        refine bodyPost_ret (results_cell_row rfl _ _ (p + 1) 29 _ (0, 0) _ rfl HF.out.1 Tryd.underlying29 rfl (by kernel_rfl)) rfl ?_
        exact FlawAns.eq (r := ck.fine) ⟨rfl, HF.out.2⟩ HR2.out.symm
    case pos =>
      have hji : (j : Int) < (nc : Int) := by omega
      have hjc : j < c.length := by rw [HNC.out]; exact hlt
      have hfb := HA.out.1
      rw [List.drop_eq_getElem_cons hjc] at hfb
      obtain ⟨bc, offc, rfl, -, hlc, y0, y1⟩ := InsIn.cell (RowIn.below HIN.out HA.out.2.2) j hjc
      generalize hci : c[j] = ci at *
      obtain ⟨op, nn⟩ := ci
      have hfb2 : (if ck.points m f ⟨op, nn⟩ = true then ck.firstBad m f (j + 1) (c.drop (j + 1)) else some j) = FB := hfb
      have HFB2 := Lib.hid hfb2
      clear hfb hfb2 hci
      have hb3 := below_one wr (insB op nn)
      have HI3 := Lib.hid (heap_alloc_new wr (insB op nn))
      have H3 : Hid ((wr.alloc (insB op nn)).heap[p + 1]? = some flZ ∧ Below W2.heap.size W2 (wr.alloc (insB op nn))) := Lib.hid ⟨(hb3.block _ (heap_lt HA.out.2.1)).trans HA.out.2.1, HA.out.2.2.trans (hb3.mono HA.out.2.2.size)⟩
      clear hb3 HA
      go_upto_region 4 with fail
      clear x0 x1 x2 hlx y0 y1 hlc bx
      generalize wr.alloc (insB op nn) = w3 at *
      generalize wr.heap.size = q at *
      have bx := (H3.out.2.block _ (heap_lt HX.out.1)).trans HX.out.1
      have x0 : w3.cell? ⟨p, 0, none⟩ = some (.int .i64 m.mem) := (cell_of_heap bx).trans rfl
      have x1 : w3.cell? ⟨p, 1, none⟩ = some (.slice od m.data.length cd) := (cell_of_heap bx).trans rfl
      have x2 : w3.cell? ⟨p, 2, none⟩ = some (.slice (some ⟨b, off, none⟩) m.funcs.length cf) := (cell_of_heap bx).trans rfl
      have hlx := heap_lt bx
      have i0 : w3.cell? ⟨q, 0, none⟩ = some (.int .i64 op) := (cell_of_heap HI3.out).trans rfl
      have i1 : w3.cell? ⟨q, 1, none⟩ = some (.int .i64 nn) := (cell_of_heap HI3.out).trans rfl
      have hli := heap_lt HI3.out
      have HPS := Lib.hid (points_any D m _ _ f op nn w3 (HM.out.below H3.out.2) HLM.out hf)
      clear bx
      generalize ck.points m f ⟨op, nn⟩ = PB at *
      go_wp2_with fail
      refine HPS.out.mono ?_
      rintro e w4 ⟨rfl, hb4⟩
      have H4 : Hid (w4.heap[p + 1]? = some flZ ∧ Below W2.heap.size W2 w4) := Lib.hid ⟨(hb4.block _ (heap_lt H3.out.1)).trans H3.out.1, H3.out.2.trans (hb4.mono H3.out.2.size)⟩
      clear hb4 HPS H3 HI3 x0 x1 x2 hlx i0 i1 hli
      cases PB with
      | true =>
        have HFB3 : Hid (ck.firstBad m f (j + 1) (c.drop (j + 1)) = FB) := Lib.hid (by have := HFB2.out; rw [if_pos rfl] at this; exact this)
        clear HFB2
        go_wp2_with fail
        go_roundg (nc - (j + 1))
        case measure => omega
        case rel => exact ⟨j + 1, by go_num, by omega, Nat.le_refl _, Lib.hid ⟨HFB3.out, H4.out⟩⟩
      | false =>
        have HRR : Hid (R = ⟨f, j, 130⟩) := Lib.hid (by
          have : FB = some j := HFB2.out.symm
          rw [HR.out, this])
        clear HFB2 HR
        have hbz := HBB.out.trans (H4.out.2.mono HBB.out.size)
        have HF := Lib.hid (fl3 H4.out.1 hbz (by rw [HP.out]; omega) (.int .i64 (f : Nat)) (.int .i64 (j : Nat)) (.int .i64 130))
        have d0 : w4.cell? ⟨p + 1, 0, none⟩ = some (.int .i64 0) := (cell_of_heap H4.out.1).trans rfl
        have d1 : w4.cell? ⟨p + 1, 1, none⟩ = some (.int .i64 0) := (cell_of_heap H4.out.1).trans rfl
        have d2 : w4.cell? ⟨p + 1, 2, none⟩ = some (.int .i64 0) := (cell_of_heap H4.out.1).trans rfl
        have e0 := thaw (k := 0) H4.out.1
        have e1 := thaw (k := 1) H4.out.1
        have e2 := thaw (k := 2) H4.out.1
        have hlz := heap_lt H4.out.1
        clear hbz H4
        go_wp2_with fail
        refine bodyPost_ret (results_cell_row rfl _ _ (p + 1) 29 _ (0, 0) _ rfl HF.out.1 Tryd.underlying29 rfl (by kernel_rfl)) rfl ?_
        exact FlawAns.eq (r := ⟨f, j, 130⟩) ⟨rfl, HF.out.2⟩ HRR.out.symm
end Go.Proofs.YtoknolljfeaapaaDoor
