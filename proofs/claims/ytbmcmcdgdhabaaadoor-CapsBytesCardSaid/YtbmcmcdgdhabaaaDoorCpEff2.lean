/- Effect; points, behind, next. -/
import Derived.Test.YtbmcmcdgdhabaaaDoorCpEff
namespace Go.Proofs.YtbmcmcdgdhabaaaDoor
open Go.RowKit
abbrev insB (op n : Int) : Obj := .cells #[.int .i64 op, .int .i64 n] 58
theorem two_boxes (w : World) (a b : Obj) : ((w.alloc a).alloc b).heap[w.heap.size]? = some a ∧ ((w.alloc a).alloc b).heap[w.heap.size + 1]? = some b ∧ Below w.heap.size w ((w.alloc a).alloc b) := by
  have hb1 := below_one w a
  have hb2 := below_one (w.alloc a) b
  have hn := heap_alloc_new (w.alloc a) b
  rw [World.size_alloc] at hn
  exact ⟨(hb2.block _ (by simp)).trans (heap_alloc_new w _), hn, hb1.trans (hb2.mono (by simp))⟩
theorem EffAns.eq {w w' : World} {e : Ending} {r r' : Int × Int × Bool} (h : EffAns w w' e r) (hr : r = r') : EffAns w w' e r' := hr ▸ h
set_option maxRecDepth 100000 in
set_option maxHeartbeats 1600000 in
theorem effect_any (D : Nat → Prop) (m : md.Mod) (VD VF : Value) (f op n : Int) (w : World) (h : ModIn w D VD VF m) (ht : HT w) :
    Calls Tryd.prog 19 #[modV m VD VF, .int .i64 f, .agg #[.int .i64 op, .int .i64 n]] w fun e w' => EffAns w w' e (ck.effect m f ⟨op, n⟩) := by
  obtain ⟨od, cd, of, cf, rfl, rfl, hd1, hd2, hf1, hf2⟩ := h.slices
  have hx := two_boxes w (modB m.mem (.slice od m.data.length cd) (.slice of m.funcs.length cf)) (insB op n)
  have HM := Lib.hid (h.below hx.2.2)
  have HX := Lib.hid hx
  have HTT := Lib.hid (ht.below hx.2.2)
  have HB := Lib.hid (fun w => below_any f m.funcs.length w)
  have HCA := Lib.hid (fun W hW => call_any D m (.slice od m.data.length cd) (.slice of m.funcs.length cf) n W hW)
  have HHO := Lib.hid (fun W hW => host_any n W hW)
  have HPL := Lib.hid (fun W => plain_any op W)
  have HE : Hid (ck.effect m f ⟨op, n⟩ = if ck.below f m.funcs.length = true then (if op = 26 then ck.callEff m n else if op = 27 then ((ck.fnAt m f.toNat).results, 0, true) else if op = 28 then ck.hostEff n else ck.plain op) else (0, 0, false)) := Lib.hid rfl
  obtain ⟨mem, d, fs⟩ := m
  dsimp only at HM HX HB hf1 hf2 HCA HE ⊢
  generalize ck.effect ⟨mem, d, fs⟩ f ⟨op, n⟩ = R0 at *
  clear h hd1 hd2 hx ht
  obtain ⟨W2, hW2⟩ : ∃ W2, (w.alloc (modB mem (.slice od d.length cd) (.slice of fs.length cf))).alloc (insB op n) = W2 := ⟨_, rfl⟩
  rw [hW2] at HM HX HTT
  have HW2 := Lib.hid hW2
  clear hW2
  have k0 : W2.cell? ⟨w.heap.size, 0, none⟩ = some (.int .i64 mem) := (cell_of_heap HX.out.1).trans rfl
  have k1 : W2.cell? ⟨w.heap.size, 1, none⟩ = some (.slice od d.length cd) := (cell_of_heap HX.out.1).trans rfl
  have k2 : W2.cell? ⟨w.heap.size, 2, none⟩ = some (.slice of fs.length cf) := (cell_of_heap HX.out.1).trans rfl
  have i0 : W2.cell? ⟨w.heap.size + 1, 0, none⟩ = some (.int .i64 op) := (cell_of_heap HX.out.2.1).trans rfl
  have i1 : W2.cell? ⟨w.heap.size + 1, 1, none⟩ = some (.int .i64 n) := (cell_of_heap HX.out.2.1).trans rfl
  have hl0 := heap_lt HX.out.1
  have hl1 := heap_lt HX.out.2.1
  go_enter Tryd.func19, Tryd.ntmps19
  go_upto_region 1 with fail
  rw [HW2.out]
  clear HW2
  go_wp2_with fail
  refine (HB.out _).mono ?_
  rintro e w' ⟨rfl, hw⟩
  replace hw := hw.symm
  subst hw
  cases hb : ck.below f fs.length with
  | false =>
    have HR : Hid (R0 = (0, 0, false)) := Lib.hid (by rw [HE.out, hb]; rfl)
    clear hb HE HM HCA HHO HPL
    generalize fs.length = nf at *
    generalize d.length = nd at *
    go_wp2_with fail
    go_ret3
    exact EffAns.eq ⟨rfl, HX.out.2.2⟩ HR.out.symm
  | true =>
    have hE := HE.out
    rw [hb, if_pos rfl] at hE
    obtain ⟨h0, h1⟩ := ck.below_iff.1 hb
    obtain ⟨k, rfl⟩ : ∃ k : Nat, f = (k : Int) := ⟨f.toNat, by omega⟩
    have hk : k < fs.length := by omega
    have HEE := Lib.hid hE
    clear hE HE HB
    by_cases h26 : op = 26
    · subst h26
      have HR : Hid (R0 = ck.callEff ⟨mem, d, fs⟩ n) := Lib.hid (by rw [HEE.out, if_pos rfl])
      have HC := Lib.hid (HCA.out W2 HM.out)
      clear HEE HHO HPL HCA hb h0 h1
      generalize ck.callEff ⟨mem, d, fs⟩ n = R at *
      go_wp2_with fail
      refine HC.out.mono ?_
      rintro e w3 ⟨rfl, hb3⟩
      have HB3 := Lib.hid (HX.out.2.2.trans (hb3.mono HX.out.2.2.size))
      clear hb3 HC HM k0 k1 k2 i0 i1 hl0 hl1 HX HTT
      obtain ⟨r1, r2, r3⟩ := R
      generalize fs.length = nf at *
      generalize d.length = nd at *
      go_wp2_with fail
      go_ret3
      exact EffAns.eq ⟨rfl, HB3.out⟩ HR.out.symm
    · have e26 : (op == 26) = false := by simpa using h26
      by_cases h27 : op = 27
      · subst h27
        have HR : Hid (R0 = (fs[k].results, 0, true)) := Lib.hid (by rw [HEE.out, if_neg (by decide), if_pos rfl, Int.toNat_natCast, ck.fnAt_lt hk])
        obtain ⟨b, off, oc, cc, rfl, -, hlb, -, p1, -, -, -⟩ := FnsIn.cell HM.out.fns k hk
        dsimp only at p1 hlb
        clear HEE HHO HPL HCA hb h0 h1 HM
        generalize fs[k].results = P1 at *
        generalize fs.length = nf at *
        generalize d.length = nd at *
        go_wp2_with fail
        go_ret3
        exact EffAns.eq ⟨rfl, HX.out.2.2⟩ HR.out.symm
      · have e27 : (op == 27) = false := by simpa using h27
        by_cases h28 : op = 28
        · subst h28
          have HR : Hid (R0 = ck.hostEff n) := Lib.hid (by rw [HEE.out, if_neg (by decide), if_neg (by decide), if_pos rfl])
          have HC := Lib.hid (HHO.out W2 HTT.out)
          clear HEE HHO HPL HCA hb h0 h1 HM h26 h27 e26 e27
          generalize ck.hostEff n = R at *
          generalize fs.length = nf at *
          generalize d.length = nd at *
          go_wp2_with fail
          refine HC.out.mono ?_
          rintro e w3 ⟨rfl, hb3⟩
          have HB3 := Lib.hid (HX.out.2.2.trans (hb3.mono HX.out.2.2.size))
          clear hb3 HC k0 k1 k2 i0 i1 hl0 hl1 HX HTT
          obtain ⟨r1, r2, r3⟩ := R
          go_wp2_with fail
          go_ret3
          exact EffAns.eq ⟨rfl, HB3.out⟩ HR.out.symm
        · have e28 : (op == 28) = false := by simpa using h28
          have HR : Hid (R0 = ck.plain op) := Lib.hid (by rw [HEE.out, if_neg h26, if_neg h27, if_neg h28])
          have HC := Lib.hid (HPL.out W2)
          clear HEE HHO HPL HCA hb h0 h1 HM h26 h27 h28
          generalize ck.plain op = R at *
          generalize fs.length = nf at *
          generalize d.length = nd at *
          go_wp2_with fail
          refine HC.out.mono ?_
          rintro e w3 ⟨rfl, hb3⟩
          have HB3 := Lib.hid (HX.out.2.2.trans (hb3.mono HX.out.2.2.size))
          clear hb3 HC k0 k1 k2 i0 i1 hl0 hl1 HX HTT
          obtain ⟨r1, r2, r3⟩ := R
          go_wp2_with fail
          go_ret3
          exact EffAns.eq ⟨rfl, HB3.out⟩ HR.out.symm
end Go.Proofs.YtbmcmcdgdhabaaaDoor
