/- ModuleBack: what was decoded is spoiled, and the walk. -/
import Derived.Test.YtijnfblmjknicaaMdBegins
import Derived.Test.YtijnfblmjknicaaMdSame
namespace Go.Proofs.Ytijnfblmjknicaa
open Go.RowKit
theorem FnsO.at_ {w : World} {B : Nat} : ∀ (l : List md.Fn) (cs : List Value), FnsO w B l cs → ∀ (k : Nat) (h : k < l.length), ∃ VC, cs[k * 4 + 3]? = some VC ∧ w.ownsRow B 41 2 VC l[k].code.length (codeC l[k].code)
  | [], cs, _, k, h => by simp at h
  | f :: r, cs, h, 0, hk => by
    obtain ⟨c0, c1, rfl, ⟨VC, rfl, hc⟩, -⟩ := h
    exact ⟨VC, rfl, hc⟩
  | f :: r, cs, h, k + 1, hk => by
    obtain ⟨c0, c1, rfl, ⟨V0, rfl, _⟩, h1⟩ := h
    obtain ⟨VC, a3, hc⟩ := FnsO.at_ r c1 h1 k (by simpa using hk)
    refine ⟨VC, ?_, hc⟩
    rw [List.getElem?_append_right (by simp; omega), ← a3]
    congr 1
    simp
    omega
/-- a module of which bytes and instructions may have been spoiled -/
structure Wk (w : World) (B q nd nf : Nat) (mem : Int) (VD VF : Value) : Prop where
  bx : w.heap[q]? = some (.cells #[.int .i64 mem, VD, VF] 26 (0, 0))
  dt : ∃ o cap, VD = .slice o nd cap ∧ nd ≤ cap ∧ cap ≤ maxLen ∧ (nd = 0 ∨ ∃ g cur, o = some ⟨g, 0, none⟩ ∧ B ≤ g ∧ w.heap[g]? = some (.cells cur 5 (0, 0)) ∧ nd ≤ cur.size)
  fn : ∃ o cap, VF = .slice o nf cap ∧ nf ≤ cap ∧ cap ≤ maxLen ∧ (nf = 0 ∨ ∃ g cur, o = some ⟨g, 0, none⟩ ∧ w.heap[g]? = some (.cells cur 44 (0, 0)) ∧ ∀ i, i < nf → ∃ c nc cp cu, cur[i * 4 + 3]? = some (.slice (some ⟨c, 0, none⟩) nc cp) ∧ 1 ≤ nc ∧ nc ≤ cp ∧ cp ≤ maxLen ∧ B ≤ c ∧ w.heap[c]? = some (.cells cu 41 (0, 0)) ∧ 2 ≤ cu.size)
theorem Wk.step {w w' : World} {B q nd nf : Nat} {mem : Int} {VD VF : Value} (h : Wk w B q nd nf mem VD VF) (hk : ∀ (y : Nat) (cu : Array Value) (T : TypeId), w.heap[y]? = some (.cells cu T (0, 0)) → ∃ cu', w'.heap[y]? = some (.cells cu' T (0, 0)) ∧ cu'.size = cu.size ∧ (T ≠ 5 → T ≠ 41 → cu' = cu)) : Wk w' B q nd nf mem VD VF := by
  refine ⟨?_, ?_, ?_⟩
  · obtain ⟨cu', h1, -, h2⟩ := hk _ _ _ h.bx
    rw [h1, h2 (by decide) (by decide)]
  · obtain ⟨o, cap, e, h1, h2, h3⟩ := h.dt
    refine ⟨o, cap, e, h1, h2, h3.imp id ?_⟩
    rintro ⟨g, cur, e1, hB, hg, hs⟩
    obtain ⟨cu', g1, g2, -⟩ := hk _ _ _ hg
    exact ⟨g, cu', e1, hB, g1, by omega⟩
  · obtain ⟨o, cap, e, h1, h2, h3⟩ := h.fn
    refine ⟨o, cap, e, h1, h2, h3.imp id ?_⟩
    rintro ⟨g, cur, e1, hg, hi⟩
    obtain ⟨cu', g1, -, g3⟩ := hk _ _ _ hg
    obtain rfl := g3 (by decide) (by decide)
    refine ⟨g, cu', e1, g1, fun i hlt => ?_⟩
    obtain ⟨c, nc, cp, cu, a1, a2, a3, a4, a5, a6, a7⟩ := hi i hlt
    obtain ⟨cu2, b1, b2, -⟩ := hk _ _ _ a6
    exact ⟨c, nc, cp, cu2, a1, a2, a3, a4, a5, b1, by omega⟩
theorem Wk.below {w w' : World} {B q nd nf : Nat} {mem : Int} {VD VF : Value} (h : Wk w B q nd nf mem VD VF) (hb : Below w.heap.size w w') : Wk w' B q nd nf mem VD VF :=
  h.step fun y cu _ hy => ⟨cu, (hb.block y (heap_lt hy)).trans hy, rfl, fun _ _ => rfl⟩
theorem Wk.set {w : World} {B q nd nf : Nat} {mem : Int} {VD VF : Value} (h : Wk w B q nd nf mem VD VF) (x k : Nat) (v : Value) (c0 : Array Value) (T0 : TypeId) (hx : w.heap[x]? = some (.cells c0 T0 (0, 0))) (hT : T0 = 5 ∨ T0 = 41) : Wk (w.setCell ⟨x, k, none⟩ v) B q nd nf mem VD VF :=
  h.step fun y cu _ hy => by
    by_cases hyx : y = x
    · subst hyx
      rw [hx] at hy
      injection hy with hy
      injection hy with e1 e2
      subst e1 e2
      exact ⟨_, heap_setCell_same w y k _ _ v hx, by simp, fun h1 h2 => by rcases hT with hT | hT <;> exact absurd hT (by assumption)⟩
    · exact ⟨cu, (Below.heap_setCell w ⟨x, k, none⟩ v y hyx).trans hy, rfl, fun _ _ => rfl⟩
theorem own_view {w : World} {B : Nat} {e : TypeId} {size : Nat} {v : Value} {n : Nat} {cs : List Value} (h : w.ownsRow B e size v n cs) : ∃ o cap, v = .slice o n cap ∧ n ≤ cap ∧ cap ≤ maxLen ∧ (n = 0 ∨ ∃ g cur, o = some ⟨g, 0, none⟩ ∧ B ≤ g ∧ w.heap[g]? = some (.cells cur e (0, 0)) ∧ n * size ≤ cur.size ∧ cur.toList.take (n * size) = cs) := by
  rcases h.2 with ⟨rfl, h0⟩ | ⟨g, cap, cur, rfl, hb, hg, hc, hm, hs, ht⟩
  · exact ⟨none, 0, by rw [h0], by omega, by unfold maxLen; omega, .inl h0⟩
  · exact ⟨_, cap, rfl, hc, hm, .inr ⟨g, cur, rfl, hb, hg, by rw [hs]; exact Nat.mul_le_mul_right _ hc, ht⟩⟩
theorem ModO.weak {w : World} {B q : Nat} {VD VF : Value} {m : md.Mod} (h : ModO w B VD VF m) (hr : md.right m = true) (hq : w.heap[q]? = some (.cells #[.int .i64 m.mem, VD, VF] 26 (0, 0))) : Wk w B q m.data.length m.funcs.length m.mem VD VF := by
  refine ⟨hq, ?_, ?_⟩
  · obtain ⟨o, cap, e, h1, h2, h3⟩ := own_view h.data
    refine ⟨o, cap, e, h1, h2, h3.imp id ?_⟩
    rintro ⟨g, cur, e1, hB, hg, hs, -⟩
    exact ⟨g, cur, e1, hB, hg, by omega⟩
  · obtain ⟨cs, hrow, hf⟩ := h.fns
    obtain ⟨o, cap, e, h1, h2, h3⟩ := own_view hrow
    refine ⟨o, cap, e, h1, h2, h3.imp id ?_⟩
    rintro ⟨g, cur, e1, hB, hg, hs, ht⟩
    refine ⟨g, cur, e1, hg, fun i hi => ?_⟩
    obtain ⟨VC, a3, hc⟩ := FnsO.at_ _ _ hf i hi
    obtain ⟨oc, cp, rfl, g1, g2, g3⟩ := own_view hc
    have hrf : md.rightFn m.funcs[i] = true := by
      unfold md.right at hr
      simp only [Bool.and_eq_true] at hr
      exact List.all_eq_true.1 hr.2 _ (List.getElem_mem hi)
    unfold md.rightFn at hrf
    simp only [Bool.and_eq_true, decide_eq_true_eq] at hrf
    have hlen := hrf.1.2.1
    rcases g3 with g3 | ⟨c, cu, rfl, b1, b2, b3, -⟩
    · omega
    · refine ⟨c, _, cp, cu, ?_, hlen, g1, g2, b1, b2, by omega⟩
      rw [← ht, List.getElem?_take] at a3
      split at a3
      · rw [← Array.getElem?_toList]; exact a3
      · cases a3
set_option maxRecDepth 100000 in
set_option maxHeartbeats 3200000 in
theorem back_any (V : Value) (b : List UInt8) (w : World) (h : BsIn w (fun k => k < w.heap.size) V b) :
    Calls Try.prog 5 #[V] w fun e w' => e = .returned (.bool true) ∧ Below w.heap.size w w' := by
  obtain ⟨o, cap, rfl, hl1, hl2, -⟩ := id h
  have HAL := Lib.hid (alive_any w)
  have HIN := Lib.hid h
  have HED := Lib.hid (fun hc => md.enc_dec (b := b) hc)
  have HED0 := Lib.hid (fun hc => md.enc_dec (b := b) hc)
  have HCC := Lib.hid (md.code_cases b)
  have HPL := Lib.hid (md.place_le b)
  have HBAD : Hid (md.code b ≠ 0 → md.dec b = md.zero) := Lib.hid (fun h => by unfold md.dec; rw [if_neg h])
  have HER := Lib.hid (fun m => md.err0 (m := m))
  clear h
  go_enter Try.func5, Try.ntmps5
  go_wp2_with fail
  refine HAL.out.mono ?_
  rintro e w1 ⟨rfl, hb1⟩
  have HB1 := Lib.hid hb1
  have HD1 := Lib.hid (decode_any _ _ b w1 (RowIn.below HIN.out hb1))
  have HIN1 := Lib.hid (RowIn.below HIN.out hb1)
  clear hb1 HAL
  go_wp2_with fail
  refine HD1.out.mono ?_
  rintro e w2 ⟨VD, VF, rfl, hm2, hb2⟩
  have HM2 := Lib.hid hm2
  have HB2 := Lib.hid (HB1.out.trans (hb2.mono HB1.out.size))
  have HIN2 := Lib.hid (RowIn.below HIN1.out hb2)
  have HW12 := Lib.hid hb2.size
  have hB1 : w.heap.size ≤ w1.heap.size := HB1.out.size
  obtain ⟨od2, cd2, of2, cf2, rfl, rfl, -⟩ := hm2.toIn.slices
  clear hm2 hb2 HD1 HB1 HIN1
  obtain ⟨M, hM⟩ : ∃ M, md.dec b = M := ⟨_, rfl⟩
  rw [hM] at HM2 HED HBAD
  rw [hM]
  have HMD := Lib.hid hM
  clear hM
  obtain ⟨mem, d, fs⟩ := M
  dsimp only at HM2
  go_upto_region 4 with fail
  obtain ⟨w3, hw3⟩ : ∃ w3, (w2.alloc (.cells #[.int .i64 mem, .slice od2 d.length cd2, .slice of2 fs.length cf2] 26)).alloc (.cells #[.int .i64 (md.code b), .int .i64 (md.place b)] 29) = w3 := ⟨_, rfl⟩
  have hx3 := boxes_two w2 _ _ _ _ _ w3 hw3
  rw [hw3]
  have H3 := Lib.hid (And.intro hx3.1 (And.intro hx3.2.1 (And.intro (HM2.out.below hx3.2.2) (And.intro (RowIn.below HIN2.out hx3.2.2) (HB2.out.trans (hx3.2.2.mono HB2.out.size))))))
  have h12 : w1.heap.size ≤ w3.heap.size := by
    exact Nat.le_trans HW12.out hx3.2.2.size
  have f0 : w3.cell? ⟨w2.heap.size + 1, 0, none⟩ = some (.int .i64 (md.code b)) := (cell_of_heap H3.out.2.1).trans rfl
  have hl1 := heap_lt H3.out.2.1
  clear hx3 hw3 HM2 HIN2 HB2
  generalize w2.heap.size = q at *
  by_cases hcode : md.code b = 0
  case neg =>
    have e1 : (((md.code b : Nat) : Int) != 0) = true := by simp; omega
    have f1 : w3.cell? ⟨q + 1, 1, none⟩ = some (.int .i64 (md.place b)) := (cell_of_heap H3.out.2.1).trans rfl
    have hz := HBAD.out hcode
    injection hz with z1 z2 z3
    subst z1 z2 z3
    have k0 : w3.cell? ⟨q, 0, none⟩ = some (.int .i64 0) := (cell_of_heap H3.out.1).trans rfl
    have k2 : w3.cell? ⟨q, 2, none⟩ = some (.slice of2 0 cf2) := (cell_of_heap H3.out.1).trans rfl
    have hl2 := heap_lt H3.out.1
    have hpl := HPL.out
    have hpi : ((md.place b : Nat) : Int) ≤ (b.length : Int) := by omega
    clear HED HCC HPL HBAD HER hcode
    generalize md.place b = pl at *
    generalize md.code b = cd at *
    generalize b.length = nb at *
    go_wp2_with fail
    go_ret
    exact ⟨rfl, H3.out.2.2.2.2⟩
  case pos =>
    obtain ⟨he, hen, hfi⟩ := HED.out hcode
    have HENC := Lib.hid (And.intro he (And.intro hen hfi))
    have HRT := Lib.hid (HER.out _ he).1
    have e1 : (((md.code b : Nat) : Int) != 0) = false := by simp; omega
    have k0 : w3.cell? ⟨q, 0, none⟩ = some (.int .i64 mem) := (cell_of_heap H3.out.1).trans rfl
    have k1 : w3.cell? ⟨q, 1, none⟩ = some (.slice od2 d.length cd2) := (cell_of_heap H3.out.1).trans rfl
    have k2 : w3.cell? ⟨q, 2, none⟩ = some (.slice of2 fs.length cf2) := (cell_of_heap H3.out.1).trans rfl
    have hl2 := heap_lt H3.out.1
    have HE := Lib.hid (encode_any _ (⟨mem, d, fs⟩ : md.Mod) _ _ w3 H3.out.2.2.1.toIn (fun k hk => hk.2) hfi)
    clear he hen hfi HED HCC HPL HBAD HER
    go_upto_region 6 with fail
    go_wp2_with fail
    refine HE.out.mono ?_
    rintro e w4 ⟨v4, rfl, hr4, hb4⟩
    rw [HENC.out.2.1] at hr4
    rw [HENC.out.1]
    have H4 := Lib.hid (And.intro ((H3.out.2.2.1.weak HRT.out H3.out.1).below hb4) (And.intro (RowIn.below H3.out.2.2.2.1 hb4) (H3.out.2.2.2.2.trans (hb4.mono H3.out.2.2.2.2.size))))
    have HSB := Lib.hid (sameBytes_any _ _ v4 _ b b w4 (BRow.toIn hr4) H4.out.2.1)
    rw [decide_eq_true rfl] at HSB
    obtain ⟨ao4, ac4, rfl⟩ := own_slice hr4
    clear hr4 hb4 HE H3 k0 k1 k2 hl2 f0 hl1
    go_wp2_with fail
    refine HSB.out.mono ?_
    rintro e w5 ⟨rfl, hb5⟩
    have H5 := Lib.hid (And.intro (H4.out.1.below hb5) (And.intro (RowIn.below H4.out.2.1 hb5) (H4.out.2.2.trans (hb5.mono H4.out.2.2.size))))
    clear hb5 HSB H4
    generalize d.length = nd at *
    generalize fs.length = nf at *
    have k1 : w5.cell? ⟨q, 1, none⟩ = some (.slice od2 nd cd2) := (cell_of_heap H5.out.1.bx).trans rfl
    have hl2 := heap_lt H5.out.1.bx
    go_upto_region 10 with fail
    clear k1 hl2
    go_loopg [60] nd (fun gg s60 wr => ∃ k : Nat, s60 = .int .i64 k ∧ k ≤ nd ∧ nd - k ≤ gg ∧ Hid (Wk wr w1.heap.size q nd nf mem (.slice od2 nd cd2) (.slice of2 nf cf2) ∧ BsIn wr (fun k => k < w.heap.size) (.slice o b.length cap) b ∧ Below w.heap.size w wr))
    case atStart => exact ⟨0, rfl, Nat.zero_le _, by omega, H5⟩
    case round =>
      clear H5
      obtain ⟨k, rfl, hk, hgg, HA⟩ := hrel
      have k1 : wr.cell? ⟨q, 1, none⟩ = some (.slice od2 nd cd2) := (cell_of_heap HA.out.1.bx).trans rfl
      have hl2 := heap_lt HA.out.1.bx
      by_cases hlt : k < nd
      case pos =>
        have hki : (k : Int) < (nd : Int) := by omega
        obtain ⟨o', cap', e', hc1, hc2, hc3⟩ := HA.out.1.dt
        obtain ⟨rfl, -, rfl⟩ := Value.slice.inj e'
        rcases hc3 with hc3 | ⟨g, cur, rfl, hBg, hg, hcs⟩
        · omega
        have hcell : wr.cell? ⟨g, k, none⟩ = some (cur[k]'(by omega)) := (cell_of_heap hg).trans (Array.getElem?_eq_getElem (by omega))
        have hfz := thaw (k := k) hg
        have hlg := heap_lt hg
        have hcap : cd2 ≤ 9223372036854775807 := hc2
        have HN := Lib.hid (And.intro (HA.out.1.set g k (.int .u8 7) cur _ hg (.inl rfl)) (And.intro (RowIn.keep HA.out.2.1 (fun y hy _ => Below.heap_setCell wr ⟨g, k, none⟩ (.int .u8 7) y (by show y ≠ g; omega)) (by simp) (fun _ h _ => h)) (HA.out.2.2.setCell (show w.heap.size ≤ (⟨g, k, none⟩ : Addr).block from Nat.le_trans hB1 hBg) (.int .u8 7))))
        clear e' hg HA
        go_wp2_with fail
        go_roundg (nd - (k + 1))
        case measure => omega
        case rel => exact ⟨k + 1, by go_num, by omega, Nat.le_refl _, HN⟩
      case neg =>
        obtain rfl : k = nd := by omega
        have k2 : wr.cell? ⟨q, 2, none⟩ = some (.slice of2 nf cf2) := (cell_of_heap HA.out.1.bx).trans rfl
        go_upto_region 15 with fail
        have HA6 := Lib.hid HA.out
        clear k1 k2 hl2 HA
        generalize wr = wo at *
        go_loopg [71] nf (fun gg s71 wr => ∃ i : Nat, s71 = .int .i64 i ∧ i ≤ nf ∧ nf - i ≤ gg ∧ Hid (Wk wr w1.heap.size q k nf mem (.slice od2 k cd2) (.slice of2 nf cf2) ∧ BsIn wr (fun k => k < w.heap.size) (.slice o b.length cap) b ∧ Below w.heap.size w wr))
        case atStart => exact ⟨0, rfl, Nat.zero_le _, by omega, HA6⟩
        case round =>
          clear HA6
          obtain ⟨i, rfl, hi, hgi, HA⟩ := hrel
          have k2 : wr.cell? ⟨q, 2, none⟩ = some (.slice of2 nf cf2) := (cell_of_heap HA.out.1.bx).trans rfl
          have hl2 := heap_lt HA.out.1.bx
          by_cases hilt : i < nf
          case pos =>
            have hii : (i : Int) < (nf : Int) := by omega
            obtain ⟨o', cap', e', hc1, hc2, hc3⟩ := HA.out.1.fn
            obtain ⟨rfl, -, rfl⟩ := Value.slice.inj e'
            rcases hc3 with hc3 | ⟨g, cur, rfl, hg, hat⟩
            · omega
            obtain ⟨c, nc, cp, cu, a1, a2, a3, a4, a5, a6, a7⟩ := hat i hilt
            have t3 : wr.cell? ⟨g, i * 4 + 3, none⟩ = some (.slice (some ⟨c, 0, none⟩) nc cp) := (cell_of_heap hg).trans a1
            have hcell : wr.cell? ⟨c, 0, none⟩ = some (cu[0]'(by omega)) := (cell_of_heap a6).trans (Array.getElem?_eq_getElem (by omega))
            have hfz := thaw (k := 0) a6
            have hlg := heap_lt hg
            have hlc := heap_lt a6
            have hcap : cf2 ≤ 9223372036854775807 := hc2
            have hcp : cp ≤ 9223372036854775807 := a4
            have hnc : (0 : Int) < (nc : Int) := by omega
            have HN := Lib.hid (And.intro (HA.out.1.set c 0 (.int .i64 77) cu _ a6 (.inr rfl)) (And.intro (RowIn.keep HA.out.2.1 (fun y hy _ => Below.heap_setCell wr ⟨c, 0, none⟩ (.int .i64 77) y (by show y ≠ c; omega)) (by simp) (fun _ h _ => h)) (HA.out.2.2.setCell (show w.heap.size ≤ (⟨c, 0, none⟩ : Addr).block from Nat.le_trans hB1 a5) (.int .i64 77))))
            clear e' hg a1 a6 hat HA hc2 a4
            go_wp2_with fail
            go_roundg (nf - (i + 1))
            case measure => omega
            case rel => exact ⟨i + 1, by go_num, by omega, Nat.le_refl _, HN⟩
          case neg =>
            obtain rfl : i = nf := by omega
            have HX := Lib.hid HA.out.2
            clear HA
            go_upto_region 19 with fail
            clear k2 hl2
            have HD2 := Lib.hid (decode_any _ _ b wr HX.out.1)
            have HENC0 := Lib.hid (HED0.out hcode)
            have HC0 := Lib.hid hcode
            clear HED0 HENC
            go_wp2_with fail
            refine HD2.out.mono ?_
            rintro e w6 ⟨VD6, VF6, rfl, hm6, hb6⟩
            have H6 := Lib.hid (And.intro hm6.toIn (And.intro (RowIn.below HX.out.1 hb6) (HX.out.2.trans (hb6.mono HX.out.2.size))))
            obtain ⟨od6, cd6, of6, cf6, rfl, rfl, -⟩ := hm6.toIn.slices
            rw [HC0.out]
            clear hm6 hb6 HD2 HX
            obtain ⟨M6, hM6⟩ : ∃ M6, md.dec b = M6 := ⟨_, rfl⟩
            rw [hM6] at H6 HENC0
            rw [hM6]
            clear hM6
            obtain ⟨mem6, d6, fs6⟩ := M6
            go_upto_region 20 with fail
            obtain ⟨w7, hw7⟩ : ∃ w7, (w6.alloc (.cells #[.int .i64 mem6, .slice od6 d6.length cd6, .slice of6 fs6.length cf6] 26)).alloc (.cells #[.int .i64 0, .int .i64 (md.place b)] 29) = w7 := ⟨_, rfl⟩
            have hx7 := boxes_two w6 _ _ _ _ _ w7 hw7
            rw [hw7]
            have H7 := Lib.hid (And.intro (H6.out.1.below hx7.2.2) (And.intro (RowIn.below H6.out.2.1 hx7.2.2) (And.intro (H6.out.2.2.trans (hx7.2.2.mono H6.out.2.2.size)) hx7.2.1)))
            have k0 : w7.cell? ⟨w6.heap.size, 0, none⟩ = some (.int .i64 mem6) := (cell_of_heap hx7.1).trans rfl
            have k1 : w7.cell? ⟨w6.heap.size, 1, none⟩ = some (.slice od6 d6.length cd6) := (cell_of_heap hx7.1).trans rfl
            have k2 : w7.cell? ⟨w6.heap.size, 2, none⟩ = some (.slice of6 fs6.length cf6) := (cell_of_heap hx7.1).trans rfl
            have hl2 := heap_lt hx7.1
            have hs67 := hx7.2.2.size
            clear hx7 hw7 H6
            have HE2 := Lib.hid (encode_any _ (⟨mem6, d6, fs6⟩ : md.Mod) _ _ w7 H7.out.1 (fun k hk => Nat.lt_of_lt_of_le hk.2 hs67) HENC0.out.2.2)
            generalize w6.heap.size = q6 at *
            go_wp2_with fail
            refine HE2.out.mono ?_
            rintro e w8 ⟨v8, rfl, hr8, hb8⟩
            rw [HENC0.out.2.1] at hr8
            rw [HENC0.out.1]
            have hf8 := (hb8.block _ (heap_lt H7.out.2.2.2)).trans H7.out.2.2.2
            have H8 := Lib.hid (And.intro (RowIn.below H7.out.2.1 hb8) (H7.out.2.2.1.trans (hb8.mono H7.out.2.2.1.size)))
            have HSB := Lib.hid (sameBytes_any _ _ v8 _ b b w8 (BRow.toIn hr8) H8.out.1)
            rw [decide_eq_true rfl] at HSB
            have f0 : w8.cell? ⟨q6 + 1, 0, none⟩ = some (.int .i64 0) := (cell_of_heap hf8).trans rfl
            have hl8 := heap_lt hf8
            obtain ⟨ao8, ac8, rfl⟩ := own_slice hr8
            clear hr8 hb8 hf8 HE2 H7 k0 k1 k2 hl2 hs67
            go_wp2_with fail
            refine HSB.out.mono ?_
            rintro e w9 ⟨rfl, hb9⟩
            have HZ := Lib.hid (H8.out.2.trans (hb9.mono H8.out.2.size))
            clear hb9 HSB H8
            go_wp2_with fail
            go_ret
            exact ⟨rfl, HZ.out⟩
end Go.Proofs.Ytijnfblmjknicaa
