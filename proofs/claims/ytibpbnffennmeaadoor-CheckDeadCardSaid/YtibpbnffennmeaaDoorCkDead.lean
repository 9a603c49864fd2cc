/- CheckDead: the walk. -/
import Derived.Test.YtibpbnffennmeaaDoorCkSound
import Derived.Test.YtibpbnffennmeaaDoorCkDeadA
namespace Go.Proofs.YtibpbnffennmeaaDoor
open Go.RowKit
/-- a row of instructions that is one's own, from B on; all ahead of B stays -/
structure DR (B : Nat) (W0 W : World) (V : Value) (l : List md.Ins) : Prop where
  own : W.ownsRow B 46 2 V l.length (codeC l)
  bel : Below B W0 W
theorem DR.next {B : Nat} {W0 W W' : World} {V : Value} {l : List md.Ins} (h : DR B W0 W V l) (hB : B ≤ W.heap.size) (hb : Below W.heap.size W W') : DR B W0 W' V l := ⟨row_below h.own hb, h.bel.trans (hb.mono hB)⟩
theorem DR.push {B : Nat} {W0 W W' : World} {V V' : Value} {l l' : List md.Ins} (h : DR B W0 W V l) (hB : B ≤ W.heap.size) (hr : W'.ownsRow B 46 2 V' l'.length (codeC l')) (hg : W.grownBy W' V.ownBlock) : DR B W0 W' V' l' :=
  ⟨hr, h.bel.trans ((Below.refl B W).grown hg hB (fun k hk => (h.own.lt k hk).1))⟩
theorem DR.set {B : Nat} {W0 W : World} {V : Value} {l : List md.Ins} (h : DR B W0 W V l) {q i : Nat} (u : Value) (hq : B ≤ q) (hlt : ∀ g, V.ownBlock = some g → g ≠ q) : DR B W0 (W.setCell ⟨q, i, none⟩ u) V l :=
  ⟨own_keep h.own (fun g _ _ _ hg _ => Below.heap_setCell W _ u g (hlt g hg)), h.bel.setCell (p := ⟨q, i, none⟩) hq u⟩
set_option maxRecDepth 100000 in
set_option maxHeartbeats 6400000 in
theorem dead_any (m : md.Mod) (VD VF VM : Value) (more : List md.Ins) (which : Int) (w : World) (ht : HT w) (h : ModIn w (fun k => k < w.heap.size) VD VF m) (hi : md.fnsI m.funcs) (hm : InsIn w (fun k => k < w.heap.size) VM more) (hmi : md.codeI more) (hml : more.length ≤ 140737488355328) :
    Calls Tryd.prog 6 #[modV m VD VF, VM, .int .i64 which] w fun e w' => e = .returned (.bool true) ∧ Below w.heap.size w w' := by
  obtain ⟨od, cd, of, cf, rfl, rfl, hd1, hd2, hf1, hf2⟩ := h.slices
  have hb1 := below_one w (modB m.mem (.slice od m.data.length cd) (.slice of m.funcs.length cf))
  have HM1 := Lib.hid (show MB w (w.alloc (modB m.mem (.slice od m.data.length cd) (.slice of m.funcs.length cf))) w.heap.size m _ _ from ⟨heap_alloc_new w _, h.below hb1, hb1⟩)
  have HTT := Lib.hid (fun (W : World) (hb : Below w.heap.size w W) => ht.below hb)
  have HCK := Lib.hid (fun (W : World) (hb : MB w W w.heap.size m (.slice od m.data.length cd) (.slice of m.funcs.length cf)) => check_any _ m _ _ W hb.parts (HTT.out W hb.bel) (fun k hk => Nat.lt_of_lt_of_le hk hb.bel.size) hi)
  have HHS := Lib.hid (fun (f : Int) (W : World) (hb : MB w W w.heap.size m (.slice od m.data.length cd) (.slice of m.funcs.length cf)) => heightsOf_any _ m _ _ f W hb.parts (HTT.out W hb.bel) (fun k hk => Nat.lt_of_lt_of_le hk hb.bel.size) hi)
  have HMO := Lib.hid (fun (W : World) (hb : Below w.heap.size w W) => show InsIn W (fun k => k < w.heap.size) VM more from RowIn.below hm hb)
  have HEN := Lib.hid (fun (m' : md.Mod) (VD VF : Value) (W : World) (hb : ModIn W (fun k => k < W.heap.size) VD VF m') (hi' : md.fnsI m'.funcs) => encode_any _ m' VD VF W hb (fun k hk => hk) hi')
  have HII := Lib.hid (And.intro hi hmi)
  clear h hb1 hd1 hd2 ht hi hm hmi
  obtain ⟨mo, mc, rfl⟩ : ∃ mo mc, VM = .slice mo more.length mc := by
    obtain ⟨o, c, e, -⟩ := HMO.out w (Below.refl _ _)
    exact ⟨o, c, e⟩
  go_enter Tryd.func6, Tryd.ntmps6
  go_upto_region 1 with fail
  generalize w.alloc (modB m.mem (.slice od m.data.length cd) (.slice of m.funcs.length cf)) = W1 at *
  have HAL := Lib.hid (alive13_any W1 (HTT.out W1 HM1.out.bel))
  go_wp2_with fail
  refine HAL.out.mono ?_
  rintro e w2 ⟨rfl, hb2⟩
  have HM2 := Lib.hid (HM1.out.next hb2)
  clear hb2 HAL HM1
  have z0 : w2.cell? ⟨w.heap.size, 0, none⟩ = some (.int .i64 m.mem) := (cell_of_heap HM2.out.box).trans rfl
  have z1 : w2.cell? ⟨w.heap.size, 1, none⟩ = some (.slice od m.data.length cd) := (cell_of_heap HM2.out.box).trans rfl
  have z2 : w2.cell? ⟨w.heap.size, 2, none⟩ = some (.slice of m.funcs.length cf) := (cell_of_heap HM2.out.box).trans rfl
  have hlz := heap_lt HM2.out.box
  have HC2 := Lib.hid (HCK.out w2 HM2.out)
  have hcs := ck.check_cases m
  have HFI := Lib.hid (fun (hc : ck.check m = ck.fine) => And.intro (ck.fine_pt hc) (ck.check_fine.1 hc).1)
  have HHO : Hid (ck.check m = ck.fine → ∀ j : Nat, j < m.funcs.length → ck.heightsOf m (j : Int) = (ck.heights m j).getD []) := Lib.hid (fun hc j hj => by
    unfold ck.heightsOf
    rw [if_pos ⟨hc, ck.below_iff.2 ⟨by omega, by omega⟩⟩, Int.toNat_natCast])
  obtain ⟨CK, hck⟩ : ∃ CK, ck.check m = CK := ⟨_, rfl⟩
  rw [hck] at HC2 hcs HFI HHO
  have HCKE := Lib.hid hck
  clear hck HCK
  have HCS := Lib.hid hcs
  clear hcs
  go_wp2_with fail
  refine HC2.out.mono ?_
  rintro e w3 ⟨rfl, hb3⟩
  have HM3 := Lib.hid (HM2.out.next hb3)
  clear hb3 HC2 HM2 z0 z1 z2 hlz
  rcases HCS.out with rfl | ⟨a, b, rfl⟩ | ⟨a, b, rfl⟩
  case inr.inl =>
    dsimp only
    clear HCS HFI HHO HHS
    go_wp2_with fail
    go_ret
    exact ⟨rfl, HM3.out.bel⟩
  case inr.inr =>
    dsimp only
    clear HCS HFI HHO HHS
    go_wp2_with fail
    go_ret
    exact ⟨rfl, HM3.out.bel⟩
  case inl =>
    obtain ⟨⟨hlm, hpt⟩, herr⟩ := HFI.out rfl
    have HLM := Lib.hid hlm
    have HPT := Lib.hid hpt
    have HER := Lib.hid herr
    have HH2 := Lib.hid (HHO.out rfl)
    clear hlm hpt herr HFI HHO HCS
    unfold ck.fine
    dsimp only
    have hfs := (ck.lim_of_err HER.out).2
    have ha := i64_and1023 which
    obtain ⟨wx, hwx⟩ : ∃ wx : Nat, which % 1024 = wx := ⟨(which % 1024).toNat, by omega⟩
    rw [hwx] at ha
    have hrem : Int.tmod (wx : Int) (m.funcs.length : Int) = ((wx % m.funcs.length : Nat) : Int) := by
      rw [Int.tmod_eq_emod_of_nonneg (by omega)]; rfl
    have hlt : wx % m.funcs.length < m.funcs.length := Nat.mod_lt _ (by omega)
    generalize wx % m.funcs.length = f at *
    clear hwx
    have HDF := Lib.hid (fun (x : List md.Ins) (hx : ∀ i ∈ x, ck.calm i) (he : md.err (ck.dead m f x) = 0) => ck.dead_fine HCKE.out hlt hx he)
    obtain ⟨hpt, hs, hhs⟩ := HPT.out f hlt
    have hlen := HLM.out (ck.fnAt m f) (by rw [ck.fnAt_lt hlt]; exact List.getElem_mem _)
    have hfit := ck.heights_fit hpt (by omega) hhs
    have hho := HH2.out f hlt
    rw [hhs] at hho
    replace hho : ck.heightsOf m (f : Int) = hs := hho
    have HHJ := Lib.hid (HHS.out (f : Int))
    rw [hho] at HHJ
    have hl1 := hfit.len
    have HHS0 := Lib.hid hhs
    clear hpt hhs hfit hho
    obtain ⟨b, off, oc, cc, rfl, -, hlb, p0, p1, p2, p3, hin⟩ := FnsIn.cell HM3.out.parts.fns f hlt
    rw [← ck.fnAt_lt hlt] at p0 p1 p2 p3 hin
    have HFF := Lib.hid (ck.fnAt_lt hlt)
    obtain ⟨c, hc⟩ : ∃ c, (ck.fnAt m f).code = c := ⟨_, rfl⟩
    rw [hc] at p3 hin hlen hl1
    have HCC := Lib.hid hc
    clear hc
    have hcc := (RowIn.lens hin).2
    obtain ⟨nc, hnc⟩ : ∃ nc, c.length = nc := ⟨_, rfl⟩
    have HNC := Lib.hid hnc
    rw [hnc] at p3 hcc hlen hl1
    have HIN := Lib.hid (show InsIn w3 (fun k => k < w.heap.size) (.slice oc c.length cc) c from hin)
    have hnc1 : 1 ≤ nc ∧ nc ≤ 400 := by omega
    have HL1 := Lib.hid hl1
    clear hin hl1 hnc hlen
    have z0 : w3.cell? ⟨w.heap.size, 0, none⟩ = some (.int .i64 m.mem) := (cell_of_heap HM3.out.box).trans rfl
    have z1 : w3.cell? ⟨w.heap.size, 1, none⟩ = some (.slice od m.data.length cd) := (cell_of_heap HM3.out.box).trans rfl
    have z2 : w3.cell? ⟨w.heap.size, 2, none⟩ = some (.slice (some ⟨b, off, none⟩) m.funcs.length cf) := (cell_of_heap HM3.out.box).trans rfl
    have hlz := heap_lt HM3.out.box
    have HHW := Lib.hid (HHJ.out w3 HM3.out)
    by_cases hbig : 300 < (nc : Int) + (more.length : Int)
    case pos =>
      go_wp2_with fail
      go_ret
      exact ⟨rfl, HM3.out.bel⟩
    case neg =>
      go_wp2_with fail
      refine HHW.out.mono ?_
      rintro e w4 ⟨V, rfl, hr4, hb4⟩
      obtain ⟨ao, ac, rfl⟩ : ∃ ao ac, V = .slice ao nc ac := by
        obtain ⟨ao, ac, e⟩ := own_slice hr4
        exact ⟨ao, ac, by rw [e, HL1.out]⟩
      have HNS4 := Lib.hid (show NsIn w4 (fun k => k < w4.heap.size) (.slice ao nc ac) hs from RowIn.of_own hr4 (by simp [inC]) _ (fun g hg => (hr4.lt g hg).2))
      have HM4 := Lib.hid (HM3.out.next hb4)
      have HS4 : Hid (w.heap.size + 1 ≤ w4.heap.size) := Lib.hid (heap_lt HM4.out.box)
      clear hr4 hb4 HHW HHJ z0 z1 z2 hlz p0 p1 p2 p3 hlb hcc HIN HM3
      have z2 : w4.cell? ⟨w.heap.size, 2, none⟩ = some (.slice (some ⟨b, off, none⟩) m.funcs.length cf) := (cell_of_heap HM4.out.box).trans rfl
      have hlz := heap_lt HM4.out.box
      obtain ⟨cs, hrc, hcs⟩ := HM4.out.parts.fns
      have hb5 := below_one w4 (.cells #[] 42)
      have HR5 := Lib.hid (RowIn.below hrc hb5)
      have HO5 := Lib.hid (show (w4.alloc (.cells #[] 42)).ownsRow w4.heap.size 42 4 (.slice (some ⟨w4.heap.size, 0, none⟩) 0 0) 0 [] from World.ownsRow_lit w4 #[] 0 (Nat.le_refl _) (by unfold maxLen; omega) rfl)
      have HC5 := Lib.hid hcs
      have HB5 := Lib.hid hb5
      clear hrc hcs hb5
      go_wp2_with (at_builtin; go_loud (refine wpList_rows 23 42 4 48 Tryd.underlying23 infoFnC rfl (by decide) rfl _ _ rfl w4.heap.size (.slice (some ⟨w4.heap.size, 0, none⟩) 0 0) 0 [] rfl HO5.out HB5.out.size ⟨b, off, none⟩ m.funcs.length cf (fun k => k < w.heap.size) cs rfl HR5.out (by omega) (FnsC.one _ _ HC5.out) (by omega) (by omega) m.funcs.length (by omega) cs rfl ?_))
      intro V' w5 r1 r2
      obtain ⟨g1, ac1, rfl, hB1, hg1, hn1, hx1⟩ := own_pos r1 (by omega)
      have hb5 : Below w4.heap.size w4 w5 := HB5.out.trans ((Below.refl w4.heap.size _).grown r2 HB5.out.size (fun k hk => by cases hk; exact Nat.le_refl _))
      have HM5 := Lib.hid (HM4.out.next hb5)
      have HF5 := Lib.hid (And.intro r1 (FnsC.keep (D' := fun k => k < w.heap.size) (fun k _ hk => hb5.block k hk) hb5.size (fun _ h _ => h) _ _ HC5.out))
      have HNS5 := Lib.hid (show NsIn w5 (fun k => k < w4.heap.size) (.slice ao nc ac) hs from RowIn.below HNS4.out hb5)
      have HB1 := Lib.hid hB1
      clear r1 r2 hb5 HB5 HC5 HO5 HR5 z2 hlz HM4 HNS4
      obtain ⟨VC, -, -, -, hvc, hci⟩ := FnsC.at_ m.funcs cs HF5.out.2 f hlt
      rw [← HFF.out, HCC.out] at hci
      obtain ⟨b2, off2, cc2, hb2l, rfl, hcc2⟩ : ∃ b2 off2 cc2, b2 < w5.heap.size ∧ VC = .slice (some ⟨b2, off2, none⟩) nc cc2 ∧ nc ≤ cc2 ∧ cc2 ≤ 9223372036854775807 := by
        obtain ⟨o, cap, rfl, x1, x2, x3, x4⟩ := id hci
        rw [HNC.out] at x1 x4 ⊢
        rcases x4 with x4 | ⟨b2, off2, rfl, -, x5, -⟩
        · omega
        · exact ⟨b2, off2, cap, x5, rfl, x1, x2⟩
      have q3 : w5.cell? ⟨g1, f * 4 + 3, none⟩ = some (.slice (some ⟨b2, off2, none⟩) nc cc2) := by
        obtain ⟨bb, oo, e1, -, -, hcell⟩ := RowIn.at_ (RowIn.of_own HF5.out.1 HF5.out.1.1 (fun _ => True) (fun _ _ => trivial)) f hlt
        injection e1 with e1
        injection e1 with e1 e2
        subst e1
        subst e2
        have := hcell _ _ hvc
        rw [Nat.zero_add] at this
        exact this
      have hb6 := below_one w5 (.cells #[] 46)
      have HR6 := Lib.hid (show RowIn (w5.alloc (.cells #[] 46)) (fun k => k < w.heap.size) (.slice (some ⟨b2, off2, none⟩) nc cc2) 2 nc (codeC c) from by
        have := RowIn.below hci hb6
        rw [HNC.out] at this
        exact this)
      have HO6 := Lib.hid (show (w5.alloc (.cells #[] 46)).ownsRow w5.heap.size 46 2 (.slice (some ⟨w5.heap.size, 0, none⟩) 0 0) 0 [] from World.ownsRow_lit w5 #[] 0 (Nat.le_refl _) (by unfold maxLen; omega) rfl)
      have HB6 := Lib.hid hb6
      clear hci hvc hb6
      go_wp2_with (at_builtin; go_loud (refine wpList_rows 40 46 2 16 Tryd.underlying40 infoInsC rfl (by decide) rfl _ _ rfl w5.heap.size (.slice (some ⟨w5.heap.size, 0, none⟩) 0 0) 0 [] rfl HO6.out HB6.out.size ⟨b2, off2, none⟩ nc cc2 (fun k => k < w.heap.size) (codeC c) rfl HR6.out (by omega) (codeC_one c) (by omega) (by omega) nc (by omega) (codeC c) rfl ?_))
      intro V' w6 r1 r2
      have H6 : Hid (DR w5.heap.size w5 w6 V' (c ++ (more.take 0).map ck.tame)) := Lib.hid ⟨by
        rw [List.take_zero, List.map_nil, List.append_nil, HNC.out]
        exact r1, HB6.out.trans ((Below.refl w5.heap.size _).grown r2 HB6.out.size (fun k hk => by cases hk; exact Nat.le_refl _))⟩
      obtain ⟨ao2, ac2, rfl⟩ : ∃ ao ac, V' = .slice ao (nc + 0) ac := own_slice r1
      clear r1 r2 HB6 HO6 HR6 q3 hb2l hcc2
      have hmc := (RowIn.lens (HMO.out w (Below.refl _ _))).2
      have hmr : more.length ≤ 300 := by omega
      go_upto_region 13 with fail
      go_loopg [11, 59] more.length (fun gg s11 s59 wr => ∃ (k : Nat) (ao : Option Addr) (ac : Nat), s59 = .int .i64 k ∧ s11 = .slice ao (nc + k) ac ∧ k ≤ more.length ∧ more.length - k ≤ gg ∧ Hid (DR w5.heap.size w5 wr (.slice ao (nc + k) ac) (c ++ (more.take k).map ck.tame)))
      case atStart => exact ⟨0, ao2, ac2, rfl, rfl, Nat.zero_le _, by omega, H6⟩
      case round =>
        clear H6
        obtain ⟨k, ao3, ac3, rfl, rfl, hk, hgk, HA⟩ := hrel
        by_cases hkt : k < more.length
        case pos =>
          have hki : (k : Int) < (more.length : Int) := by omega
          have hbw : Below w.heap.size w wr := HM5.out.bel.trans (HA.out.bel.mono HM5.out.bel.size)
          obtain ⟨bm, offm, rfl, -, hlm, i0, i1⟩ := InsIn.cell (HMO.out wr hbw) k hkt
          obtain ⟨ii, hii⟩ : ∃ ii, more[k] = ii := ⟨_, rfl⟩
          rw [hii] at i0 i1
          have HTK : Hid (c ++ (more.take (k + 1)).map ck.tame = (c ++ (more.take k).map ck.tame) ++ [ck.tame ii]) := Lib.hid (by
            rw [List.take_add_one, List.getElem?_eq_getElem hkt, hii, Option.toList_some, List.map_append, List.map_singleton, List.append_assoc])
          obtain ⟨op, nn⟩ := ii
          have HLC : Hid ((c ++ (more.take k).map ck.tame).length = nc + k) := Lib.hid (by
            rw [List.length_append, List.length_map, List.length_take, HNC.out]; omega)
          generalize c ++ (more.take k).map ck.tame = L at *
          have hb7 := below_one wr (insB op nn)
          have HI7 := Lib.hid (heap_alloc_new wr (insB op nn))
          have H7 := Lib.hid (HA.out.next HA.out.bel.size hb7)
          have HLT : Hid (∀ g, (Value.slice ao3 (nc + k) ac3).ownBlock = some g → g ≠ wr.heap.size) := Lib.hid (fun g hg => Nat.ne_of_lt (HA.out.own.lt g hg).2)
          have HS7 : Hid (w5.heap.size ≤ wr.heap.size) := Lib.hid HA.out.bel.size
          clear hb7 HA hbw hii
          go_upto_region 15 with fail
          generalize wr.alloc (insB op nn) = w7 at *
          generalize wr.heap.size = q7 at *
          clear hlm i0 i1
          have i0 : w7.cell? ⟨q7, 0, none⟩ = some (.int .i64 op) := (cell_of_heap HI7.out).trans rfl
          have i1 : w7.cell? ⟨q7, 1, none⟩ = some (.int .i64 nn) := (cell_of_heap HI7.out).trans rfl
          have hli := heap_lt HI7.out
          by_cases hbad : op = 24 ∨ op = 25 ∨ op = 5 ∨ op = 6 ∨ op = 26 ∨ op = 28 ∨ op < 0 ∨ 29 < op
          case pos =>
            have HTM : Hid (ck.tame ⟨op, nn⟩ = ⟨7, 0⟩) := Lib.hid (by unfold ck.tame; rw [if_pos hbad])
            rcases hbad with rfl | rfl | rfl | rfl | rfl | rfl | hx | hx
            case inr.inr.inr.inr.inr.inr.inl =>
              have e1 : (op == 24) = false := by simp; omega
              have e2 : (op == 25) = false := by simp; omega
              have e3 : (op == 5) = false := by simp; omega
              have e4 : (op == 6) = false := by simp; omega
              have e5 : (op == 26) = false := by simp; omega
              have e6 : (op == 28) = false := by simp; omega
              go_wp2_with fail
              refine (ins13_any 7 0 w7).mono ?_
              rintro e w8 ⟨rfl, hb8⟩
              have H8 := Lib.hid (H7.out.next H7.out.bel.size hb8)
              have HI8 := Lib.hid ((hb8.block _ hli).trans HI7.out)
              clear hb8 i0 i1 hli H7 HI7
              have H9 := Lib.hid ((H8.out.set (i := 0) (.int .i64 7) HS7.out HLT.out).set (i := 1) (.int .i64 0) HS7.out HLT.out)
              have HI9 := Lib.hid (show ((w8.setCell ⟨q7, 0, none⟩ (.int .i64 7)).setCell ⟨q7, 1, none⟩ (.int .i64 0)).heap[q7]? = some (insB 7 0) from heap_setCell_same _ q7 1 _ _ _ (heap_setCell_same w8 q7 0 _ _ _ HI8.out))
              have hlj := heap_lt HI8.out
              have f0 := thaw (k := 0) HI8.out
              have j0 : w8.cell? ⟨q7, 0, none⟩ = some (.int .i64 _) := (cell_of_heap HI8.out).trans rfl
              have j1 : w8.cell? ⟨q7, 1, none⟩ = some (.int .i64 nn) := (cell_of_heap HI8.out).trans rfl
              have f1 := thaw (k := 1) HI8.out
              go_upto_region 17 with fail
              generalize (w8.setCell ⟨q7, 0, none⟩ (.int .i64 7)).setCell ⟨q7, 1, none⟩ (.int .i64 0) = w9 at *
              clear hlj H8 HI8 f0 f1 j0 j1
              have f1 := thaw (k := 1) HI9.out
              have i0 : w9.cell? ⟨q7, 0, none⟩ = some (.int .i64 7) := (cell_of_heap HI9.out).trans rfl
              have i1 : w9.cell? ⟨q7, 1, none⟩ = some (.int .i64 0) := (cell_of_heap HI9.out).trans rfl
              have hli := heap_lt HI9.out
              have HH := Lib.hid (show Calls Tryd.prog 22 #[.int .i64 7] w9 fun e w' => e = .returned (.bool false) ∧ w' = w9 from by
                have := has_any 7 w9
                rw [show md.has 7 = false from by decide] at this
                exact this)
              have H10 := Lib.hid (H9.out.set (i := 1) (.int .i64 0) HS7.out HLT.out)
              have HI10 := Lib.hid (show (w9.setCell ⟨q7, 1, none⟩ (.int .i64 0)).heap[q7]? = some (insB 7 0) from heap_setCell_same _ q7 1 _ _ _ HI9.out)
              go_wp2_with fail
              refine HH.out.mono ?_
              rintro e w11 ⟨rfl, rfl⟩
              go_upto_region 19 with fail
              clear i0 i1 hli f1
              generalize w11.setCell ⟨q7, 1, none⟩ (.int .i64 0) = wz at *
              have Hwz := H10
              have HIwz := HI10
              clear H10 HI10 H9 HI9 HH
              have i0 : wz.cell? ⟨q7, 0, none⟩ = some (.int .i64 7) := (cell_of_heap HIwz.out).trans rfl
              have i1 : wz.cell? ⟨q7, 1, none⟩ = some (.int .i64 0) := (cell_of_heap HIwz.out).trans rfl
              have hli := heap_lt HIwz.out
              obtain ⟨LL, hLL⟩ : ∃ LL : List md.Ins, L ++ [⟨7, 0⟩] = LL := ⟨_, rfl⟩
              have HLL := Lib.hid hLL
              clear hLL
              go_wp2_with (at_builtin; go_loud (refine wpList_ins wz ⟨7, 0⟩ rfl _ _ rfl w5.heap.size (.slice ao3 (nc + k) ac3) L LL HLL.out rfl Hwz.out.own wz.heap.size rfl rfl (by rw [HLC.out]; omega) Hwz.out.bel.size ?_))
              intro V' wy r1 r2
              have H12 : Hid (DR w5.heap.size w5 wy V' (c ++ (more.take (k + 1)).map ck.tame)) := Lib.hid (by
                rw [HTK.out, HTM.out, HLL.out]
                exact Hwz.out.push Hwz.out.bel.size r1 r2)
              obtain ⟨ao', ac', rfl⟩ : ∃ ao ac, V' = .slice ao (nc + (k + 1)) ac := by
                obtain ⟨ao, ac, e⟩ := own_slice r1
                refine ⟨ao, ac, e.trans ?_⟩
                rw [← HLL.out, List.length_append, HLC.out, List.length_singleton, Nat.add_assoc]
              clear r1 r2
              go_wp2_with fail
              go_roundg (more.length - (k + 1))
              case measure => omega
              case rel => exact ⟨k + 1, ao', ac', by go_num, rfl, by omega, Nat.le_refl _, H12⟩
            case inr.inr.inr.inr.inr.inr.inr =>
              have e1 : (op == 24) = false := by simp; omega
              have e2 : (op == 25) = false := by simp; omega
              have e3 : (op == 5) = false := by simp; omega
              have e4 : (op == 6) = false := by simp; omega
              have e5 : (op == 26) = false := by simp; omega
              have e6 : (op == 28) = false := by simp; omega
              have e7 : ¬ op < 0 := by omega
              go_wp2_with fail
              refine (ins13_any 7 0 w7).mono ?_
              rintro e w8 ⟨rfl, hb8⟩
              have H8 := Lib.hid (H7.out.next H7.out.bel.size hb8)
              have HI8 := Lib.hid ((hb8.block _ hli).trans HI7.out)
              clear hb8 i0 i1 hli H7 HI7
              have H9 := Lib.hid ((H8.out.set (i := 0) (.int .i64 7) HS7.out HLT.out).set (i := 1) (.int .i64 0) HS7.out HLT.out)
              have HI9 := Lib.hid (show ((w8.setCell ⟨q7, 0, none⟩ (.int .i64 7)).setCell ⟨q7, 1, none⟩ (.int .i64 0)).heap[q7]? = some (insB 7 0) from heap_setCell_same _ q7 1 _ _ _ (heap_setCell_same w8 q7 0 _ _ _ HI8.out))
              have hlj := heap_lt HI8.out
              have f0 := thaw (k := 0) HI8.out
              have j0 : w8.cell? ⟨q7, 0, none⟩ = some (.int .i64 _) := (cell_of_heap HI8.out).trans rfl
              have j1 : w8.cell? ⟨q7, 1, none⟩ = some (.int .i64 nn) := (cell_of_heap HI8.out).trans rfl
              have f1 := thaw (k := 1) HI8.out
              go_upto_region 17 with fail
              generalize (w8.setCell ⟨q7, 0, none⟩ (.int .i64 7)).setCell ⟨q7, 1, none⟩ (.int .i64 0) = w9 at *
              clear hlj H8 HI8 f0 f1 j0 j1
              have f1 := thaw (k := 1) HI9.out
              have i0 : w9.cell? ⟨q7, 0, none⟩ = some (.int .i64 7) := (cell_of_heap HI9.out).trans rfl
              have i1 : w9.cell? ⟨q7, 1, none⟩ = some (.int .i64 0) := (cell_of_heap HI9.out).trans rfl
              have hli := heap_lt HI9.out
              have HH := Lib.hid (show Calls Tryd.prog 22 #[.int .i64 7] w9 fun e w' => e = .returned (.bool false) ∧ w' = w9 from by
                have := has_any 7 w9
                rw [show md.has 7 = false from by decide] at this
                exact this)
              have H10 := Lib.hid (H9.out.set (i := 1) (.int .i64 0) HS7.out HLT.out)
              have HI10 := Lib.hid (show (w9.setCell ⟨q7, 1, none⟩ (.int .i64 0)).heap[q7]? = some (insB 7 0) from heap_setCell_same _ q7 1 _ _ _ HI9.out)
              go_wp2_with fail
              refine HH.out.mono ?_
              rintro e w11 ⟨rfl, rfl⟩
              go_upto_region 19 with fail
              clear i0 i1 hli f1
              generalize w11.setCell ⟨q7, 1, none⟩ (.int .i64 0) = wz at *
              have Hwz := H10
              have HIwz := HI10
              clear H10 HI10 H9 HI9 HH
              have i0 : wz.cell? ⟨q7, 0, none⟩ = some (.int .i64 7) := (cell_of_heap HIwz.out).trans rfl
              have i1 : wz.cell? ⟨q7, 1, none⟩ = some (.int .i64 0) := (cell_of_heap HIwz.out).trans rfl
              have hli := heap_lt HIwz.out
              obtain ⟨LL, hLL⟩ : ∃ LL : List md.Ins, L ++ [⟨7, 0⟩] = LL := ⟨_, rfl⟩
              have HLL := Lib.hid hLL
              clear hLL
              go_wp2_with (at_builtin; go_loud (refine wpList_ins wz ⟨7, 0⟩ rfl _ _ rfl w5.heap.size (.slice ao3 (nc + k) ac3) L LL HLL.out rfl Hwz.out.own wz.heap.size rfl rfl (by rw [HLC.out]; omega) Hwz.out.bel.size ?_))
              intro V' wy r1 r2
              have H12 : Hid (DR w5.heap.size w5 wy V' (c ++ (more.take (k + 1)).map ck.tame)) := Lib.hid (by
                rw [HTK.out, HTM.out, HLL.out]
                exact Hwz.out.push Hwz.out.bel.size r1 r2)
              obtain ⟨ao', ac', rfl⟩ : ∃ ao ac, V' = .slice ao (nc + (k + 1)) ac := by
                obtain ⟨ao, ac, e⟩ := own_slice r1
                refine ⟨ao, ac, e.trans ?_⟩
                rw [← HLL.out, List.length_append, HLC.out, List.length_singleton, Nat.add_assoc]
              clear r1 r2
              go_wp2_with fail
              go_roundg (more.length - (k + 1))
              case measure => omega
              case rel => exact ⟨k + 1, ao', ac', by go_num, rfl, by omega, Nat.le_refl _, H12⟩
            all_goals
              go_wp2_with fail
              refine (ins13_any 7 0 w7).mono ?_
              rintro e w8 ⟨rfl, hb8⟩
              have H8 := Lib.hid (H7.out.next H7.out.bel.size hb8)
              have HI8 := Lib.hid ((hb8.block _ hli).trans HI7.out)
              clear hb8 i0 i1 hli H7 HI7
              have H9 := Lib.hid ((H8.out.set (i := 0) (.int .i64 7) HS7.out HLT.out).set (i := 1) (.int .i64 0) HS7.out HLT.out)
              have HI9 := Lib.hid (show ((w8.setCell ⟨q7, 0, none⟩ (.int .i64 7)).setCell ⟨q7, 1, none⟩ (.int .i64 0)).heap[q7]? = some (insB 7 0) from heap_setCell_same _ q7 1 _ _ _ (heap_setCell_same w8 q7 0 _ _ _ HI8.out))
              have hlj := heap_lt HI8.out
              have f0 := thaw (k := 0) HI8.out
              have j0 : w8.cell? ⟨q7, 0, none⟩ = some (.int .i64 _) := (cell_of_heap HI8.out).trans rfl
              have j1 : w8.cell? ⟨q7, 1, none⟩ = some (.int .i64 nn) := (cell_of_heap HI8.out).trans rfl
              have f1 := thaw (k := 1) HI8.out
              go_upto_region 17 with fail
              generalize (w8.setCell ⟨q7, 0, none⟩ (.int .i64 7)).setCell ⟨q7, 1, none⟩ (.int .i64 0) = w9 at *
              clear hlj H8 HI8 f0 f1 j0 j1
              have f1 := thaw (k := 1) HI9.out
              have i0 : w9.cell? ⟨q7, 0, none⟩ = some (.int .i64 7) := (cell_of_heap HI9.out).trans rfl
              have i1 : w9.cell? ⟨q7, 1, none⟩ = some (.int .i64 0) := (cell_of_heap HI9.out).trans rfl
              have hli := heap_lt HI9.out
              have HH := Lib.hid (show Calls Tryd.prog 22 #[.int .i64 7] w9 fun e w' => e = .returned (.bool false) ∧ w' = w9 from by
                have := has_any 7 w9
                rw [show md.has 7 = false from by decide] at this
                exact this)
              have H10 := Lib.hid (H9.out.set (i := 1) (.int .i64 0) HS7.out HLT.out)
              have HI10 := Lib.hid (show (w9.setCell ⟨q7, 1, none⟩ (.int .i64 0)).heap[q7]? = some (insB 7 0) from heap_setCell_same _ q7 1 _ _ _ HI9.out)
              go_wp2_with fail
              refine HH.out.mono ?_
              rintro e w11 ⟨rfl, rfl⟩
              go_upto_region 19 with fail
              clear i0 i1 hli f1
              generalize w11.setCell ⟨q7, 1, none⟩ (.int .i64 0) = wz at *
              have Hwz := H10
              have HIwz := HI10
              clear H10 HI10 H9 HI9 HH
              have i0 : wz.cell? ⟨q7, 0, none⟩ = some (.int .i64 7) := (cell_of_heap HIwz.out).trans rfl
              have i1 : wz.cell? ⟨q7, 1, none⟩ = some (.int .i64 0) := (cell_of_heap HIwz.out).trans rfl
              have hli := heap_lt HIwz.out
              obtain ⟨LL, hLL⟩ : ∃ LL : List md.Ins, L ++ [⟨7, 0⟩] = LL := ⟨_, rfl⟩
              have HLL := Lib.hid hLL
              clear hLL
              go_wp2_with (at_builtin; go_loud (refine wpList_ins wz ⟨7, 0⟩ rfl _ _ rfl w5.heap.size (.slice ao3 (nc + k) ac3) L LL HLL.out rfl Hwz.out.own wz.heap.size rfl rfl (by rw [HLC.out]; omega) Hwz.out.bel.size ?_))
              intro V' wy r1 r2
              have H12 : Hid (DR w5.heap.size w5 wy V' (c ++ (more.take (k + 1)).map ck.tame)) := Lib.hid (by
                rw [HTK.out, HTM.out, HLL.out]
                exact Hwz.out.push Hwz.out.bel.size r1 r2)
              obtain ⟨ao', ac', rfl⟩ : ∃ ao ac, V' = .slice ao (nc + (k + 1)) ac := by
                obtain ⟨ao, ac, e⟩ := own_slice r1
                refine ⟨ao, ac, e.trans ?_⟩
                rw [← HLL.out, List.length_append, HLC.out, List.length_singleton, Nat.add_assoc]
              clear r1 r2
              go_wp2_with fail
              go_roundg (more.length - (k + 1))
              case measure => omega
              case rel => exact ⟨k + 1, ao', ac', by go_num, rfl, by omega, Nat.le_refl _, H12⟩
          case neg =>
            have HTM : Hid (ck.tame ⟨op, nn⟩ = if md.has op = true then ⟨op, nn⟩ else ⟨op, 0⟩) := Lib.hid (by unfold ck.tame; rw [if_neg hbad])
            by_cases h1 : op = 1
            · subst h1
              have HTM2 : Hid (ck.tame ⟨1, nn⟩ = ⟨1, nn⟩) := Lib.hid (HTM.out.trans (if_pos (by decide)))
              clear HTM hbad
              have HTM := HTM2
              clear HTM2
              have HH := Lib.hid (show Calls Tryd.prog 22 #[.int .i64 1] w7 fun e w' => e = .returned (.bool true) ∧ w' = w7 from by
                have := has_any 1 w7
                rw [show md.has 1 = true from by decide] at this
                exact this)
              go_wp2_with fail
              refine HH.out.mono ?_
              rintro e w11 ⟨rfl, rfl⟩
              have Hw11 := H7
              clear HH H7
              obtain ⟨LL, hLL⟩ : ∃ LL : List md.Ins, L ++ [⟨1, nn⟩] = LL := ⟨_, rfl⟩
              have HLL := Lib.hid hLL
              clear hLL
              go_wp2_with (at_builtin; go_loud (refine wpList_ins w11 ⟨1, nn⟩ rfl _ _ rfl w5.heap.size (.slice ao3 (nc + k) ac3) L LL HLL.out rfl Hw11.out.own w11.heap.size rfl rfl (by rw [HLC.out]; omega) Hw11.out.bel.size ?_))
              intro V' wy r1 r2
              have H12 : Hid (DR w5.heap.size w5 wy V' (c ++ (more.take (k + 1)).map ck.tame)) := Lib.hid (by
                rw [HTK.out, HTM.out, HLL.out]
                exact Hw11.out.push Hw11.out.bel.size r1 r2)
              obtain ⟨ao', ac', rfl⟩ : ∃ ao ac, V' = .slice ao (nc + (k + 1)) ac := by
                obtain ⟨ao, ac, e⟩ := own_slice r1
                refine ⟨ao, ac, e.trans ?_⟩
                rw [← HLL.out, List.length_append, HLC.out, List.length_singleton, Nat.add_assoc]
              clear r1 r2
              go_wp2_with fail
              go_roundg (more.length - (k + 1))
              case measure => omega
              case rel => exact ⟨k + 1, ao', ac', by go_num, rfl, by omega, Nat.le_refl _, H12⟩
            · have e1 : (op == 24) = false := by simp; omega
              have e2 : (op == 25) = false := by simp; omega
              have e3 : (op == 5) = false := by simp; omega
              have e4 : (op == 6) = false := by simp; omega
              have e5 : (op == 26) = false := by simp; omega
              have e6 : (op == 28) = false := by simp; omega
              have e7 : ¬ op < 0 := by omega
              have e8 : ¬ 29 < op := by omega
              have hno : md.has op = false := decide_eq_false (by omega)
              have HTM2 : Hid (ck.tame ⟨op, nn⟩ = ⟨op, 0⟩) := Lib.hid (HTM.out.trans (if_neg (by rw [hno]; decide)))
              clear HTM hbad
              have HTM := HTM2
              clear HTM2 h1
              have HH := Lib.hid (show Calls Tryd.prog 22 #[.int .i64 op] w7 fun e w' => e = .returned (.bool false) ∧ w' = w7 from by
                have := has_any op w7
                rw [hno] at this
                exact this)
              clear hno
              have f1 := thaw (k := 1) HI7.out
              have H10 := Lib.hid (H7.out.set (i := 1) (.int .i64 0) HS7.out HLT.out)
              have HI10 := Lib.hid (show (w7.setCell ⟨q7, 1, none⟩ (.int .i64 0)).heap[q7]? = some (insB op 0) from heap_setCell_same _ q7 1 _ _ _ HI7.out)
              go_wp2_with fail
              refine HH.out.mono ?_
              rintro e w11 ⟨rfl, rfl⟩
              go_upto_region 19 with fail
              clear i0 i1 hli f1
              generalize w11.setCell ⟨q7, 1, none⟩ (.int .i64 0) = wz at *
              have Hwz := H10
              have HIwz := HI10
              clear H10 HI10 HI7 H7 HH
              have i0 : wz.cell? ⟨q7, 0, none⟩ = some (.int .i64 op) := (cell_of_heap HIwz.out).trans rfl
              have i1 : wz.cell? ⟨q7, 1, none⟩ = some (.int .i64 0) := (cell_of_heap HIwz.out).trans rfl
              have hli := heap_lt HIwz.out
              obtain ⟨LL, hLL⟩ : ∃ LL : List md.Ins, L ++ [⟨op, 0⟩] = LL := ⟨_, rfl⟩
              have HLL := Lib.hid hLL
              clear hLL
              go_wp2_with (at_builtin; go_loud (refine wpList_ins wz ⟨op, 0⟩ rfl _ _ rfl w5.heap.size (.slice ao3 (nc + k) ac3) L LL HLL.out rfl Hwz.out.own wz.heap.size rfl rfl (by rw [HLC.out]; omega) Hwz.out.bel.size ?_))
              intro V' wy r1 r2
              have H12 : Hid (DR w5.heap.size w5 wy V' (c ++ (more.take (k + 1)).map ck.tame)) := Lib.hid (by
                rw [HTK.out, HTM.out, HLL.out]
                exact Hwz.out.push Hwz.out.bel.size r1 r2)
              obtain ⟨ao', ac', rfl⟩ : ∃ ao ac, V' = .slice ao (nc + (k + 1)) ac := by
                obtain ⟨ao, ac, e⟩ := own_slice r1
                refine ⟨ao, ac, e.trans ?_⟩
                rw [← HLL.out, List.length_append, HLC.out, List.length_singleton, Nat.add_assoc]
              clear r1 r2
              go_wp2_with fail
              go_roundg (more.length - (k + 1))
              case measure => omega
              case rel => exact ⟨k + 1, ao', ac', by go_num, rfl, by omega, Nat.le_refl _, H12⟩
        case neg =>
          obtain rfl : k = more.length := by omega
          have hki : ¬ (more.length : Int) < (more.length : Int) := by omega
          rw [List.take_of_length_le (Nat.le_refl more.length)] at HA
          have hcalm : ∀ i ∈ more.map ck.tame, ck.calm i := fun i hi => by
            obtain ⟨j, -, rfl⟩ := List.mem_map.1 hi
            exact ck.tame_calm j
          have HI' := Lib.hid (ck.dead_i64 HII.out.1 hlt (ck.tame_i64 HII.out.2))
          have HDX := Lib.hid (HDF.out (more.map ck.tame) hcalm)
          have HXL : Hid ((more.map ck.tame).length = more.length) := Lib.hid (List.length_map _)
          have HEQ : Hid ((ck.fnAt m f).code ++ more.map ck.tame = c ++ more.map ck.tame) := Lib.hid (by rw [HCC.out])
          clear hcalm HDF
          generalize more.map ck.tame = X at *
          have hwr := HA.out.bel
          have hgw : g1 < wr.heap.size := Nat.lt_of_lt_of_le hg1 hwr.size
          have hgz : w.heap.size < g1 := Nat.lt_of_lt_of_le (Nat.lt_of_lt_of_le (Nat.lt_succ_self _) (show w.heap.size + 1 ≤ w4.heap.size from HS4.out)) HB1.out
          have HFR := Lib.hid (row_below HF5.out.1 hwr)
          have HCR := Lib.hid (FnsC.keep (D' := fun k => k < w.heap.size) (fun k _ hk => hwr.block k hk) hwr.size (fun _ h _ => h) _ _ HF5.out.2)
          have HMR := Lib.hid (HM5.out.next hwr)
          have HNR := Lib.hid (show NsIn wr (fun k => k < w4.heap.size) (.slice ao nc ac) hs from RowIn.below HNS5.out hwr)
          have HDM := Lib.hid (dead_mod (X := X) (l := c ++ X) (VC := .slice ao3 (nc + more.length) ac3) hlt HMR.out.parts HFR.out HCR.out (Nat.le_of_lt hgz) HA.out.own hg1 HEQ.out)
          have f3 := thaw (k := f * 4 + 3) (Classical.choose_spec (own_type HFR.out (g := g1) rfl))
          obtain ⟨VX, -, -, -, hvx, -⟩ := FnsC.at_ m.funcs cs HCR.out f hlt
          have q3 : wr.cell? ⟨g1, f * 4 + 3, none⟩ = some VX := by
            obtain ⟨bb, oo, e1, -, -, hcell⟩ := RowIn.at_ (RowIn.of_own HFR.out HFR.out.1 (fun _ => True) (fun _ _ => trivial)) f hlt
            injection e1 with e1
            injection e1 with e1 e2
            subst e1
            subst e2
            have := hcell _ _ hvx
            rw [Nat.zero_add] at this
            exact this
          clear hvx
          have HKP := Lib.hid (fun (k : Nat) (hk : k ≠ g1) => Below.heap_setCell wr ⟨g1, f * 4 + 3, none⟩ (.slice ao3 (nc + more.length) ac3) k hk)
          have HWS : Hid ((wr.setCell ⟨g1, f * 4 + 3, none⟩ (.slice ao3 (nc + more.length) ac3)).heap.size = wr.heap.size) := Lib.hid (by simp)
          have HBX := Lib.hid ((HKP.out w.heap.size (by omega)).trans HMR.out.box)
          have HBW := Lib.hid (HMR.out.bel.setCell (p := ⟨g1, f * 4 + 3, none⟩) (Nat.le_of_lt hgz) (.slice ao3 (nc + more.length) ac3))
          have HNW := Lib.hid (show NsIn (wr.setCell ⟨g1, f * 4 + 3, none⟩ (.slice ao3 (nc + more.length) ac3)) (fun k => k < w4.heap.size) (.slice ao nc ac) hs from RowIn.keep HNR.out (fun k hk _ => HKP.out k (by have := HB1.out; omega)) (by rw [HWS.out]; exact Nat.le_refl _) (fun _ h _ => h))
          have HDM2 := Lib.hid (show ModIn (wr.setCell ⟨g1, f * 4 + 3, none⟩ (.slice ao3 (nc + more.length) ac3)) (fun k => k < (wr.setCell ⟨g1, f * 4 + 3, none⟩ (.slice ao3 (nc + more.length) ac3)).heap.size) (.slice od m.data.length cd) (.slice (some ⟨g1, 0, none⟩) m.funcs.length ac1) (ck.dead m f X) from by
            rw [HWS.out]
            exact HDM.out)
          go_upto_region 22 with fail
          clear HDM HWS HKP HNR HMR HCR HFR f3 q3 HA hwr hgw hgz HF5 HNS5 HM5
          generalize wr.setCell ⟨g1, f * 4 + 3, none⟩ (.slice ao3 (nc + more.length) ac3) = ws at *
          have x0 : ws.cell? ⟨w.heap.size, 0, none⟩ = some (.int .i64 m.mem) := (cell_of_heap HBX.out).trans rfl
          have x1 : ws.cell? ⟨w.heap.size, 1, none⟩ = some (.slice od m.data.length cd) := (cell_of_heap HBX.out).trans rfl
          have hlx := heap_lt HBX.out
          have hbm := below_one ws (modB m.mem (.slice od m.data.length cd) (.slice (some ⟨g1, 0, none⟩) m.funcs.length ac1))
          have HMB := Lib.hid (show MB ws (ws.alloc (modB m.mem (.slice od m.data.length cd) (.slice (some ⟨g1, 0, none⟩) m.funcs.length ac1))) ws.heap.size (ck.dead m f X) (.slice od m.data.length cd) (.slice (some ⟨g1, 0, none⟩) m.funcs.length ac1) from ⟨heap_alloc_new ws _, HDM2.out.below hbm, hbm⟩)
          clear hbm HDM2
          go_upto_region 23 with fail
          clear x0 x1 hlx HBX
          generalize ws.alloc (modB m.mem (.slice od m.data.length cd) (.slice (some ⟨g1, 0, none⟩) m.funcs.length ac1)) = wm at *
          have HBel := Lib.hid (fun (W : World) (hb : MB ws W ws.heap.size (ck.dead m f X) (.slice od m.data.length cd) (.slice (some ⟨g1, 0, none⟩) m.funcs.length ac1)) => HBW.out.trans (hb.bel.mono HBW.out.size))
          have HENC := Lib.hid (HEN.out (ck.dead m f X) _ _ wm (HMB.out.parts.keep (fun _ _ _ => rfl) (Nat.le_refl _) (fun k hk _ => Nat.lt_of_lt_of_le hk HMB.out.bel.size)) HI'.out)
          have y0 : wm.cell? ⟨ws.heap.size, 0, none⟩ = some (.int .i64 m.mem) := (cell_of_heap HMB.out.box).trans rfl
          have y1 : wm.cell? ⟨ws.heap.size, 1, none⟩ = some (.slice od m.data.length cd) := (cell_of_heap HMB.out.box).trans rfl
          have y2 : wm.cell? ⟨ws.heap.size, 2, none⟩ = some (.slice (some ⟨g1, 0, none⟩) m.funcs.length ac1) := (cell_of_heap HMB.out.box).trans rfl
          have hly := heap_lt HMB.out.box
          obtain ⟨E, hE⟩ : ∃ E, md.err (ck.dead m f X) = E := ⟨_, rfl⟩
          rw [hE] at HDX
          have HEE := Lib.hid hE
          clear hE
          go_wp2_with fail
          refine HENC.out.mono ?_
          rintro e wn ⟨v', rfl, -, hbn⟩
          have HMN := Lib.hid (HMB.out.next hbn)
          clear hbn HENC HMB y0 y1 y2 hly
          rw [HEE.out]
          have y0 : wn.cell? ⟨ws.heap.size, 0, none⟩ = some (.int .i64 m.mem) := (cell_of_heap HMN.out.box).trans rfl
          have y1 : wn.cell? ⟨ws.heap.size, 1, none⟩ = some (.slice od m.data.length cd) := (cell_of_heap HMN.out.box).trans rfl
          have y2 : wn.cell? ⟨ws.heap.size, 2, none⟩ = some (.slice (some ⟨g1, 0, none⟩) m.funcs.length ac1) := (cell_of_heap HMN.out.box).trans rfl
          have hly := heap_lt HMN.out.box
          by_cases hz : E = 0
          case neg =>
            have hz2 : ¬ (E : Int) = 0 := by omega
            have hz3 : ((E : Int) != 0) = true := by simpa using hz2
            go_wp2_with fail
            go_ret
            exact ⟨rfl, HBel.out wn HMN.out⟩
          case pos =>
            subst hz
            obtain ⟨hck2, hs', h1, -, h3⟩ := HDX.out rfl
            obtain rfl : hs' = hs := Option.some.inj (h1.symm.trans HHS0.out)
            have hho2 : ck.heightsOf (ck.dead m f X) (f : Int) = hs' ++ List.replicate more.length (-1) := by
              unfold ck.heightsOf
              rw [if_pos ⟨hck2, ck.below_iff.2 ⟨by omega, by rw [ck.dead_len]; omega⟩⟩, Int.toNat_natCast, h3, HXL.out]
              rfl
            have HHG := Lib.hid (heightsOf_any _ (ck.dead m f X) _ _ (f : Int) wn HMN.out.parts (HTT.out wn (HBel.out wn HMN.out)) (fun k hk => Nat.lt_of_lt_of_le hk HMN.out.bel.size) HI'.out)
            rw [hho2] at HHG
            have HCF := Lib.hid (fun (W : World) (hb : MB ws W ws.heap.size (ck.dead m f X) (.slice od m.data.length cd) (.slice (some ⟨g1, 0, none⟩) m.funcs.length ac1)) => check_any _ (ck.dead m f X) _ _ W hb.parts (HTT.out W (HBel.out W hb)) (fun k hk => Nat.lt_of_lt_of_le hk hb.bel.size) HI'.out)
            rw [hck2] at HCF
            clear hck2 h1 h3 hho2 HDX HHS0
            have HNL : Hid ((hs' ++ List.replicate more.length (-1)).length = nc + more.length) := Lib.hid (by rw [List.length_append, List.length_replicate, HL1.out])
            have HNA := Lib.hid (fun (k : Nat) (hk : k < nc) => ck.hAt_app (x := List.replicate more.length (-1)) (show k < hs'.length by rw [HL1.out]; exact hk))
            have HNB := Lib.hid (fun (k : Nat) (hk : nc ≤ k) (hk2 : k < nc + more.length) => ck.hAt_more (n := more.length) (show hs'.length ≤ k by rw [HL1.out]; exact hk) (by rw [HL1.out]; exact hk2))
            generalize hs' ++ List.replicate more.length (-1) = NH at *
            go_wp2_with fail
            refine HHG.out.mono ?_
            rintro e wp ⟨V, rfl, hrp, hbp⟩
            obtain ⟨aoN, acN, rfl⟩ : ∃ ao ac, V = .slice ao (nc + more.length) ac := by
              obtain ⟨ao, ac, e⟩ := own_slice hrp
              exact ⟨ao, ac, by rw [e, HNL.out]⟩
            have hnn : NsIn wp (fun _ => True) (.slice aoN (nc + more.length) acN) NH := RowIn.of_own hrp (by simp [inC]) _ (fun _ _ => trivial)
            have HMP := Lib.hid (HMN.out.next hbp)
            have HNP := Lib.hid hnn
            clear hrp hbp hnn HHG HMN y0 y1 y2 hly
            obtain ⟨bN, offN, rfl, -, -⟩ := NsIn.cell HNP.out 0 (by rw [HNL.out]; omega)
            have hacN := (RowIn.lens HNP.out).2
            rw [HNL.out] at hacN
            have y0 : wp.cell? ⟨ws.heap.size, 0, none⟩ = some (.int .i64 m.mem) := (cell_of_heap HMP.out.box).trans rfl
            have y1 : wp.cell? ⟨ws.heap.size, 1, none⟩ = some (.slice od m.data.length cd) := (cell_of_heap HMP.out.box).trans rfl
            have y2 : wp.cell? ⟨ws.heap.size, 2, none⟩ = some (.slice (some ⟨g1, 0, none⟩) m.funcs.length ac1) := (cell_of_heap HMP.out.box).trans rfl
            have hly := heap_lt HMP.out.box
            have HCP := Lib.hid (HCF.out wp HMP.out)
            go_wp2_with fail
            refine HCP.out.mono ?_
            rintro e wq ⟨rfl, hbq⟩
            have HMQ := Lib.hid (HMP.out.next hbq)
            have HNQ := Lib.hid (RowIn.below HNP.out hbq)
            have HWQ := Lib.hid (show NsIn wq (fun _ => True) (.slice ao nc ac) hs' from RowIn.wide (RowIn.below HNW.out HMQ.out.bel) (fun _ _ _ => trivial))
            clear hbq HCP HCF HMP HNP y0 y1 y2 hly
            unfold ck.fine
            dsimp only
            obtain ⟨bo, offo, rfl, -, -⟩ := NsIn.cell HWQ.out 0 (by rw [HL1.out]; omega)
            have hac := (RowIn.lens HWQ.out).2
            rw [HL1.out] at hac
            have hpos : ((nc : Int) + (more.length : Int) != (nc : Int) + (more.length : Int)) = false := by simp
            have HQ : Hid (Below w.heap.size w wq ∧ NsIn wq (fun _ => True) (.slice (some ⟨bo, offo, none⟩) nc ac) hs' ∧ NsIn wq (fun _ => True) (.slice (some ⟨bN, offN, none⟩) (nc + more.length) acN) NH) := Lib.hid ⟨HBel.out wq HMQ.out, HWQ.out, HNQ.out⟩
            clear HMQ HNQ HWQ HBel
            go_upto_region 30 with fail
            go_loopg [148] (nc + more.length) (fun gg s148 wr => ∃ k : Nat, s148 = .int .i64 k ∧ k ≤ nc + more.length ∧ nc + more.length - k ≤ gg ∧ Hid (Below w.heap.size w wr ∧ NsIn wr (fun _ => True) (.slice (some ⟨bo, offo, none⟩) nc ac) hs' ∧ NsIn wr (fun _ => True) (.slice (some ⟨bN, offN, none⟩) (nc + more.length) acN) NH))
            case atStart => exact ⟨0, rfl, Nat.zero_le _, by omega, HQ⟩
            case round =>
              clear HQ
              obtain ⟨k, rfl, hk, hgk, HZ⟩ := hrel
              by_cases hkt : k < nc + more.length
              case neg =>
                obtain rfl : k = nc + more.length := by omega
                have hki : ¬ ((nc : Int) + (more.length : Int)) < (nc : Int) + (more.length : Int) := by omega
                go_wp2_with fail
                go_ret
                exact ⟨rfl, HZ.out.1⟩
              case pos =>
                have hki : (k : Int) < (nc : Int) + (more.length : Int) := by omega
                obtain ⟨b', off', e', hlo, c0⟩ := NsIn.cell HZ.out.2.2 k (by rw [HNL.out]; exact hkt)
                obtain ⟨rfl, rfl⟩ : bN = b' ∧ offN = off' := by
                  injection e' with e'
                  injection e' with e1 e2
                  exact ⟨e1, e2⟩
                rw [← ck.hAt_lt] at c0
                clear e'
                by_cases hkn : k < nc
                case pos =>
                  have hkn2 : (k : Int) < (nc : Int) := by omega
                  have hkn3 : ¬ (nc : Int) ≤ (k : Int) := by omega
                  rw [HNA.out k hkn] at c0
                  obtain ⟨b', off', e', hlo2, c1⟩ := NsIn.cell HZ.out.2.1 k (by rw [HL1.out]; exact hkn)
                  obtain ⟨rfl, rfl⟩ : bo = b' ∧ offo = off' := by
                    injection e' with e'
                    injection e' with e1 e2
                    exact ⟨e1, e2⟩
                  rw [← ck.hAt_lt] at c1
                  clear e'
                  generalize ck.hAt hs' k = x at *
                  have hxx : (x != x) = false := by simp
                  have hd1 : decide ((k : Int) < (nc : Int)) = true := decide_eq_true hkn2
                  have hd2 : decide ((nc : Int) ≤ (k : Int)) = false := decide_eq_false hkn3
                  go_upto_region 32 with fail
                  go_quiet (fail)
                  go_wp2_with fail
                  go_roundg (nc + more.length - (k + 1))
                  case measure => omega
                  case rel => exact ⟨k + 1, by go_num, by omega, Nat.le_refl _, Lib.hid ⟨below_dN HZ.out.1 _, RowIn.below HZ.out.2.1 (below_dN (Below.refl _ _) _), RowIn.below HZ.out.2.2 (below_dN (Below.refl _ _) _)⟩⟩
                case neg =>
                  have hkn2 : ¬ (k : Int) < (nc : Int) := by omega
                  have hkn3 : (nc : Int) ≤ (k : Int) := by omega
                  rw [HNB.out k (by omega) hkt] at c0
                  have hd1 : decide ((k : Int) < (nc : Int)) = false := decide_eq_false hkn2
                  have hd2 : decide ((nc : Int) ≤ (k : Int)) = true := decide_eq_true hkn3
                  go_upto_region 32 with fail
                  go_quiet (fail)
                  go_wp2_with fail
                  go_roundg (nc + more.length - (k + 1))
                  case measure => omega
                  case rel => exact ⟨k + 1, by go_num, by omega, Nat.le_refl _, Lib.hid ⟨below_dN HZ.out.1 _, RowIn.below HZ.out.2.1 (below_dN (Below.refl _ _) _), RowIn.below HZ.out.2.2 (below_dN (Below.refl _ _) _)⟩⟩
end Go.Proofs.YtibpbnffennmeaaDoor
