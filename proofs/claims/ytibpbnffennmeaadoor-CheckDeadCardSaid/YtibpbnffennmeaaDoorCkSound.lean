/- CheckSound: the walk. -/
import Derived.Test.YtibpbnffennmeaaDoorCkEffects
import Derived.Test.YtibpbnffennmeaaDoorCkFit
namespace Go.Proofs.YtibpbnffennmeaaDoor
open Go.RowKit
/-- of a module without a flaw: each instruction's op is one -/
theorem ck.op_rng {m : md.Mod} (h : md.err m = 0) {f : Nat} (hf : f < m.funcs.length) : ∀ i ∈ (ck.fnAt m f).code, 0 ≤ i.op ∧ i.op ≤ 29 := by
  intro i hi
  unfold md.err at h
  by_cases hr : md.right m = true
  · unfold md.right at hr
    simp only [Bool.and_eq_true, decide_eq_true_eq, List.all_eq_true] at hr
    rw [ck.fnAt_lt hf] at hi
    have := hr.2 _ (List.getElem_mem hf)
    unfold md.rightFn at this
    simp only [Bool.and_eq_true, decide_eq_true_eq, List.all_eq_true] at this
    have := this.2 i hi
    unfold md.rightIns at this
    simp only [Bool.and_eq_true, decide_eq_true_eq] at this
    exact this.1
  · rw [if_neg hr] at h
    cases h
theorem ck.plain_ok0 : ∀ k : Nat, k < 30 → (k = 26 ∨ k = 27 ∨ k = 28 ∨ (ck.plain (k : Int)).2.2 = true) := by decide
theorem ck.effect_ok {m : md.Mod} {f : Nat} (hf : f < m.funcs.length) {i : md.Ins} (h0 : 0 ≤ i.op) (h1 : i.op ≤ 29) (hp : ck.points m f i = true) : (ck.effect m f i).2.2 = true := by
  obtain ⟨op, n⟩ := i
  simp only at h0 h1
  unfold ck.points at hp
  simp only at hp
  unfold ck.effect
  rw [if_pos (ck.below_iff.2 ⟨by omega, by omega⟩)]
  simp only
  by_cases h26 : op = 26
  · rw [if_pos h26]
    rw [if_neg (by omega), if_neg (by omega), if_pos h26] at hp
    unfold ck.callEff
    rw [hp]
    rfl
  rw [if_neg h26]
  by_cases h27 : op = 27
  · rw [if_pos h27]
  rw [if_neg h27]
  by_cases h28 : op = 28
  · rw [if_pos h28]
    rw [if_neg (by omega), if_neg (by omega), if_neg h26, if_pos h28] at hp
    unfold ck.hostEff
    rw [hp]
    rfl
  rw [if_neg h28]
  obtain ⟨k, rfl⟩ : ∃ k : Nat, op = (k : Int) := ⟨op.toNat, by omega⟩
  rcases ck.plain_ok0 k (by omega) with h | h | h | h
  · omega
  · omega
  · omega
  · exact h
/-- what holds of an instruction that is reached -/
theorem ck.sound_at {m : md.Mod} {f : Nat} (hp : ck.Pt m f) (he : md.err m = 0) {hs : List Int} (hf : ck.Fit m f (ck.fnAt m f).code hs) {k : Nat} (hk : k < (ck.fnAt m f).code.length) (h0 : 0 ≤ ck.hAt hs k) {op n : Int} (hi : (ck.fnAt m f).code[k] = ⟨op, n⟩) {t p : Int} {ok : Bool} (hE : ck.effect m f ⟨op, n⟩ = (t, p, ok)) :
    ok = true ∧ t ≤ ck.hAt hs k ∧ ck.hAt hs k - t + p ≤ 64 ∧ ck.hAt hs k ≤ 64 ∧ (op = 27 → ck.hAt hs k = (ck.fnAt m f).results) ∧ (op = 24 ∨ op = 25 → ∃ j : Nat, n = (j : Int) ∧ j < (ck.fnAt m f).code.length ∧ ck.hAt hs j = ck.hAt hs k - t + p) ∧ (op ≠ 24 → op ≠ 27 → op ≠ 29 → k + 1 < (ck.fnAt m f).code.length ∧ ck.hAt hs (k + 1) = ck.hAt hs k - t + p) := by
  have hmem := List.getElem_mem (l := (ck.fnAt m f).code) hk
  rw [hi] at hmem
  have hpt := hp.pts _ hmem
  have hop := ck.op_rng he hp.lt _ hmem
  obtain ⟨d1, d2⟩ := hf.done k hk h0
  have hii : ck.insAt (ck.fnAt m f).code k = ⟨op, n⟩ := by rw [ck.insAt_lt hk, hi]
  rw [hii] at d1 d2
  obtain ⟨b1, b2, b3, b4, b5⟩ := ck.behind_ok hp.fns d1
  have hok := ck.effect_ok hp.lt hop.1 hop.2 hpt
  rw [b3] at d2 b2
  rw [hE] at d2 b2 b4 b5 hok
  simp only at d2 b2 b4 b5 hok
  refine ⟨hok, b4, b2, (hf.rng k hk).2, fun h27 => ?_, fun h24 => ?_, fun g1 g2 g3 => ?_⟩
  · rw [b5 h27]
    have : (ck.effect m f ⟨op, n⟩).1 = (ck.fnAt m f).results := by
      unfold ck.effect
      rw [if_pos (ck.below_iff.2 ⟨by omega, by have := hp.lt; omega⟩)]
      simp only
      rw [if_neg (by omega), if_pos h27, Int.toNat_natCast]
    rw [hE] at this
    exact this
  · unfold ck.points at hpt
    simp only at hpt
    rw [if_neg (by omega), if_pos h24] at hpt
    obtain ⟨n0, n1⟩ := ck.below_iff.1 hpt
    have hj := d2 n.toNat (by
      unfold ck.next
      simp only
      rcases h24 with h | h
      · rw [if_pos h]; simp
      · rw [if_neg (by omega), if_pos h]; simp)
    exact ⟨n.toNat, by omega, hj.1, hj.2⟩
  · exact d2 (k + 1) (by
      unfold ck.next
      simp only
      by_cases h25 : op = 25
      · rw [if_neg g1, if_pos h25]; simp
      · rw [if_neg g1, if_neg h25, if_neg (by omega)]; simp)
set_option maxRecDepth 100000 in
set_option maxHeartbeats 6400000 in
theorem sound_any (m : md.Mod) (VD VF : Value) (w : World) (ht : HT w) (h : ModIn w (fun k => k < w.heap.size) VD VF m) (hi : md.fnsI m.funcs) :
    Calls Tryd.prog 5 #[modV m VD VF] w fun e w' => e = .returned (.bool true) ∧ Below w.heap.size w w' := by
  obtain ⟨od, cd, of, cf, rfl, rfl, hd1, hd2, hf1, hf2⟩ := h.slices
  have hb1 := below_one w (modB m.mem (.slice od m.data.length cd) (.slice of m.funcs.length cf))
  have HM1 := Lib.hid (show MB w (w.alloc (modB m.mem (.slice od m.data.length cd) (.slice of m.funcs.length cf))) w.heap.size m _ _ from ⟨heap_alloc_new w _, h.below hb1, hb1⟩)
  have HTT := Lib.hid (fun (W : World) (hb : Below w.heap.size w W) => ht.below hb)
  have HCK := Lib.hid (fun (W : World) (hb : MB w W w.heap.size m (.slice od m.data.length cd) (.slice of m.funcs.length cf)) => check_any _ m _ _ W hb.parts (HTT.out W hb.bel) (fun k hk => Nat.lt_of_lt_of_le hk hb.bel.size) hi)
  have HHS := Lib.hid (fun (f : Int) (W : World) (hb : MB w W w.heap.size m (.slice od m.data.length cd) (.slice of m.funcs.length cf)) => heightsOf_any _ m _ _ f W hb.parts (HTT.out W hb.bel) (fun k hk => Nat.lt_of_lt_of_le hk hb.bel.size) hi)
  have HEF := Lib.hid (fun (f : Nat) (op n : Int) (W : World) (hb : MB w W w.heap.size m (.slice od m.data.length cd) (.slice of m.funcs.length cf)) => effect_any _ m _ _ f op n W hb.parts (HTT.out W hb.bel))
  clear h hb1 hd1 hd2 ht hi
  go_enter Tryd.func5, Tryd.ntmps5
  go_upto_region 1 with fail
  generalize w.alloc (modB m.mem (.slice od m.data.length cd) (.slice of m.funcs.length cf)) = W1 at *
  have HAL := Lib.hid (alive13_any W1 (HTT.out W1 HM1.out.bel))
  go_wp2_with fail
  refine HAL.out.mono ?_
  rintro e w2 ⟨rfl, hb2⟩
  have HM2 := Lib.hid (HM1.out.next hb2)
  clear hb2 HAL HM1
  have z0 : w2.cell? ⟨w.heap.size, 0, none⟩ = some (.int .i64 m.mem) := (cell_of_heap HM2.out.box).trans rfl
  have z1 : w2.cell? ⟨w.heap.size, 1, none⟩ = some (.slice od m.data.length cd) := (cell_of_heap HM2.out.box).trans rfl
  have z2 : w2.cell? ⟨w.heap.size, 2, none⟩ = some (.slice of m.funcs.length cf) := (cell_of_heap HM2.out.box).trans rfl
  have hlz := heap_lt HM2.out.box
  have HC2 := Lib.hid (HCK.out w2 HM2.out)
  have hcs := ck.check_cases m
  have HFI := Lib.hid (fun (hc : ck.check m = ck.fine) => And.intro (ck.fine_pt hc) (ck.check_fine.1 hc).1)
  have HHO : Hid (ck.check m = ck.fine → ∀ j : Nat, j < m.funcs.length → ck.heightsOf m (j : Int) = (ck.heights m j).getD []) := Lib.hid (fun hc j hj => by
    unfold ck.heightsOf
    rw [if_pos ⟨hc, ck.below_iff.2 ⟨by omega, by omega⟩⟩, Int.toNat_natCast])
  obtain ⟨CK, hck⟩ : ∃ CK, ck.check m = CK := ⟨_, rfl⟩
  rw [hck] at HC2 hcs HFI HHO
  clear hck HCK
  have HCS := Lib.hid hcs
  clear hcs
  go_wp2_with fail
  refine HC2.out.mono ?_
  rintro e w3 ⟨rfl, hb3⟩
  have HM3 := Lib.hid (HM2.out.next hb3)
  clear hb3 HC2 HM2 z0 z1 z2 hlz
  rcases HCS.out with rfl | ⟨a, b, rfl⟩ | ⟨a, b, rfl⟩
  case inr.inl =>
    dsimp only
    clear HCS HFI HHO HHS HEF
    go_wp2_with fail
    go_ret
    exact ⟨rfl, HM3.out.bel⟩
  case inr.inr =>
    dsimp only
    clear HCS HFI HHO HHS HEF
    go_wp2_with fail
    go_ret
    exact ⟨rfl, HM3.out.bel⟩
  case inl =>
    obtain ⟨⟨hlm, hpt⟩, herr⟩ := HFI.out rfl
    have HLM := Lib.hid hlm
    have HPT := Lib.hid hpt
    have HER := Lib.hid herr
    have HH2 := Lib.hid (HHO.out rfl)
    clear hlm hpt herr HFI HHO HCS
    unfold ck.fine
    dsimp only
    have z2 : w3.cell? ⟨w.heap.size, 2, none⟩ = some (.slice of m.funcs.length cf) := (cell_of_heap HM3.out.box).trans rfl
    have hlz := heap_lt HM3.out.box
    go_upto_region 6 with fail
    clear z2 hlz
    go_loopg [21] m.funcs.length (fun gg s21 wr => ∃ j : Nat, s21 = .int .i64 j ∧ j ≤ m.funcs.length ∧ m.funcs.length - j ≤ gg ∧ Hid (MB w wr w.heap.size m (.slice od m.data.length cd) (.slice of m.funcs.length cf)))
    case atStart => exact ⟨0, rfl, Nat.zero_le _, by omega, HM3⟩
    case round =>
      clear HM3
      obtain ⟨j, rfl, hj, hgg, HA⟩ := hrel
      by_cases hlt : j < m.funcs.length
      case neg =>
        have hji : ¬ (j : Int) < (m.funcs.length : Int) := by omega
        go_wp2_with fail
        go_ret
        exact ⟨rfl, HA.out.bel⟩
      case pos =>
        have hji : (j : Int) < (m.funcs.length : Int) := by omega
        obtain ⟨hpt, hs, hhs⟩ := HPT.out j hlt
        have hlen := HLM.out (ck.fnAt m j) (by rw [ck.fnAt_lt hlt]; exact List.getElem_mem _)
        have hfit := ck.heights_fit hpt (by omega) hhs
        have hho := HH2.out j hlt
        rw [hhs] at hho
        replace hho : ck.heightsOf m (j : Int) = hs := hho
        have HHJ := Lib.hid (HHS.out (j : Int))
        rw [hho] at HHJ
        have HSA := Lib.hid (fun (k : Nat) (hk : k < (ck.fnAt m j).code.length) (h0 : 0 ≤ ck.hAt hs k) (op n : Int) (hi : (ck.fnAt m j).code[k] = ⟨op, n⟩) (t p : Int) (ok : Bool) (hE : ck.effect m j ⟨op, n⟩ = (t, p, ok)) => ck.sound_at hpt HER.out hfit hk h0 hi hE)
        have hl1 := hfit.len
        have hz1 := hfit.zero
        obtain ⟨b, off, oc, cc, rfl, -, hlb, p0, p1, p2, p3, hin⟩ := FnsIn.cell HA.out.parts.fns j hlt
        rw [← ck.fnAt_lt hlt] at p0 p1 p2 p3 hin
        clear hpt hhs hfit hho
        generalize ck.fnAt m j = F at *
        obtain ⟨P0, P1, P2, c⟩ := F
        dsimp only at p0 p1 p2 p3 hin hlen HSA hl1
        have hcc := (RowIn.lens hin).2
        obtain ⟨nc, hnc⟩ : ∃ nc, c.length = nc := ⟨_, rfl⟩
        have HNC := Lib.hid hnc
        rw [hnc] at p3 hcc hlen hl1
        have HIN := Lib.hid (show InsIn wr (fun k => k < w.heap.size) (.slice oc c.length cc) c from hin)
        have hnc1 : 1 ≤ nc ∧ nc ≤ 400 := by omega
        have HL1 := Lib.hid (And.intro hl1 hz1)
        have hb4 := below_one wr (.cells #[.int .i64 P0, .int .i64 P1, .int .i64 P2, .slice oc nc cc] 42)
        have HN4 := Lib.hid (heap_alloc_new wr (.cells #[.int .i64 P0, .int .i64 P1, .int .i64 P2, .slice oc nc cc] 42))
        have H4 := Lib.hid (And.intro (HA.out.next hb4) hb4)
        clear hb4 hlen hin hl1 hz1 hnc
        go_upto_region 8 with fail
        generalize wr.alloc (.cells #[.int .i64 P0, .int .i64 P1, .int .i64 P2, .slice oc nc cc] 42) = w4 at *
        clear p0 p1 p2 p3 hlb
        have x0 : w4.cell? ⟨w.heap.size, 0, none⟩ = some (.int .i64 m.mem) := (cell_of_heap H4.out.1.box).trans rfl
        have x1 : w4.cell? ⟨w.heap.size, 1, none⟩ = some (.slice od m.data.length cd) := (cell_of_heap H4.out.1.box).trans rfl
        have x2 : w4.cell? ⟨w.heap.size, 2, none⟩ = some (.slice (some ⟨b, off, none⟩) m.funcs.length cf) := (cell_of_heap H4.out.1.box).trans rfl
        have hlx := heap_lt H4.out.1.box
        have HHW := Lib.hid (HHJ.out w4 H4.out.1)
        go_wp2_with fail
        refine HHW.out.mono ?_
        rintro e w5 ⟨V, rfl, hr5, hb5⟩
        obtain ⟨ao, ac, rfl⟩ : ∃ ao ac, V = .slice ao nc ac := by
          obtain ⟨ao, ac, e⟩ := own_slice hr5
          exact ⟨ao, ac, by rw [e, HL1.out.1]⟩
        have hns : NsIn w5 (fun _ => True) (.slice ao nc ac) hs := RowIn.of_own hr5 (by simp [inC]) _ (fun _ _ => trivial)
        obtain ⟨bo, offo, rfl, -, -⟩ := NsIn.cell hns 0 (by rw [HL1.out.1]; omega)
        have hac := (RowIn.lens hns).2
        rw [HL1.out.1] at hac
        have H5 := Lib.hid (And.intro (H4.out.1.next hb5) (And.intro ((hb5.block _ (heap_lt HN4.out)).trans HN4.out) (And.intro hns (RowIn.below HIN.out (H4.out.2.trans (hb5.mono H4.out.2.size))))))
        clear hr5 hb5 hns HHW HHJ x0 x1 x2 hlx H4 HN4 HIN
        generalize wr.heap.size = q at *
        have y3 : w5.cell? ⟨q, 3, none⟩ = some (.slice oc nc cc) := (cell_of_heap H5.out.2.1).trans rfl
        have hly := heap_lt H5.out.2.1
        obtain ⟨b', off', e', hlo, c0⟩ := NsIn.cell H5.out.2.2.1 0 (by rw [HL1.out.1]; omega)
        obtain ⟨rfl, rfl⟩ : bo = b' ∧ offo = off' := by
          injection e' with e'
          injection e' with e1 e2
          exact ⟨e1, e2⟩
        rw [← ck.hAt_lt, HL1.out.2, Nat.add_zero] at c0
        have hpos : (0 : Int) < (nc : Int) := by omega
        have hne : ((nc : Int) != (nc : Int)) = false := by simp
        clear e'
        have HH5 : Hid (MB w w5 w.heap.size m (.slice od m.data.length cd) (.slice (some ⟨b, off, none⟩) m.funcs.length cf) ∧ w5.heap[q]? = some (.cells #[.int .i64 P0, .int .i64 P1, .int .i64 P2, .slice oc nc cc] 42 (0, 0)) ∧ NsIn w5 (fun _ => True) (.slice (some ⟨bo, offo, none⟩) nc ac) hs ∧ InsIn w5 (fun k => k < w.heap.size) (.slice oc c.length cc) c) := H5
        go_upto_region 12 with fail
        clear y3 hly hlo c0 hne
        generalize wr = wo at *
        go_loopg [44] nc (fun gg s44 wr => ∃ k : Nat, s44 = .int .i64 k ∧ k ≤ nc ∧ nc - k ≤ gg ∧ Hid (MB w wr w.heap.size m (.slice od m.data.length cd) (.slice (some ⟨b, off, none⟩) m.funcs.length cf) ∧ wr.heap[q]? = some (.cells #[.int .i64 P0, .int .i64 P1, .int .i64 P2, .slice oc nc cc] 42 (0, 0)) ∧ NsIn wr (fun _ => True) (.slice (some ⟨bo, offo, none⟩) nc ac) hs ∧ InsIn wr (fun k => k < w.heap.size) (.slice oc c.length cc) c))
        case atStart => exact ⟨0, rfl, Nat.zero_le _, by omega, HH5⟩
        case round =>
          clear HH5 H5
          obtain ⟨k, rfl, hk, hgk, HB⟩ := hrel
          by_cases hkt : k < nc
          case neg =>
            have hki : ¬ (k : Int) < (nc : Int) := by omega
            go_wp2_with fail
            go_roundg (m.funcs.length - (j + 1))
            case measure => omega
            case rel => exact ⟨j + 1, by go_num, by omega, Nat.le_refl _, Lib.hid HB.out.1⟩
          case pos =>
            have hki : (k : Int) < (nc : Int) := by omega
            have hkc : k < c.length := by rw [HNC.out]; exact hkt
            have hkh : k < hs.length := by rw [HL1.out.1]; exact hkt
            have HSK := Lib.hid (HSA.out k hkc)
            obtain ⟨bc, offc, rfl, -, hlc, i0, i1⟩ := InsIn.cell HB.out.2.2.2 k hkc
            obtain ⟨ii, hii⟩ : ∃ ii, c[k] = ii := ⟨_, rfl⟩
            rw [hii] at i0 i1 HSK
            obtain ⟨op, nn⟩ := ii
            have HNS := Lib.hid (fun (W : World) (hw : NsIn W (fun _ => True) (.slice (some ⟨bo, offo, none⟩) nc ac) hs) (i : Nat) (hi : i < nc) => show bo < W.heap.size ∧ W.cell? ⟨bo, offo + i, none⟩ = some (.int .i64 (ck.hAt hs i)) from by
              obtain ⟨b', off', e', hlo, c0⟩ := NsIn.cell hw i (by rw [HL1.out.1]; exact hi)
              obtain ⟨rfl, rfl⟩ : bo = b' ∧ offo = off' := by
                injection e' with e'
                injection e' with e1 e2
                exact ⟨e1, e2⟩
              rw [ck.hAt_lt (by rw [HL1.out.1]; exact hi)]
              exact ⟨hlo, c0⟩)
            have hb7 := below_one wr (insB op nn)
            have HI7 := Lib.hid (heap_alloc_new wr (insB op nn))
            have H7 := Lib.hid (And.intro (HB.out.1.next hb7) (And.intro ((hb7.block _ (heap_lt HB.out.2.1)).trans HB.out.2.1) (And.intro (RowIn.below HB.out.2.2.1 hb7) (RowIn.below HB.out.2.2.2 hb7))))
            clear hb7 HB hii
            go_upto_region 14 with fail
            generalize wr.alloc (insB op nn) = w7 at *
            generalize wr.heap.size = q7 at *
            clear hlc i0 i1
            obtain ⟨hlo, c0⟩ := HNS.out w7 H7.out.2.2.1 k hkt
            obtain ⟨X, hX⟩ : ∃ X, ck.hAt hs k = X := ⟨_, rfl⟩
            rw [hX] at c0 HSK
            have HXX := Lib.hid hX
            clear hX
            by_cases hneg : X < 0
            case pos =>
              go_wp2_with fail
              go_roundg (nc - (k + 1))
              case measure => omega
              case rel => exact ⟨k + 1, by go_num, by omega, Nat.le_refl _, H7⟩
            case neg =>
              have x0 : w7.cell? ⟨w.heap.size, 0, none⟩ = some (.int .i64 m.mem) := (cell_of_heap H7.out.1.box).trans rfl
              have x1 : w7.cell? ⟨w.heap.size, 1, none⟩ = some (.slice od m.data.length cd) := (cell_of_heap H7.out.1.box).trans rfl
              have x2 : w7.cell? ⟨w.heap.size, 2, none⟩ = some (.slice (some ⟨b, off, none⟩) m.funcs.length cf) := (cell_of_heap H7.out.1.box).trans rfl
              have hlx := heap_lt H7.out.1.box
              have i0 : w7.cell? ⟨q7, 0, none⟩ = some (.int .i64 op) := (cell_of_heap HI7.out).trans rfl
              have i1 : w7.cell? ⟨q7, 1, none⟩ = some (.int .i64 nn) := (cell_of_heap HI7.out).trans rfl
              have hli := heap_lt HI7.out
              have HEW := Lib.hid (HEF.out j op nn w7 H7.out.1)
              obtain ⟨g1, g2, g3, g4⟩ := ck.effect_le HLM.out j ⟨op, nn⟩
              have hsk := HSK.out (by omega) op nn rfl
              generalize ck.effect m j ⟨op, nn⟩ = R at *
              obtain ⟨t, p, ok⟩ := R
              obtain ⟨rfl, k1, k2, k3, k4, k5, k6⟩ := hsk t p ok rfl
              have HK4 := Lib.hid k4
              have HK5 := Lib.hid k5
              have HK6 := Lib.hid k6
              dsimp only at g1 g2 g3 g4
              clear hsk k4 k5 k6 HSK
              go_wp2_with fail
              refine HEW.out.mono ?_
              rintro e w8 ⟨rfl, hb8⟩
              dsimp only
              have H8 := Lib.hid (And.intro (H7.out.1.next hb8) (And.intro ((hb8.block _ (heap_lt H7.out.2.1)).trans H7.out.2.1) (And.intro (RowIn.below H7.out.2.2.1 hb8) (RowIn.below H7.out.2.2.2 hb8))))
              have HI8 := Lib.hid ((hb8.block _ hli).trans HI7.out)
              clear hb8 HEW x0 x1 x2 hlx i0 i1 hli H7 HI7 c0 hlo
              obtain ⟨hlo, c0⟩ := HNS.out w8 H8.out.2.2.1 k hkt
              rw [HXX.out] at c0
              have i0 : w8.cell? ⟨q7, 0, none⟩ = some (.int .i64 op) := (cell_of_heap HI8.out).trans rfl
              have i1 : w8.cell? ⟨q7, 1, none⟩ = some (.int .i64 nn) := (cell_of_heap HI8.out).trans rfl
              have hli := heap_lt HI8.out
              have y1 : w8.cell? ⟨q, 1, none⟩ = some (.int .i64 P1) := (cell_of_heap H8.out.2.1).trans rfl
              have y3 : w8.cell? ⟨q, 3, none⟩ = some (.slice (some ⟨bc, offc, none⟩) nc cc) := (cell_of_heap H8.out.2.1).trans rfl
              have hly := heap_lt H8.out.2.1
              have k1' : ¬ X < t := by omega
              have k2' : ¬ 64 < X - t + p := by omega
              have k3' : ¬ 64 < X := by omega
              by_cases h27 : op = 27
              · have hXP := HK4.out h27
                have hxe : (X != P1) = false := by rw [hXP]; simp
                have HXP := Lib.hid hXP
                subst h27
                clear HK4 HK5 HK6 hXP
                go_upto_region 20 with fail
                go_quiet (fail)
                go_wp2_with fail
                go_roundg (nc - (k + 1))
                case measure => omega
                case rel => exact ⟨k + 1, by go_num, by omega, Nat.le_refl _, Lib.hid ⟨H8.out.1.next (below_dN (Below.refl _ _) _), H8.out.2.1, RowIn.below H8.out.2.2.1 (below_dN (Below.refl _ _) _), RowIn.below H8.out.2.2.2 (below_dN (Below.refl _ _) _)⟩⟩
              have e27 : (op == 27) = false := by simpa using h27
              by_cases h24 : op = 24
              · obtain ⟨jn, rfl, hjn, hjX⟩ := HK5.out (.inl h24)
                rw [HNC.out] at hjn
                obtain ⟨hlo2, d0⟩ := HNS.out w8 H8.out.2.2.1 jn hjn
                rw [hjX] at d0
                have hji2 : (jn : Int) < (nc : Int) := by omega
                have hne2 : ((X - t + p) != (X - t + p)) = false := by simp
                subst h24
                clear HK4 HK5 HK6 h27 e27 hjX
                go_wp2_with fail
                go_roundg (nc - (k + 1))
                case measure => omega
                case rel => exact ⟨k + 1, by go_num, by omega, Nat.le_refl _, H8⟩
              have e24 : (op == 24) = false := by simpa using h24
              have n24 : (op != 24) = true := by simpa using h24
              by_cases h29 : op = 29
              · subst h29
                clear HK4 HK5 HK6 h27 e27 h24 e24 n24
                go_wp2_with fail
                go_roundg (nc - (k + 1))
                case measure => omega
                case rel => exact ⟨k + 1, by go_num, by omega, Nat.le_refl _, H8⟩
              have n29 : (op != 29) = true := by simpa using h29
              obtain ⟨hk2, hk2X⟩ := HK6.out h24 h27 h29
              rw [HNC.out] at hk2
              obtain ⟨hlo3, d1⟩ := HNS.out w8 H8.out.2.2.1 (k + 1) hk2
              rw [hk2X] at d1
              have hki2 : (k : Int) + 1 < (nc : Int) := by omega
              have hki3 : ¬ (nc : Int) ≤ (k : Int) + 1 := by omega
              have hne2 : ((X - t + p) != (X - t + p)) = false := by simp
              by_cases h25 : op = 25
              · obtain ⟨jn, rfl, hjn, hjX⟩ := HK5.out (.inr h25)
                rw [HNC.out] at hjn
                obtain ⟨hlo2, d0⟩ := HNS.out w8 H8.out.2.2.1 jn hjn
                rw [hjX] at d0
                have hji2 : (jn : Int) < (nc : Int) := by omega
                subst h25
                clear HK4 HK5 HK6 h27 e27 h24 e24 n24 h29 n29 hjX hk2X
                go_wp2_with fail
                go_roundg (nc - (k + 1))
                case measure => omega
                case rel => exact ⟨k + 1, by go_num, by omega, Nat.le_refl _, H8⟩
              have e25 : (op == 25) = false := by simpa using h25
              clear HK4 HK5 HK6 h27 h24 h29 h25 hk2X
              go_wp2_with fail
              go_roundg (nc - (k + 1))
              case measure => omega
              case rel => exact ⟨k + 1, by go_num, by omega, Nat.le_refl _, H8⟩
end Go.Proofs.YtibpbnffennmeaaDoor
