/- TimerParts. -/
import Derived.Test.YtmlcniiecejenaaTmApp
namespace Go.Proofs.Ytmlcniiecejenaa
open Go.RowKit
theorem Tw.start {w0 x1 x2 x3 : World} {B : Nat} {Vc Vo : Value} {s : tm.St} (b1 : Below B w0 x1) (hB : B ≤ x1.heap.size) (m1 : Mine x1.heap.size x1 x2 x1.heap.size Vc s) (m2 : Mine x2.heap.size x2 x3 x2.heap.size Vo s) : Tw B w0 x3 x1.heap.size x2.heap.size Vc Vo s s :=
  ⟨m1.ck.below m2.bel, m2.ck, fun y a b => by
    have := (m1.ck.own_lt a).2
    have := m2.own y b
    omega, (b1.trans (m1.bel.mono hB)).trans (m2.bel.mono (Nat.le_trans hB m1.bel.size)), fun y a => Nat.le_trans hB (m1.own y a), fun y a => Nat.le_trans (Nat.le_trans hB m1.bel.size) (m2.own y a), Nat.le_trans (Nat.le_trans hB m1.bel.size) m2.bel.size⟩
/-- two clocks, what was wanted, what was got -/
structure TS (B : Nat) (w0 w : World) (c o : Nat) (Vc Vo : Value) (sc so : tm.St) (VW : Value) (W : List tm.T) (VG : Value) (G : List tm.T) : Prop where
  tw : Tw B w0 w c o Vc Vo sc so
  rw : DRow w B VW W
  rg : DRow w B VG G
  wc : ∀ y, VW.ownBlock = some y → ¬ OwnC c Vc y ∧ ¬ OwnC o Vo y
  gc : ∀ y, VG.ownBlock = some y → ¬ OwnC c Vc y ∧ ¬ OwnC o Vo y
  wg : ∀ y, VW.ownBlock = some y → VG.ownBlock ≠ some y
section
variable {B : Nat} {w0 w w' w'' : World} {c o : Nat} {Vc Vo : Value} {sc so : tm.St} {VW VG : Value} {W G : List tm.T}
theorem TS.pass (t : TS B w0 w c o Vc Vo sc so VW W VG G) {V1 Vt : Value} {s1 : tm.St} {told : List tm.T} (p : PS w w' o Vo V1 Vt s1 told) : TS B w0 w' c o Vc V1 sc s1 VW W VG G :=
  ⟨(t.tw.symm.pass p).symm, (DRow.pass t.rw p fun y hy => (t.wc y hy).2).1, (DRow.pass t.rg p fun y hy => (t.gc y hy).2).1, fun y hy => ⟨(t.wc y hy).1, (DRow.pass t.rw p fun y hy => (t.wc y hy).2).2 y hy⟩, fun y hy => ⟨(t.gc y hy).1, (DRow.pass t.rg p fun y hy => (t.gc y hy).2).2 y hy⟩, t.wg⟩
theorem TS.push (t : TS B w0 w c o Vc Vo sc so VW W VG G) {VG' : Value} {G' : List tm.T} (hr : DRow w' B VG' G') (hg : w.grownBy w' VG.ownBlock) (hv : VG'.ownBlock = VG.ownBlock ∨ VG'.ownBlock = some w.heap.size) : TS B w0 w' c o Vc Vo sc so VW W VG' G' := by
  have f : Fr (fun k => VG.ownBlock = some k) w w' := Fr.of_grown hg
  have kc := t.tw.cc.keep fun y hy => f.block y (t.tw.cc.own_lt hy).2 fun e => (t.gc y e).1 hy
  have ko := t.tw.oo.keep fun y hy => f.block y (t.tw.oo.own_lt hy).2 fun e => (t.gc y e).2 hy
  refine ⟨⟨kc, ko, t.tw.dis, t.tw.bel.trans (f.to_below B t.tw.low fun k hk e => absurd (t.rg.lt k e).1 (by omega)), t.tw.lowc, t.tw.lowo, Nat.le_trans t.tw.low f.size⟩, own_keep t.rw fun g _ _ hg hv _ => f.block g hg (t.wg g hv), hr, t.wc, fun y hy => ?_, fun y hy e => ?_⟩
  · rcases hv with a | a
    · exact t.gc y (a.symm.trans hy)
    · rw [a] at hy
      obtain rfl := Option.some.inj hy
      exact ⟨fun x => Nat.lt_irrefl _ (t.tw.cc.own_lt x).2, fun x => Nat.lt_irrefl _ (t.tw.oo.own_lt x).2⟩
  · rcases hv with a | a
    · exact t.wg y hy (a.symm.trans e)
    · rw [a] at e
      obtain rfl := Option.some.inj e
      exact Nat.lt_irrefl _ (t.rw.lt _ hy).2
theorem TS.below (t : TS B w0 w c o Vc Vo sc so VW W VG G) (b : Below w.heap.size w w') : TS B w0 w' c o Vc Vo sc so VW W VG G := ⟨t.tw.below b, row_below t.rw b, row_below t.rg b, t.wc, t.gc, t.wg⟩
theorem DRow.toIn {R : Nat} {V : Value} {l : List tm.T} (h : DRow w R V l) : RowIn w (fun _ => True) V 3 l.length (dsC l) := RowIn.of_own h (dsC_len l) _ fun _ _ => trivial
end
theorem due_neq (a b c : Int) (w : World) : (binOp .neq 57 (.agg #[.int .i64 a, .int .i64 b, .int .i64 c]) (.agg #[.int .i64 a, .int .i64 b, .int .i64 c])).run Try.prog w = .ok (.bool false) w := by
  have u3 := Try.underlying3
  have a3 := Try.isAgg3
  have z3 := Try.sizeOf3
  have u4 := Try.underlying2
  have a4 := Try.isAgg2
  have z4 := Try.sizeOf2
  rw [run_neq_struct, show (10000 : Nat) = 9999 + 1 from rfl, run_equalIn_agg w 9999 57 _ _ hSDue hpDue]
  simp only [Program.fieldsOf, Try.underlying57]
  go_simp
set_option maxRecDepth 100000 in
set_option maxHeartbeats 800000 in
theorem timerParts_any (VI : Value) (ns : List Int) (VP : Value) (ps : List Int) (till : Int) (VT : Value) (ts : List Int) (w : World) (hI : NsIn w (fun b => b < w.heap.size) VI ns) (hP : NsIn w (fun b => b < w.heap.size) VP ps) (hT : NsIn w (fun b => b < w.heap.size) VT ts) : Calls Try.prog 4 #[VI, VP, .int .i64 till, VT] w fun e w' => e = .returned (.bool true) ∧ Below w.heap.size w w' := by
  have HA := Lib.hid (alive_any w)
  obtain ⟨S, hS⟩ : ∃ S, tm.setAll ps ns 0 tm.St.zero = S := ⟨_, rfl⟩
  obtain ⟨oT, cT, rfl, hT1, hT2, -, -⟩ := id hT
  have HI := Lib.hid (And.intro hI (And.intro hP hT))
  clear hI hP hT
  go_enter Try.func4, Try.ntmps4
  go_wp2_with fail
  with_reducible refine HA.out.mono ?_
  rintro e x1 ⟨rfl, b1⟩
  have H1 := Lib.hid (And.intro b1 b1.size)
  have HC := Lib.hid (setFn_any VI VP ns ps x1 (RowIn.wide (RowIn.below HI.out.1 b1) fun _ _ hk => hk) (RowIn.wide (RowIn.below HI.out.2.1 b1) fun _ _ hk => hk))
  rw [hS] at HC
  clear b1 HA
  go_wp2_with fail
  with_reducible refine HC.out.mono ?_
  rintro e x2 ⟨rfl, hg, Vc, m1⟩
  have b2 : Below w.heap.size w x2 := H1.out.1.trans (m1.bel.mono H1.out.2)
  have HC2 := Lib.hid (setFn_any VI VP ns ps x2 (RowIn.wide (RowIn.below HI.out.1 b2) fun _ _ hk => hk) (RowIn.wide (RowIn.below HI.out.2.1 b2) fun _ _ hk => hk))
  rw [hS] at HC2
  have HM := Lib.hid m1
  have HG := Lib.hid hg
  clear m1 b2 HC hg
  go_wp2_with fail
  with_reducible refine HC2.out.mono ?_
  rintro e x3 ⟨rfl, -, Vo, m2⟩
  have HT := Lib.hid (Tw.start H1.out.1 H1.out.2 HM.out m2)
  clear m2 HC2 HM
  obtain ⟨c, hc⟩ : ∃ c, x1.heap.size = c := ⟨_, rfl⟩
  obtain ⟨o, ho⟩ : ∃ o, x2.heap.size = o := ⟨_, rfl⟩
  rw [hc, ho] at HT
  rw [hc, ho]
  clear hc ho H1 hS
  cases hTT : tm.isT till with
  | false =>
    have hps : tm.passR S till = (([], 1), S) := by unfold tm.passR; rw [if_pos (.inr hTT)]
    have HP := Lib.hid (pass_any c Vc S till x3 HT.out.cc HG.out.1 _ hps)
    have hN := HG.out.2
    by_cases h0 : till < 0
    all_goals skip
    · go_wp2_with fail
      with_reducible refine HP.out.mono ?_
      rintro e x4 ⟨V4, V4t, rfl, p4⟩
      have HW := Lib.hid (now_any c V4 S x4 p4.ck)
      have HZ := Lib.hid (HT.out.pass p4).bel
      rw [hN] at HW
      obtain ⟨o4, c4, rfl⟩ : ∃ a b, V4t = .slice a 0 b := own_slice p4.row
      clear p4 HP
      go_wp2_with fail
      with_reducible refine HW.out.mono ?_
      rintro e w' ⟨rfl, hw⟩
      replace hw := hw.symm
      subst hw
      go_wp2_with fail
      go_ret
      exact ⟨rfl, HZ.out⟩
    · have hbig : (1099511627776 : Int) < till := by
        have : ¬ (0 ≤ till ∧ till ≤ 1099511627776) := fun x => by rw [(tm.isT_iff till).2 x] at hTT; cases hTT
        omega
      go_wp2_with fail
      with_reducible refine HP.out.mono ?_
      rintro e x4 ⟨V4, V4t, rfl, p4⟩
      have HW := Lib.hid (now_any c V4 S x4 p4.ck)
      have HZ := Lib.hid (HT.out.pass p4).bel
      rw [hN] at HW
      obtain ⟨o4, c4, rfl⟩ : ∃ a b, V4t = .slice a 0 b := own_slice p4.row
      clear p4 HP
      go_wp2_with fail
      with_reducible refine HW.out.mono ?_
      rintro e w' ⟨rfl, hw⟩
      replace hw := hw.symm
      subst hw
      go_wp2_with fail
      go_ret
      exact ⟨rfl, HZ.out⟩
  | true =>
    have htb := (tm.isT_iff till).1 hTT
    obtain ⟨W, lW, hW⟩ : ∃ W lW, tm.tellsL 16 S.l till = (W, lW) := ⟨_, _, rfl⟩
    have hWl : W.length ≤ 16 := by have := tm.tells_le till 16 S.l; rwa [hW] at this
    have hps : tm.passR S till = ((W, 0), ⟨if W.length = 16 then (tm.ix W 15).due else till, S.last, lW⟩) := by
      have := tm.pass_l S till (by rw [HG.out.2]; omega) hTT
      rwa [hW] at this
    have HP := Lib.hid (pass_any c Vc S till x3 HT.out.cc HG.out.1 _ hps)
    go_wp2_with fail
    with_reducible refine HP.out.mono ?_
    rintro e x4 ⟨V4, VW, rfl, p4⟩
    have T4 := HT.out.pass p4
    have hap := HT.out.apart p4
    obtain ⟨n, hn⟩ : ∃ n, W.length = n := ⟨_, rfl⟩
    obtain ⟨oW, cW, hVW⟩ : ∃ a b, VW = .slice a W.length b := own_slice p4.row
    rw [hn] at hVW hWl
    subst hVW
    have H4 := Lib.hid (And.intro T4 (And.intro p4.row (And.intro p4.sep hap)))
    have hlow : w.heap.size ≤ x3.heap.size := HT.out.low
    clear T4 hap p4 HP hps
    by_cases h16 : n = 16
    · subst h16
      go_wp2_with fail
      go_ret
      exact ⟨rfl, H4.out.1.bel⟩
    · have hn16 : (n : Int) < 16 := by omega
      have hlo : (tm.tellsL 16 S.l till).1.length < 16 := by rw [hW]; show W.length < 16; omega
      have HS0 : Hid (TS w.heap.size w (x4.alloc (.cells #[] 57)) c o V4 Vo ⟨till, S.last, lW⟩ S (.slice oW n cW) W (.slice (some ⟨x4.heap.size, 0, none⟩) 0 0) []) := Lib.hid (by
        have b := below_one x4 (.cells #[] 57)
        have e : (if W.length = 16 then (tm.ix W 15).due else till) = till := if_neg (by omega)
        have t4 := H4.out.1.below b
        rw [e] at t4
        refine ⟨t4, own_base (row_below H4.out.2.1 b) hlow, ⟨rfl, .inr ⟨x4.heap.size, 0, #[], rfl, H4.out.1.low, heap_alloc_new x4 _, Nat.le_refl _, by decide, rfl, rfl⟩⟩, fun y hy => ⟨H4.out.2.2.1 y hy, H4.out.2.2.2 y hy⟩, fun y hy => ?_, fun y hy e => ?_⟩
        · obtain rfl : x4.heap.size = y := Option.some.inj hy
          exact ⟨fun x => Nat.lt_irrefl _ (H4.out.1.cc.own_lt x).2, fun x => Nat.lt_irrefl _ (H4.out.1.oo.own_lt x).2⟩
        · obtain rfl : x4.heap.size = y := Option.some.inj e
          exact Nat.lt_irrefl _ (H4.out.2.1.lt _ hy).2)
      have HW0 := Lib.hid (And.intro hW (And.intro hlo hn))
      go_upto_region 15 with fail
      go_wp2_with fail
      go_loopg [15, 17, 18, 19, 73] ts.length (fun gg s15 s17 s18 s19 s73 wr => ∃ (k : Nat) (oG : Option Addr) (cG m : Nat) (Vo1 : Value) (so : tm.St) (G : List tm.T), s15 = .slice oG m cG ∧ s73 = .int .i64 k ∧ k ≤ ts.length ∧ ts.length - k ≤ gg ∧ Hid (TS w.heap.size w wr c o V4 Vo1 ⟨till, S.last, lW⟩ so (.slice oW n cW) W (.slice oG m cG) G ∧ G.length = m ∧ tm.Good so ∧ W = G ++ (tm.tellsL 16 so.l till).1 ∧ lW = (tm.tellsL 16 so.l till).2 ∧ (tm.tellsL 16 so.l till).1.length < 16) ∧ Hid (so.now ≤ till))
      case atStart => exact ⟨0, _, 0, 0, Vo, S, [], rfl, rfl, Nat.zero_le _, Nat.le_refl _, Lib.hid ⟨HS0.out, rfl, HG.out.1, by rw [HW0.out.1]; rfl, by rw [HW0.out.1], HW0.out.2.1⟩, Lib.hid (by rw [HG.out.2]; omega)⟩
      case round =>
        clear HS0 H4
        obtain ⟨k, oG, cG, m, Vo1, so, G, rfl, rfl, hk, hgg, HX, HNW⟩ := hrel
        have hnow := HNW.out
        have hnow0 := HX.out.2.2.1.n0
        by_cases hkt : k < ts.length
        · have hkt' : (k : Int) < (ts.length : Int) := by omega
          obtain ⟨bT, offT, eT, hbT, dT⟩ := NsIn.cell (RowIn.below HI.out.2.2 HX.out.1.tw.bel) k hkt
          subst eT
          generalize ts.getD k 0 = q at dT
          by_cases hq0 : q < 0
          · go_wp2_with fail
            go_roundg (ts.length - (k + 1))
            case measure => omega
            case rel => exact ⟨k + 1, oG, cG, m, Vo1, so, G, rfl, (by first | rfl | (simp; done) | (simp; omega)), by omega, Nat.le_refl _, HX, HNW⟩
          have HNo := Lib.hid (now_any o Vo1 so wr HX.out.1.tw.oo)
          have ew : wrap64 (till - so.now) = till - so.now := by unfold wrap64; omega
          by_cases hqt : till - so.now < q
          · go_wp2_with fail
            with_reducible refine HNo.out.mono ?_
            rintro e w' ⟨rfl, hw⟩
            replace hw := hw.symm
            subst hw
            go_wp2_with fail
            go_roundg (ts.length - (k + 1))
            case measure => omega
            case rel => exact ⟨k + 1, oG, cG, m, Vo1, so, G, rfl, (by first | rfl | (simp; done) | (simp; omega)), by omega, Nat.le_refl _, HX, HNW⟩
          have hTp : tm.isT (so.now + q) = true := (tm.isT_iff _).2 (by omega)
          have ew2 : wrap64 (so.now + q) = so.now + q := by unfold wrap64; omega
          obtain ⟨A, l1, hpp, hA16, hsp1, hsp2, hlt⟩ := tm.pass_part so (so.now + q) till (by omega) (by omega) hTp HX.out.2.2.2.2.2
          have hgd := HX.out.2.2.1.pass (so.now + q) (by omega) hTp (by rw [tm.pass_l so (so.now + q) (by omega) hTp] at hpp; have e := congrArg (fun x => x.1.1) hpp; simp only at e; rw [e]; exact hA16)
          rw [hpp] at hgd
          have HP := Lib.hid (pass_any o Vo1 so (so.now + q) wr HX.out.1.tw.oo HX.out.2.2.1 _ hpp)
          have HQ := Lib.hid (And.intro hgd (And.intro hsp1 (And.intro hsp2 (And.intro hlt hA16))))
          clear hgd hsp1 hsp2 hlt hpp hTp
          go_wp2_with fail
          with_reducible refine HNo.out.mono ?_
          rintro e w' ⟨rfl, hw⟩
          replace hw := hw.symm
          subst hw
          go_wp2_with fail
          with_reducible refine HNo.out.mono ?_
          rintro e w' ⟨rfl, hw⟩
          replace hw := hw.symm
          subst hw
          go_wp2_with fail
          with_reducible refine HP.out.mono ?_
          rintro e x5 ⟨V5, Vt, rfl, p5⟩
          have TS5 := HX.out.1.pass p5
          obtain ⟨a, ha⟩ : ∃ a, A.length = a := ⟨_, rfl⟩
          obtain ⟨oA, cA, hVt⟩ : ∃ x y, Vt = .slice x A.length y := own_slice p5.row
          rw [ha] at hVt
          subst hVt
          have hin := DRow.toIn p5.row
          rw [ha] at hin
          have H5 := Lib.hid (And.intro TS5 hin)
          have HGm := Lib.hid (And.intro HX.out.2.1 (And.intro ha (show m ≤ 16 by have h1 := congrArg List.length HX.out.2.2.2.1; rw [List.length_append, HX.out.2.1, HW0.out.2.2] at h1; omega)))
          have hm16 := HGm.out.2.2
          have ha16 : a < 16 := by rw [← ha]; exact hA16
          have hrg := TS5.rg
          rw [show DRow x5 w.heap.size (.slice oG m cG) G = x5.ownsRow w.heap.size 57 3 (.slice oG m cG) G.length (dsC G) from rfl, HGm.out.1] at hrg
          have HRG := Lib.hid (And.intro hrg TS5.tw.low)
          clear TS5 hin p5 HP HNo hrg hA16
          go_wp2_with (at_builtin; go_loud (refine wpList_app_dues rfl _ _ rfl w.heap.size (.slice oG m cG) m (dsC G) rfl HRG.out.1 HRG.out.2 oA a cA (fun _ => True) (dsC A) rfl H5.out.2 (dsC_one A) (by omega) ?_))
          intro V' w6 q1 q2 q3
          have H6 : Hid (TS w.heap.size w w6 c o V4 V5 ⟨till, S.last, lW⟩ ⟨so.now + q, so.last, l1⟩ (.slice oW n cW) W V' (G ++ A)) := Lib.hid (H5.out.1.push (by show w6.ownsRow w.heap.size _ 3 V' (G ++ A).length _; rw [List.length_append, HGm.out.1, HGm.out.2.1, dsC_app]; exact q1) q2 q3)
          obtain ⟨oG', cG', rfl⟩ := own_slice q1
          clear q1 q2 q3
          go_wp2_with fail
          go_roundg (ts.length - (k + 1))
          case measure => omega
          case rel => exact ⟨k + 1, oG', cG', m + a, V5, _, G ++ A, rfl, (by first | rfl | (simp; done) | (simp; omega)), by omega, Nat.le_refl _, Lib.hid ⟨H6.out, by rw [List.length_append, HGm.out.1, HGm.out.2.1], HQ.out.1, by rw [List.append_assoc, ← HQ.out.2.1]; exact HX.out.2.2.2.1, HX.out.2.2.2.2.1.trans HQ.out.2.2.1, HQ.out.2.2.2.1⟩, Lib.hid (by show so.now + q ≤ till; omega)⟩
        · obtain rfl : k = ts.length := by omega
          obtain ⟨A, l2, hAl⟩ : ∃ A l2, tm.tellsL 16 so.l till = (A, l2) := ⟨_, _, rfl⟩
          have hX := HX.out
          rw [hAl] at hX
          obtain ⟨X1, X2, X3, X4, X5, X6⟩ := hX
          simp only at X4 X5 X6
          subst X5
          obtain ⟨a, ha⟩ : ∃ a, A.length = a := ⟨_, rfl⟩
          have hna : m + a = n := by have h1 := congrArg List.length X4; rw [List.length_append, X2, HW0.out.2.2, ha] at h1; omega
          have hps2 : tm.passR so till = ((A, 0), ⟨till, so.last, lW⟩) := by
            have := tm.pass_l so till hnow hTT
            rw [hAl] at this
            simp only at this
            rwa [if_neg (by omega)] at this
          have HP := Lib.hid (pass_any o Vo1 so till wr X1.tw.oo X3 _ hps2)
          have hlW : lW.length ≤ 64 := by
            have := (X3.pass till hnow hTT (by rw [hAl]; exact X6)).len
            rw [hps2] at this
            exact this
          have HX1 := Lib.hid (And.intro X1 (And.intro X2 (And.intro X4 (And.intro ha hna))))
          clear X1 X2 X3 X4 X6 hps2 hAl ha HX
          go_wp2_with fail
          with_reducible refine HP.out.mono ?_
          rintro e x5 ⟨V5, Vt, rfl, p5⟩
          have TS5 := HX1.out.1.pass p5
          obtain ⟨oA, cA, hVt⟩ : ∃ x y, Vt = .slice x A.length y := own_slice p5.row
          rw [HX1.out.2.2.2.1] at hVt
          subst hVt
          have hin := DRow.toIn p5.row
          rw [HX1.out.2.2.2.1] at hin
          have H5 := Lib.hid (And.intro TS5 hin)
          have hrg := TS5.rg
          rw [show DRow x5 w.heap.size (.slice oG m cG) G = x5.ownsRow w.heap.size 57 3 (.slice oG m cG) G.length (dsC G) from rfl, HX1.out.2.1] at hrg
          have HRG := Lib.hid (And.intro hrg TS5.tw.low)
          have hnW : n ≤ 16 := hWl
          clear TS5 hin p5 HP hrg
          go_wp2_with (at_builtin; go_loud (refine wpList_app_dues rfl _ _ rfl w.heap.size (.slice oG m cG) m (dsC G) rfl HRG.out.1 HRG.out.2 oA a cA (fun _ => True) (dsC A) rfl H5.out.2 (dsC_one A) (by omega) ?_))
          intro V' w6 q1 q2 q3
          have H6 : Hid (TS w.heap.size w w6 c o V4 V5 ⟨till, S.last, lW⟩ ⟨till, so.last, lW⟩ (.slice oW n cW) W V' W) := Lib.hid (H5.out.1.push (by show w6.ownsRow w.heap.size _ 3 V' W.length _; rw [HW0.out.2.2, HX1.out.2.2.1, dsC_app]; exact q1) q2 q3)
          obtain ⟨oG', cG', rfl⟩ := own_slice q1
          clear q1 q2 q3 HRG H5
          have HAo := Lib.hid (all_any o V5 _ w6 H6.out.tw.oo hlW)
          have htt : (till != till) = false := by simp
          go_wp2_with fail
          with_reducible refine HAo.out.mono ?_
          rintro e x7 ⟨o7, c7, L7, rfl, hp7, -, -, b7⟩
          have h7 := hp7.length_eq
          (try simp only at h7)
          rw [h7]
          have H7 := Lib.hid (H6.out.below b7)
          have HAc := Lib.hid (all_any c V4 _ x7 H7.out.tw.cc hlW)
          clear hp7 h7 b7 H6 HAo
          go_wp2_with fail
          with_reducible refine HAc.out.mono ?_
          rintro e x8 ⟨o8, c8, L8, rfl, hp8, -, -, b8⟩
          have h8 := hp8.length_eq
          (try simp only at h8)
          rw [h8]
          have H8 := Lib.hid (H7.out.below b8)
          have HN1 := Lib.hid (now_any o V5 _ x8 H8.out.tw.oo)
          have HN2 := Lib.hid (now_any c V4 _ x8 H8.out.tw.cc)
          have hzz : ((lW.length : Int) != (lW.length : Int)) = false := by simp
          have hnn : ((n : Int) != (n : Int)) = false := by simp
          clear hp8 h8 b8 H7 HAc
          go_wp2_with fail
          with_reducible refine HN1.out.mono ?_
          rintro e w' ⟨rfl, hw⟩
          replace hw := hw.symm
          subst hw
          go_wp2_with fail
          with_reducible refine HN2.out.mono ?_
          rintro e w' ⟨rfl, hw⟩
          replace hw := hw.symm
          subst hw
          go_wp2_with fail
          go_loopg [22, 138] n (fun gg s22 s138 wr => ∃ k : Nat, s138 = .int .i64 k ∧ k ≤ n ∧ n - k ≤ gg ∧ Hid (TS w.heap.size w wr c o V4 V5 ⟨till, S.last, lW⟩ ⟨till, so.last, lW⟩ (.slice oW n cW) W (.slice oG' n cG') W))
          case atStart => exact ⟨0, rfl, Nat.zero_le _, Nat.le_refl _, H8⟩
          case round =>
            clear H8 HN1 HN2
            obtain ⟨i, rfl, hi, hgi, HY⟩ := hrel
            by_cases hin : i < n
            · have hin' : (i : Int) < (n : Int) := by omega
              obtain ⟨-, g1, e1, l1, d0, d1, d2⟩ := DRow.cell HY.out.rw i (by rw [HW0.out.2.2]; exact hin)
              obtain ⟨-, g2, e2, l2, f0, f1, f2⟩ := DRow.cell HY.out.rg i (by rw [HW0.out.2.2]; exact hin)
              subst e1 e2
              have zn := due_neq (tm.ix W i).id (tm.ix W i).owner (tm.ix W i).due
              have zg := eqgDue
              generalize tm.ix W i = t at *
              have HY2 := Lib.hid (HY.out.below (below_dN (Below.refl _ _) 1))
              go_upto_region 31 with fail
              go_region
              all_goals go_wp2_with fail
              all_goals go_roundg (n - (i + 1))
              all_goals first | omega | exact ⟨i + 1, (by first | rfl | (simp; done) | (simp; omega)), by omega, Nat.le_refl _, HY2⟩
            · obtain rfl : i = n := by omega
              go_wp2_with fail
              go_ret
              exact ⟨rfl, HY.out.tw.bel⟩
end Go.Proofs.Ytmlcniiecejenaa
