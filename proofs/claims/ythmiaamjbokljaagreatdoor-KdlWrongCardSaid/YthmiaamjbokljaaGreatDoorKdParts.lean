/- parts: a node's values and properties. -/
import Derived.Test.YthmiaamjbokljaaGreatDoorKdPartsP
namespace Go.Proofs.YthmiaamjbokljaaGreatDoor
open Go.RowKit
/-- what parts leaves -/
def PartsTo (w w' : World) (p q e : Nat) (nm : List UInt8) (VK : Value) (ev : Ending) : kd.Ans (List kd.Val × List kd.Prp) → Prop
  | .ok R s' => ev = .returned (.agg #[.int .i64 0, .int .i64 0]) ∧ Fr (fun k => k = p ∨ k = q) w w' ∧ (∃ o cap, PrAt w' p e s' o cap) ∧ ∃ VA VP, w'.heap[q]? = some (.cells #[str nm, VA, VP, VK] 39 (0, 0)) ∧ w'.ownsRow w.heap.size 44 4 VA R.1.length (argsC R.1) ∧ w'.ownsRow w.heap.size 46 5 VP R.2.length (prpsC R.2)
  | .bad c x _ => ev = .returned (.agg #[.int .i64 c, .int .i64 x]) ∧ Fr (fun k => k = p ∨ k = q) w w' ∧ c ≠ 0
/-- bounds that any tokens of a text keep -/
structure Lim (s : kd.Ps) (m : Nat) : Prop where
  few : s.toks.length + m ≤ 8192
  short : ∀ t ∈ s.toks, t.text.length ≤ 8192
set_option maxRecDepth 100000 in
set_option maxHeartbeats 6400000 in
theorem parts_any (p q e : Nat) (nm : List UInt8) (VK : Value) (s : kd.Ps) (o : Option Addr) (cap : Nat) (f : Nat) (w : World) (h : PrAt w p e s o cap) (hq : w.heap[q]? = some (.cells #[str nm, .slice none 0 0, .slice none 0 0, VK] 39 (0, 0))) (hpq : p < q) (hf : s.toks.length < f) (hlim : Lim s 0) :
    Calls Tryz.prog 70 #[.pointer (some ⟨p, 0, none⟩), .pointer (some ⟨q, 0, none⟩)] w fun ev w' => PartsTo w w' p q e nm VK ev (kd.parts e f s [] []) := by
  have hql := heap_lt hq
  have hb0 := below_one w (.cells #[.int .i64 0, .int .i64 0] 30)
  have HTW := Lib.hid (twice_any (w.alloc (.cells #[.int .i64 0, .int .i64 0] 30)))
  rw [World.size_alloc] at HTW
  obtain ⟨R, hR⟩ : ∃ R, kd.parts e f s [] [] = R := ⟨_, rfl⟩
  rw [hR]
  have hst : ∀ w1, AgAt w1 (w.heap.size + 1 + 1) (w.heap.size + 1) [] → Below (w.heap.size + 1) (w.alloc (.cells #[.int .i64 0, .int .i64 0] 30)) w1 → PA w w1 p q e nm VK s [] [] [] o cap (.slice none 0 0) (.slice none 0 0) := fun w1 ha hb => by
    have hb1 : Below (w.alloc (.cells #[.int .i64 0, .int .i64 0] 30)).heap.size (w.alloc (.cells #[.int .i64 0, .int .i64 0] 30)) w1 := by rw [World.size_alloc]; exact hb
    have hbw : Below w.heap.size w w1 := hb0.trans (hb1.mono (by simp))
    exact ⟨h.below hbw, (hbw.block q hql).trans hq, World.ownsRow_nil _ _ _ _, World.ownsRow_nil _ _ _ _, ha, (hb1.block _ (by simp)).trans (heap_alloc_new _ _), Fr.of_below hbw _⟩
  have HST := Lib.hid hst
  have HR := Lib.hid hR
  have HLIM := Lib.hid hlim
  clear hst hR h hq hb0 hlim
  go_enter Tryz.func70, Tryz.ntmps70
  go_wp2_with fail
  refine HTW.out.mono ?_
  rintro ev w1 ⟨rfl, ha, hb⟩
  have H1 := Lib.hid (HST.out w1 ha hb)
  clear ha hb HTW HST
  go_wp2_with fail
  go_loopg [] f (fun gg wr => ∃ (s : kd.Ps) (vs : List kd.Val) (ps : List kd.Prp) (o : Option Addr) (cap : Nat) (VA VP : Value) (g : Nat), g ≤ gg ∧ Hid (PA w wr p q e nm VK s vs ps (ps.map (·.name)) o cap VA VP ∧ kd.parts e g s vs ps = R ∧ s.toks.length < g ∧ Lim s (vs.length + ps.length)))
  case atStart => exact ⟨s, [], [], o, cap, _, _, f, Nat.le_refl _, Lib.hid ⟨H1.out, HR.out, hf, HLIM.out⟩⟩
  case round =>
    clear H1 HR HLIM hf
    obtain ⟨s, vs, ps, o, cap, VA, VP, g, hgg, HA⟩ := hrel
    obtain ⟨g, rfl⟩ : ∃ g', g = g' + 1 := ⟨g - 1, by have := HA.out.2.2.1; omega⟩
    have HP := Lib.hid (peek_any p e s o cap wr HA.out.1.pr)
    have hrun := HA.out.2.1
    unfold kd.parts at hrun
    dsimp only at hrun
    have HRUN := Lib.hid hrun
    clear hrun
    obtain ⟨t, ht⟩ : ∃ t, kd.peek e s = t := ⟨_, rfl⟩
    rw [ht] at HP HRUN
    have HT := Lib.hid ht
    clear ht
    go_wp2_with fail
    refine HP.out.mono ?_
    rintro ev w2 ⟨rfl, hb2⟩
    have HA2 := Lib.hid (HA.out.1.below hb2)
    clear hb2 HP
    go_wp2_with fail
    refine (kd.isValue_any t w2).mono ?_
    rintro ev w3 ⟨rfl, hb3⟩
    have HA3 := Lib.hid (HA2.out.below hb3)
    clear hb3 HA2
    cases hv : kd.isValue t
    case false =>
      rw [hv] at HRUN
      have HE : Hid (R = .ok (vs, ps) s) := Lib.hid HRUN.out.symm
      have HF := Lib.hid (HA3.out.fault 0 0)
      have HDN := Lib.hid (HA3.out.done hpq hql 0 0)
      have hfl := HA3.out.fl
      have hfu : w.heap.size < w3.heap.size := heap_lt hfl
      have d0 : w3.cell? ⟨w.heap.size, 0, none⟩ = some (.int .i64 0) := (cell_of_heap hfl).trans rfl
      have d1 : w3.cell? ⟨w.heap.size, 1, none⟩ = some (.int .i64 0) := (cell_of_heap hfl).trans rfl
      have e0 : w3.frozen? ⟨w.heap.size, 0, none⟩ = false := by simp [World.frozen?, hfl]
      have e1 : w3.frozen? ⟨w.heap.size, 1, none⟩ = false := by simp [World.frozen?, hfl]
      clear hfl HRUN hv
      go_wp2_with fail
      refine bodyPost_ret (results_cell_row rfl _ _ w.heap.size 30 _ (0, 0) _ rfl HF.out.1 Tryz.underlying30 rfl (by kernel_rfl)) rfl ?_
      rw [HE.out]
      exact ⟨rfl, HF.out.2, ⟨_, _, HDN.out.1⟩, _, _, HDN.out.2⟩
    case true =>
      rw [hv] at HRUN
      obtain ⟨r, hst⟩ : ∃ r, s.toks = t :: r := by
        have hv2 := hv
        rw [← HT.out] at hv2
        obtain ⟨t', r, h1, h2⟩ := kd.value_cons hv2
        exact ⟨r, by rw [h1, ← HT.out, h2]⟩
      have htk : kd.take s = ⟨r, s.begun⟩ := by unfold kd.take; rw [hst]; rfl
      have HK := Lib.hid (take_any p e s o cap w3 HA3.out.pr)
      rw [HT.out, htk] at HK
      have HRUN2 := HRUN.out
      rw [if_pos rfl, htk] at HRUN2
      have hshort := HA.out.2.2.2.short t (by rw [hst]; exact List.mem_cons_self)
      have HL1 : Hid (Lim ⟨r, s.begun⟩ (vs.length + ps.length + 1) ∧ r.length < g) := Lib.hid ⟨⟨by have := HA.out.2.2.2.few; rw [hst, List.length_cons] at this; dsimp only; omega, fun x hx => HA.out.2.2.2.short x (by rw [hst]; exact List.mem_cons_of_mem _ hx)⟩, by have := HA.out.2.2.1; rw [hst, List.length_cons] at this; omega⟩
      clear HRUN
      have HRUN := Lib.hid HRUN2
      clear HRUN2 htk hst HA HT hv
      go_wp2_with fail
      refine HK.out.mono ?_
      rintro ev w4 ⟨rfl, ⟨o1, cap1, hpr⟩, hfr⟩
      have HA4 := Lib.hid (HA3.out.taken hpq hql hpr hfr)
      clear HK HA3 hpr hfr
      have hb5 := below_one w4 (.cells #[.int .i64 t.kind, str t.text, .int .i64 t.int, .int .i64 t.at_] 82)
      have hT5 := heap_alloc_new w4 (.cells #[.int .i64 t.kind, str t.text, .int .i64 t.int, .int .i64 t.at_] 82)
      have HA5 := Lib.hid (HA4.out.below hb5)
      have HT5 := Lib.hid hT5
      have hm5 : w.heap.size ≤ w4.heap.size := HA4.out.fr.size
      clear hb5 hT5 HA4
      go_upto_region 4 with fail
      generalize w4.alloc (.cells #[.int .i64 t.kind, str t.text, .int .i64 t.int, .int .i64 t.at_] 82) = w5 at *
      generalize w4.heap.size = g6 at *
      obtain ⟨k0, k1, k2, k3⟩ := tokCells HT5.out
      go_wp2_with fail
      refine (kd.isName_any t w5).mono ?_
      rintro ev w6 ⟨rfl, hb6⟩
      have HA6 := Lib.hid (HA5.out.below hb6)
      have HT6 : Hid (w6.heap[g6]? = some (tokO t)) := Lib.hid ((hb6.block _ (heap_lt HT5.out)).trans HT5.out)
      clear hb6 HA5 HT5 k0 k1 k2 k3
      cases hn : kd.isName t
      case true =>
        rw [hn] at HRUN
        obtain ⟨t2, ht2⟩ : ∃ t2, kd.peek e ⟨r, s.begun⟩ = t2 := ⟨_, rfl⟩
        rw [ht2] at HRUN
        have HT2 := Lib.hid ht2
        have HP7 := Lib.hid (peek_any p e _ o1 cap1 w6 HA6.out.pr)
        rw [ht2] at HP7
        clear ht2
        go_wp2_with fail
        refine HP7.out.mono ?_
        rintro ev w7 ⟨rfl, hb7⟩
        have HA7 := Lib.hid (HA6.out.below hb7)
        have HT7 : Hid (w7.heap[g6]? = some (tokO t)) := Lib.hid ((hb7.block _ (heap_lt HT6.out)).trans HT6.out)
        clear hb7 HA6 HT6 HP7
        go_wp2_with fail
        refine (kd.isSign_any t2 61 w7).mono ?_
        rintro ev w8 ⟨rfl, hb8⟩
        have HA8 := Lib.hid (HA7.out.below hb8)
        have HT8 : Hid (w8.heap[g6]? = some (tokO t)) := Lib.hid ((hb8.block _ (heap_lt HT7.out)).trans HT7.out)
        clear hb8 HA7 HT7
        cases hs2 : kd.isSign t2 61
        case false =>
          rw [hs2] at HRUN
          go_upto_region 5 with fail
          have HV := Lib.hid (fun X => kd.value_any t X)
          obtain ⟨aoA, cA, rfl⟩ := own_slice HA8.out.ra
          have hnd := HA8.out.nd
          have n1 : w8.cell? ⟨q, 1, none⟩ = some (.slice aoA vs.length cA) := (cell_of_heap hnd).trans rfl
          have m1 : w8.frozen? ⟨q, 1, none⟩ = false := by simp [World.frozen?, hnd]
          have hqW := heap_lt hnd
          obtain ⟨k0, k1, k2, k3⟩ := tokCells HT8.out
          have hAR := HA8.out
          have hvl : vs.length ≤ 1048576 := by have := HL1.out.1.few; omega
          clear hnd
          go_region_law (first
            | (refine step_append_val rfl (.tmp 27) (.tmp 30) rfl w.heap.size (.slice aoA vs.length cA) vs rfl HP9.out.1 w9.heap.size (kd.value t) rfl HP9.out.2.1 hvl HP9.out.2.2 ?_; intro V' w10 r1 r2; obtain ⟨aoV, cV, rfl⟩ := own_slice r1; have hnd10 := (HA9.out.below (below_one _ _)).node_arg hql r2; have HX := Lib.hid ((HA9.out.below (below_one _ _)).arg hpq hql (kd.value t) r1 ((Fr.of_grown r2).wider (fun k _ e => e))); have n10 : w10.cell? ⟨q, 1, none⟩ = some (.slice aoA vs.length cA) := (cell_of_heap hnd10).trans rfl; have m10 : w10.frozen? ⟨q, 1, none⟩ = false := (by simp [World.frozen?, hnd10]); have hq10 : q < w10.heap.size := heap_lt hnd10; clear hnd10 r1 r2)
            | (go_simp; go_at_call 90; refine (HV.out _).mono ?_; rintro ev w9 ⟨rfl, hb9⟩; have HA9 := Lib.hid (hAR.drewN_below hb9); have HP9 := Lib.hid (val_laid HA9.out.ra (kd.value t) HA9.out.fr.size); have n9 : w9.cell? ⟨q, 1, none⟩ = some (.slice aoA vs.length cA) := (cell_of_heap HA9.out.nd).trans rfl; have hq9 : q < w9.heap.size := heap_lt HA9.out.nd; clear hb9))
          all_goals
            go_wp2_with fail
            go_roundg g
            case measure => omega
            case rel => exact ⟨_, _, _, _, _, _, _, g, Nat.le_refl _, Lib.hid ⟨HX.out, by simpa using HRUN.out, HL1.out.2, by rw [List.length_append, List.length_singleton]; rw [show vs.length + 1 + ps.length = vs.length + ps.length + 1 by omega]; exact HL1.out.1⟩⟩
        case true =>
          rw [hs2] at HRUN
          have hrun3 := HRUN.out
          rw [if_neg (by decide)] at hrun3
          obtain ⟨r2, hr2⟩ : ∃ r2, r = t2 :: r2 := by
            have h2 := HT2.out
            cases r with
            | nil => rw [← h2] at hs2; cases hs2
            | cons a r2 => exact ⟨r2, by rw [← h2]; rfl⟩
          subst hr2
          have HRUN3 := Lib.hid hrun3
          clear hrun3 hs2 HRUN HT2
          obtain ⟨k0, k1, k2, k3⟩ := tokCells HT8.out
          have HAG := Lib.hid (again_any t.text _ _ _ w8 HA8.out.ag (by omega) (by have := HL1.out.1.few; rw [List.length_map]; omega))
          have hany : ((ps.map (·.name)).any fun n => decide (n = t.text)) = ps.any fun x => decide (x.name = t.text) := by rw [List.any_map]; rfl
          rw [hany] at HAG
          clear hany
          go_wp2_with fail
          refine HAG.out.mono ?_
          rintro ev w9 ⟨rfl, ha9, hf9⟩
          have HA9 := Lib.hid (HA8.out.told hpq hql ha9 hf9)
          have HT9 : Hid (w9.heap[g6]? = some (tokO t)) := Lib.hid ((hf9.block g6 (heap_lt HT8.out) (fun e => by
            obtain ⟨es, ck, hm⟩ := HA8.out.ag.mapObj
            have := HT8.out
            rw [e, hm] at this
            cases this)).trans HT8.out)
          clear ha9 hf9 HA8 HT8 k0 k1 k2 k3
          cases hd : ps.any fun x => decide (x.name = t.text)
          case true =>
            have hrun3 := HRUN3.out
            rw [if_pos hd] at hrun3
            have HE := Lib.hid hrun3
            clear hrun3 HRUN3 hd
            obtain ⟨k0, k1, k2, k3⟩ := tokCells HT9.out
            go_wp2_with fail
            refine (kd.fault_any 81 t w9).mono ?_
            rintro ev w10 ⟨rfl, hb10⟩
            have HA10 := Lib.hid (HA9.out.below hb10)
            clear hb10 HA9 k0 k1 k2 k3
            have HF := Lib.hid (HA10.out.fault 81 t.at_)
            have hfl := HA10.out.fl
            have hfu : w.heap.size < w10.heap.size := heap_lt hfl
            have d0 : w10.cell? ⟨w.heap.size, 0, none⟩ = some (.int .i64 0) := (cell_of_heap hfl).trans rfl
            have d1 : w10.cell? ⟨w.heap.size, 1, none⟩ = some (.int .i64 0) := (cell_of_heap hfl).trans rfl
            have e0 : w10.frozen? ⟨w.heap.size, 0, none⟩ = false := by simp [World.frozen?, hfl]
            have e1 : w10.frozen? ⟨w.heap.size, 1, none⟩ = false := by simp [World.frozen?, hfl]
            clear hfl
            go_wp2_with fail
            refine bodyPost_ret (results_cell_row rfl _ _ w.heap.size 30 _ (0, 0) _ rfl HF.out.1 Tryz.underlying30 rfl (by kernel_rfl)) rfl ?_
            rw [← HE.out]
            exact ⟨rfl, HF.out.2, by decide⟩
          case false =>
            have hrun3 := HRUN3.out
            rw [if_neg (by rw [hd]; decide)] at hrun3
            clear HRUN3 hd
            have HK := Lib.hid (take_any p e _ o1 cap1 w9 HA9.out.pr)
            have htk : kd.take ⟨t2 :: r2, s.begun⟩ = ⟨r2, s.begun⟩ := rfl
            rw [htk] at HK hrun3
            obtain ⟨v, hv⟩ : ∃ v, kd.peek e ⟨r2, s.begun⟩ = v := ⟨_, rfl⟩
            rw [hv] at hrun3
            have HV := Lib.hid hv
            have HRUN4 := Lib.hid hrun3
            clear hrun3 htk hv
            go_wp2_with fail
            refine HK.out.mono ?_
            rintro ev w10 ⟨rfl, ⟨o2, cap2, hpr⟩, hfr⟩
            have HA10 := Lib.hid (HA9.out.taken hpq hql hpr hfr)
            have HT10 : Hid (w10.heap[g6]? = some (tokO t)) := Lib.hid ((hfr.block g6 (heap_lt HT9.out) (show ¬ g6 = p by omega)).trans HT9.out)
            clear hpr hfr HK HA9 HT9
            have HK := Lib.hid (take_any p e _ o2 cap2 w10 HA10.out.pr)
            rw [HV.out] at HK
            go_wp2_with fail
            refine HK.out.mono ?_
            rintro ev w11 ⟨rfl, ⟨o3, cap3, hpr⟩, hfr⟩
            have HA11 := Lib.hid (HA10.out.taken hpq hql hpr hfr)
            have HT11 : Hid (w11.heap[g6]? = some (tokO t)) := Lib.hid ((hfr.block g6 (heap_lt HT10.out) (show ¬ g6 = p by omega)).trans HT10.out)
            clear hpr hfr HK HA10 HT10
            have hb12 := below_one w11 (tokO v)
            have hT12 := heap_alloc_new w11 (tokO v)
            have HA12 := Lib.hid (HA11.out.below hb12)
            have HT12 := Lib.hid (And.intro ((hb12.block _ (heap_lt HT11.out)).trans HT11.out) hT12)
            have hm12 : w.heap.size ≤ w11.heap.size := HA11.out.fr.size
            clear hb12 hT12 HA11 HT11
            go_upto_region 10 with fail
            generalize w11.alloc (tokO v) = w12 at *
            generalize w11.heap.size = g7 at *
            obtain ⟨l0, l1, l2, l3⟩ := tokCells HT12.out.2
            go_wp2_with fail
            refine (kd.isValue_any v w12).mono ?_
            rintro ev w13 ⟨rfl, hb13⟩
            have HA13 := Lib.hid (HA12.out.below hb13)
            have HT13 : Hid (w13.heap[g6]? = some (tokO t) ∧ w13.heap[g7]? = some (tokO v)) := Lib.hid ⟨(hb13.block _ (heap_lt HT12.out.1)).trans HT12.out.1, (hb13.block _ (heap_lt HT12.out.2)).trans HT12.out.2⟩
            clear hb13 HA12 HT12 l0 l1 l2 l3
            obtain ⟨k0, k1, k2, k3⟩ := tokCells HT13.out.1
            obtain ⟨l0, l1, l2, l3⟩ := tokCells HT13.out.2
            cases hv2 : kd.isValue v
            case false =>
              have hrun4 := HRUN4.out
              rw [if_neg (by rw [hv2]; decide)] at hrun4
              have HE := Lib.hid hrun4
              clear hrun4 HRUN4 hv2 k0 k1 k2 k3
              go_wp2_with fail
              refine (kd.stray_any v w13).mono ?_
              rintro ev w14 ⟨rfl, hb14⟩
              have HA14 := Lib.hid (HA13.out.below hb14)
              clear hb14 HA13 l0 l1 l2 l3
              have HF := Lib.hid (HA14.out.fault (kd.stray v : Nat) v.at_)
              have hfl := HA14.out.fl
              have hfu : w.heap.size < w14.heap.size := heap_lt hfl
              have d0 : w14.cell? ⟨w.heap.size, 0, none⟩ = some (.int .i64 0) := (cell_of_heap hfl).trans rfl
              have d1 : w14.cell? ⟨w.heap.size, 1, none⟩ = some (.int .i64 0) := (cell_of_heap hfl).trans rfl
              have e0 : w14.frozen? ⟨w.heap.size, 0, none⟩ = false := by simp [World.frozen?, hfl]
              have e1 : w14.frozen? ⟨w.heap.size, 1, none⟩ = false := by simp [World.frozen?, hfl]
              clear hfl
              go_wp2_with fail
              refine bodyPost_ret (results_cell_row rfl _ _ w.heap.size 30 _ (0, 0) _ rfl HF.out.1 Tryz.underlying30 rfl (by kernel_rfl)) rfl ?_
              rw [← HE.out]
              exact ⟨rfl, HF.out.2, by unfold kd.stray; split <;> decide⟩
            case true =>
              have hrun4 := HRUN4.out
              rw [if_pos hv2] at hrun4
              obtain ⟨r3, hr3⟩ : ∃ r3, r2 = v :: r3 := by
                have h2 := HV.out
                cases r2 with
                | nil => rw [← h2] at hv2; cases hv2
                | cons a r3 => exact ⟨r3, by rw [← h2]; rfl⟩
              subst hr3
              have htk : kd.take ⟨v :: r3, s.begun⟩ = ⟨r3, s.begun⟩ := rfl
              rw [htk] at hrun4
              have HRUN5 := Lib.hid hrun4
              have HA14 : Hid (PA w w13 p q e nm VK ⟨r3, s.begun⟩ vs ps ((ps ++ [({ name := t.text, val := kd.value v } : kd.Prp)]).map (·.name)) o3 cap3 VA VP) := Lib.hid (by
                have := HA13.out
                rw [htk] at this
                rw [List.map_append]
                exact this)
              clear hrun4 HRUN4 hv2 htk HA13 HV
              go_upto_region 12 with fail
              have HV := Lib.hid (fun X => kd.value_any v X)
              obtain ⟨aoA, cA, rfl⟩ := own_slice HA14.out.rp
              have hnd := HA14.out.nd
              have n1 : w13.cell? ⟨q, 2, none⟩ = some (.slice aoA ps.length cA) := (cell_of_heap hnd).trans rfl
              have m1 : w13.frozen? ⟨q, 2, none⟩ = false := by simp [World.frozen?, hnd]
              have hqW := heap_lt hnd
              have hg6W := heap_lt HT13.out.1
              have hAR := HA14.out
              have hTR := HT13.out.1
              have hvl : ps.length ≤ 1048576 := by have := HL1.out.1.few; omega
              clear hnd
              go_region_law (first
                | (refine step_append_prp rfl (.tmp 53) (.tmp 59) rfl w.heap.size (.slice aoA ps.length cA) ps rfl HP9.out.1 w14.heap.size { name := t.text, val := kd.value v } rfl HP9.out.2.1 hvl HP9.out.2.2 ?_; intro V' w15 r1 r2; obtain ⟨aoV, cV, rfl⟩ := own_slice r1; have hnd10 := (HA9.out.below (below_one _ _)).node_prop hql r2; have HX := Lib.hid ((HA9.out.below (below_one _ _)).prop hpq hql { name := t.text, val := kd.value v } r1 ((Fr.of_grown r2).wider (fun k _ e => e))); have n10 : w15.cell? ⟨q, 2, none⟩ = some (.slice aoA ps.length cA) := (cell_of_heap hnd10).trans rfl; have m10 : w15.frozen? ⟨q, 2, none⟩ = false := (by simp [World.frozen?, hnd10]); have hq10 : q < w15.heap.size := heap_lt hnd10; clear hnd10 r1 r2)
                | (go_simp; go_at_call 90; refine (HV.out _).mono ?_; rintro ev w14 ⟨rfl, hb9⟩; have HA9 := Lib.hid (hAR.drewN_below hb9); have HP9 := Lib.hid (prp_laid HA9.out.rp { name := t.text, val := kd.value v } HA9.out.fr.size); have n9 : w14.cell? ⟨q, 2, none⟩ = some (.slice aoA ps.length cA) := (cell_of_heap HA9.out.nd).trans rfl; have hq9 : q < w14.heap.size := heap_lt HA9.out.nd; have hT9 : w14.heap[g6]? = some (tokO t) := (hb9.block g6 hg6W).trans hTR; have j1 : w14.cell? ⟨g6, 1, none⟩ = some (str t.text) := (tokCells hT9).2.1; have hg9 : g6 < w14.heap.size := heap_lt hT9; clear hb9 hT9))
              all_goals
                go_wp2_with fail
                go_roundg g
                case measure => omega
                case rel => exact ⟨_, _, _, _, _, _, _, g, Nat.le_refl _, Lib.hid ⟨HX.out, HRUN5.out, by have := HL1.out.2; simp only [List.length_cons] at this; dsimp only; omega, by
                  have := HL1.out.1
                  refine ⟨by have := this.few; simp only [List.length_cons, List.length_append, List.length_nil] at this ⊢; omega, fun x hx => this.short x (List.mem_cons_of_mem _ (List.mem_cons_of_mem _ hx))⟩⟩⟩
      case false =>
        rw [hn] at HRUN
        go_upto_region 5 with fail
        have HV := Lib.hid (fun X => kd.value_any t X)
        obtain ⟨aoA, cA, rfl⟩ := own_slice HA6.out.ra
        have hnd := HA6.out.nd
        have n1 : w6.cell? ⟨q, 1, none⟩ = some (.slice aoA vs.length cA) := (cell_of_heap hnd).trans rfl
        have m1 : w6.frozen? ⟨q, 1, none⟩ = false := by simp [World.frozen?, hnd]
        have hqW := heap_lt hnd
        obtain ⟨k0, k1, k2, k3⟩ := tokCells HT6.out
        have hAR := HA6.out
        have hvl : vs.length ≤ 1048576 := by have := HL1.out.1.few; omega
        clear hnd
        go_region_law (first
          | (refine step_append_val rfl (.tmp 27) (.tmp 30) rfl w.heap.size (.slice aoA vs.length cA) vs rfl HP9.out.1 w9.heap.size (kd.value t) rfl HP9.out.2.1 hvl HP9.out.2.2 ?_; intro V' w10 r1 r2; obtain ⟨aoV, cV, rfl⟩ := own_slice r1; have hnd10 := (HA9.out.below (below_one _ _)).node_arg hql r2; have HX := Lib.hid ((HA9.out.below (below_one _ _)).arg hpq hql (kd.value t) r1 ((Fr.of_grown r2).wider (fun k _ e => e))); have n10 : w10.cell? ⟨q, 1, none⟩ = some (.slice aoA vs.length cA) := (cell_of_heap hnd10).trans rfl; have m10 : w10.frozen? ⟨q, 1, none⟩ = false := (by simp [World.frozen?, hnd10]); have hq10 : q < w10.heap.size := heap_lt hnd10; clear hnd10 r1 r2)
          | (go_simp; go_at_call 90; refine (HV.out _).mono ?_; rintro ev w9 ⟨rfl, hb9⟩; have HA9 := Lib.hid (hAR.drewN_below hb9); have HP9 := Lib.hid (val_laid HA9.out.ra (kd.value t) HA9.out.fr.size); have n9 : w9.cell? ⟨q, 1, none⟩ = some (.slice aoA vs.length cA) := (cell_of_heap HA9.out.nd).trans rfl; have hq9 : q < w9.heap.size := heap_lt HA9.out.nd; clear hb9))
        all_goals
          go_wp2_with fail
          go_roundg g
          case measure => omega
          case rel => exact ⟨_, _, _, _, _, _, _, g, Nat.le_refl _, Lib.hid ⟨HX.out, by simpa using HRUN.out, HL1.out.2, by rw [List.length_append, List.length_singleton]; rw [show vs.length + 1 + ps.length = vs.length + ps.length + 1 by omega]; exact HL1.out.1⟩⟩
end Go.Proofs.YthmiaamjbokljaaGreatDoor
