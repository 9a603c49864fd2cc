/- The bytes that lead from one style to another, as the document has them. -/
import Derived.Test.YtgkodjkhhmcnnaaDoorSgrBtw
namespace Go.Proofs.YtgkodjkhhmcnnaaDoor.S5
open Go.RowKit
set_option maxRecDepth 100000 in
set_option maxHeartbeats 1600000 in
theorem refBetween_any (f g a f' g' a' : Int) (w : World) :
    Calls Tryd.prog 14 #[.agg #[.int .i64 f, .int .i64 g, .int .i64 a], .agg #[.int .i64 f', .int .i64 g', .int .i64 a']] w fun e w' => ∃ ro rc, e = .returned (.slice ro (sg.btw ⟨f, g, a⟩ ⟨f', g', a'⟩).length rc) ∧ Bts w' ro (sg.btw ⟨f, g, a⟩ ⟨f', g', a'⟩).length rc (sg.btw ⟨f, g, a⟩ ⟨f', g', a'⟩) ∧ Below w.heap.size w w' := by
  have z1 := eqgst
  have z2 := run_eq_st
  have HA := Lib.hid (fun W => clean_any f g a W)
  have HA' := Lib.hid (fun W => clean_any f' g' a' W)
  have HP := Lib.hid (fun W => refParams_any f' g' a' W)
  obtain ⟨R, hR⟩ : ∃ R, sg.btw ⟨f, g, a⟩ ⟨f', g', a'⟩ = R := ⟨_, rfl⟩
  rw [hR]
  have HR := Lib.hid hR
  have HD : Hid (sg.btw ⟨f, g, a⟩ ⟨f', g', a'⟩ = if sg.known ⟨f, g, a⟩ = sg.known ⟨f', g', a'⟩ then [] else es.csiB 0 (sg.params ⟨f', g', a'⟩) 109) := Lib.hid rfl
  generalize sg.known ⟨f, g, a⟩ = s at *
  generalize sg.known ⟨f', g', a'⟩ = t at *
  have z3 : eq3 s.fg s.bg s.at_ t.fg t.bg t.at_ = decide (s = t) := eq3_dec s t
  have hT := two_new w ⟨f, g, a⟩ ⟨f', g', a'⟩
  clear hR
  go_enter Tryd.func14, Tryd.ntmps14
  go_upto_region 1 with fail
  generalize ((w.alloc (stObj ⟨f, g, a⟩)).alloc (stObj ⟨f', g', a'⟩)) = W at *
  generalize hB : w.heap.size = B at *
  have HB := Lib.hid hB; clear hB
  obtain ⟨k0, k1, k2, f0, f1, f2, u0⟩ := hT.st0.cells
  obtain ⟨l0, l1, l2, g0, g1, g2, u1⟩ := hT.st1.cells
  have HT := Lib.hid hT; clear hT
  have TD : Two w W.drew B ⟨f, g, a⟩ ⟨f', g', a'⟩ := ⟨HT.out.st0, HT.out.st1, HT.out.bel.drew⟩
  have HTD := Lib.hid TD; clear TD
  go_cut [9] from 5 to 12 (fun s9 wx => s9 = .bool (decide (s = t)) ∧ Hid (Two w wx B ⟨f, g, a⟩ ⟨f', g', a'⟩))
  case first =>
    go_region_with (first
      | (go_at_call_of 15 (Value.agg #[.int .i64 f, .int .i64 g, .int .i64 a]); refine (HA.out _).mono ?_; rintro e wa ⟨rfl, hba⟩; have ta := (by first | exact HTD.out.step hba | exact Two.step tb.out hba : Two w wa B ⟨f, g, a⟩ ⟨f', g', a'⟩); obtain ⟨ka0, ka1, ka2, fa0, fa1, fa2, ua0⟩ := ta.st0.cells; obtain ⟨la0, la1, la2, ga0, ga1, ga2, ua1⟩ := ta.st1.cells; replace ta := Lib.hid ta)
      | (go_at_call_of 15 (Value.agg #[.int .i64 f', .int .i64 g', .int .i64 a']); refine (HA'.out _).mono ?_; rintro e wb ⟨rfl, hbb⟩; have tb := (by first | exact HTD.out.step hbb | exact Two.step ta.out hbb : Two w wb B ⟨f, g, a⟩ ⟨f', g', a'⟩); obtain ⟨kb0, kb1, kb2, fb0, fb1, fb2, ub0⟩ := tb.st0.cells; obtain ⟨lb0, lb1, lb2, gb0, gb1, gb2, ub1⟩ := tb.st1.cells; replace tb := Lib.hid tb))
    all_goals
      go_wp2_with fail
      go_meet
      first
        | exact ⟨by first | rfl | simp, tb⟩
        | exact ⟨by first | rfl | simp, ta⟩
  case rest =>
  obtain ⟨rfl, hcut⟩ := hcut
  clear k0 k1 k2 f0 f1 f2 u0 l0 l1 l2 g0 g1 g2 u1 HTD HT HA HA' z3
  obtain ⟨k0, k1, k2, f0, f1, f2, u0⟩ := hcut.out.st0.cells
  obtain ⟨l0, l1, l2, g0, g1, g2, u1⟩ := hcut.out.st1.cells
  have HBW : Hid (Below w.heap.size w wc) := Lib.hid (by rw [HB.out]; exact hcut.out.bel)
  clear hcut
  by_cases hst : s = t
  · have HR2 : Hid (R = []) := Lib.hid (by rw [← HR.out, HD.out, if_pos hst])
    rw [decide_eq_true hst]
    clear hst
    go_wp2_with fail
    go_ret
    rw [HR2.out]
    exact ⟨none, 0, rfl, Nums.nil _ _, HB.out ▸ HBW.out⟩
  have HR2 : Hid (es.csiB 0 (sg.params ⟨f', g', a'⟩) 109 = R) := Lib.hid (by rw [← HR.out, HD.out, if_neg hst])
  rw [decide_eq_false hst]
  clear hst
  go_wp2_with fail
  refine (HP.out _).mono ?_
  rintro e w2 ⟨o2, n2, c2, rfl, hi2, hb2⟩
  have HB2 := Lib.hid (HBW.out.trans (hb2.mono HBW.out.size))
  have HC := refCsi_any 0 109 (sg.params ⟨f', g', a'⟩) o2 n2 c2 w2 hi2.nums (by decide)
  rw [show (((109 : UInt8).toNat : Nat) : Int) = 109 from rfl, show ((0 : Nat) : Int) = 0 from rfl, HR2.out] at HC
  replace HC := Lib.hid HC
  clear k0 k1 k2 f0 f1 f2 u0 l0 l1 l2 g0 g1 g2 u1 hi2 hb2
  go_wp2_with fail
  refine HC.out.mono ?_
  rintro e w3 ⟨ro, rc, rfl, hO, hb3⟩
  have HO := Lib.hid hO
  have HB3 := Lib.hid (HB2.out.trans (hb3.mono HB2.out.size))
  clear hO hb3 HC
  go_wp2_with fail
  go_ret
  exact ⟨ro, rc, rfl, HO.out, HB.out ▸ HB3.out⟩
/-- what the bytes say -/
def sg.acts (s t : sg.St) : List es.Act := if sg.known s = sg.known t then [] else [{ kind := 4, final := 109, params := sg.params t }]
theorem sg.clamp_params (t : sg.St) : ((sg.params t).take 16).map es.clampN = sg.params t := by
  rw [List.take_of_length_le (sg.params_len t)]
  have h : ∀ z ∈ sg.params t, es.clampN z = z := fun z hz => by
    have hr := sg.right_known t
    simp only [sg.right, Bool.and_eq_true] at hr
    have hb : 0 ≤ z ∧ z ≤ 1000 := by
      unfold sg.params at hz
      simp only [List.mem_append, List.mem_cons] at hz
      rcases hz with (hz | hz) | hz
      · rcases hz with rfl | h
        · omega
        · have := marksP_small _ z h; omega
      · have := colourP_small 30 (by decide) hr.1.1.1 z hz; omega
      · have := colourP_small 40 (by decide) hr.1.1.2 z hz; omega
    unfold es.clampN
    rw [if_neg (by omega)]
    omega
  exact List.map_congr_left h |>.trans (List.map_id _)
theorem sg.params_head (t : sg.St) : ¬ ((sg.params t).length = 1 ∧ (sg.params t).getD 0 0 < 0) := by
  intro h
  have : (sg.params t).getD 0 0 = 0 := rfl
  omega
theorem sg.feed_btw (s t : sg.St) : es.feed {} (sg.btw s t) = ({}, sg.acts s t) := by
  unfold sg.btw sg.acts
  split
  · rfl
  · rw [es.feed_csiB 0 (sg.params t) 109 (.inl rfl) (by decide) (by decide) (sg.params_head t), sg.clamp_params]
    rfl
end Go.Proofs.YtgkodjkhhmcnnaaDoor.S5
