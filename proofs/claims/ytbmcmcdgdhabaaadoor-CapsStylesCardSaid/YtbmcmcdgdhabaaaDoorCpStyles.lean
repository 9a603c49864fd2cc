/- CapsStyles: the walk. -/
import Derived.Test.YtbmcmcdgdhabaaaDoorCpAlive
import Derived.Test.YtbmcmcdgdhabaaaDoorCpRefWidth
namespace Go.Proofs.YtbmcmcdgdhabaaaDoor
open Go.RowKit
theorem cp.S1 (x y c : Int) : cp.ask 1 0 [x, y, c] [] = if (cp.side x && cp.side y && cp.narrow c) = true then (⟨0, 0, x, y, 0, IntKind.i32.wrap c, 0, 0, 0⟩, [], 0) else (⟨0, 0, 0, 0, 0, 0, 0, 0, 0⟩, [], -3) := by
  unfold cp.ask
  rw [if_pos ⟨rfl, rfl⟩, if_pos (by decide)]
  show (if (cp.side x && cp.side y && cp.narrow c) = true then (if cp.within 0 0 0 = true then _ else _) else _) = _
  rw [if_pos (show cp.within 0 0 0 = true by decide)]
  rfl
theorem cp.S2 (f b t : Int) : cp.ask 1 1 [f, b, t] [] = if S5.sg.right ⟨f, b, t⟩ = true then (⟨1, 0, 0, 0, 0, 0, f, b, t⟩, [], 0) else (⟨0, 0, 0, 0, 0, 0, 0, 0, 0⟩, [], -3) := by
  unfold cp.ask
  rw [if_pos ⟨rfl, rfl⟩, if_pos (by decide)]
  show (if S5.sg.right ⟨f, b, t⟩ = true then (if cp.within 0 0 0 = true then _ else _) else _) = _
  rw [if_pos (show cp.within 0 0 0 = true by decide)]
  rfl
theorem cp.narrow_rng (c : Int) : cp.narrow c = (decide (0 ≤ c) && decide (c ≤ 1114111) && (wd c == 1)) := by
  unfold cp.narrow
  by_cases h : 0 ≤ c ∧ c ≤ 1114111
  · have hw : IntKind.i32.wrap c = c := by rw [IntKind.wrap_i32]; omega
    rw [hw, decide_eq_true h.1, decide_eq_true h.2]
    simp
  · have hz : (decide (0 ≤ c) && decide (c ≤ 1114111) && (wd c == 1)) = false := by
      by_cases h0 : 0 ≤ c
      · rw [decide_eq_false (show ¬ c ≤ 1114111 by omega)]; simp
      · rw [decide_eq_false h0]; simp
    rw [hz]
    by_cases e : c = IntKind.i32.wrap c
    · have hb := IntKind.wrap_i32 c
      have hn : inAny c narrowL = true := (narrow_iff c).2 (by omega)
      have hwd : wd c = 0 := by unfold wd; rw [if_pos hn]
      rw [← e, hwd]
      simp
    · have : (c == IntKind.i32.wrap c) = false := by simpa using e
      rw [this, Bool.false_and]
theorem cp.side_rng (v : Int) : cp.side v = (decide (0 ≤ v) && decide (v < 200)) := by
  unfold cp.side cp.btw
  congr 1
  rw [Bool.eq_iff_iff]
  simp
  omega
theorem colour15_any (c : Int) (w : World) :
    Calls Tryd.prog 11 #[.int .i64 c] w fun e w' => e = .returned (.bool (S5.sg.rightC c)) ∧ w' = w := by
  go_enter Tryd.func11, Tryd.ntmps11
  go_wp2
  all_goals
    go_ret
    exact ⟨ret_bool (by rw [Bool.eq_iff_iff]; simp [S5.sg.rightC]; try omega), rfl⟩
set_option maxRecDepth 100000 in
set_option maxHeartbeats 6400000 in
theorem styles_any (x y c f b t : Int) (w : World) (hv : VT w) :
    Calls Tryd.prog 5 #[.int .i64 x, .int .i64 y, .int .i64 c, .agg #[.int .i64 f, .int .i64 b, .int .i64 t]] w fun e w' => e = .returned (.bool true) ∧ Below w.heap.size w w' := by
  have HV := Lib.hid (fun (W : World) (hb : Below w.heap.size w W) => hv.below hb)
  have hb1 := below_one w (.cells #[.int .i64 f, .int .i64 b, .int .i64 t] 26)
  have HB1 := Lib.hid hb1
  have HS1 := Lib.hid (heap_alloc_new w (.cells #[.int .i64 f, .int .i64 b, .int .i64 t] 26))
  have HAF : Hid ((cp.side x && cp.side y && cp.narrow c) = (decide (0 ≤ x) && decide (x < 200) && (decide (0 ≤ y) && decide (y < 200)) && (decide (0 ≤ c) && decide (c ≤ 1114111) && (wd c == 1)))) := Lib.hid (by rw [cp.side_rng, cp.side_rng, cp.narrow_rng])
  have HBF : Hid (S5.sg.right ⟨f, b, t⟩ = (S5.sg.rightC f && S5.sg.rightC b && decide (0 ≤ t) && decide (t ≤ 31))) := Lib.hid rfl
  have HA0 := Lib.hid (fun (W : World) (hb : Below w.heap.size w W) (V : Value) (ha : NsIn W (fun _ => True) V [x, y, c]) => ask_then _ _ _ _ 1 0 [x, y, c] [] _ (cp.S1 x y c) W (HV.out W hb).ht (HV.out W hb).nt ha (RowIn.nil W (fun _ => True) 1))
  have HA1 := Lib.hid (fun (W : World) (hb : Below w.heap.size w W) (V : Value) (ha : NsIn W (fun _ => True) V [f, b, t]) => ask_then _ _ _ _ 1 1 [f, b, t] [] _ (cp.S2 f b t) W (HV.out W hb).ht (HV.out W hb).nt ha (RowIn.nil W (fun _ => True) 1))
  generalize (cp.side x && cp.side y && cp.narrow c) = A at *
  generalize S5.sg.right ⟨f, b, t⟩ = B at *
  obtain ⟨R0, hR0⟩ : ∃ R0 : cp.Call × List UInt8 × Int, (if A = true then (⟨0, 0, x, y, 0, IntKind.i32.wrap c, 0, 0, 0⟩, [], 0) else (⟨0, 0, 0, 0, 0, 0, 0, 0, 0⟩, [], -3)) = R0 := ⟨_, rfl⟩
  obtain ⟨R1, hR1⟩ : ∃ R1 : cp.Call × List UInt8 × Int, (if B = true then (⟨1, 0, 0, 0, 0, 0, f, b, t⟩, [], 0) else (⟨0, 0, 0, 0, 0, 0, 0, 0, 0⟩, [], -3)) = R1 := ⟨_, rfl⟩
  rw [hR0] at HA0
  rw [hR1] at HA1
  have hn0 : R0.2.1 = [] := by rw [← hR0]; split <;> rfl
  have hn1 : R1.2.1 = [] := by rw [← hR1]; split <;> rfl
  obtain ⟨⟨p0, p1, p2, p3, p4, p5, p6, p7, p8⟩, b1, e1⟩ := R0
  obtain ⟨⟨s0, s1, s2, s3, s4, s5, s6, s7, s8⟩, b2, e2⟩ := R1
  dsimp only at hn0 hn1
  subst hn0 hn1
  have HR0 := Lib.hid hR0
  have HR1 := Lib.hid hR1
  clear hR0 hR1 hb1 hv
  go_enter Tryd.func5, Tryd.ntmps5
  go_upto_region 1 with fail
  generalize w.alloc (.cells #[.int .i64 f, .int .i64 b, .int .i64 t] 26) = w1 at *
  have HAL := Lib.hid (alive_any w1 (HV.out w1 HB1.out))
  go_wp2_with fail
  refine HAL.out.mono ?_
  rintro e w2 ⟨rfl, hb2⟩
  have HB2 := Lib.hid (HB1.out.trans (hb2.mono HB1.out.size))
  have HS2 := Lib.hid ((hb2.block _ (heap_lt HS1.out)).trans HS1.out)
  clear hb2 HAL HB1 HS1
  have hb3 := below_one w2 (.cells #[.int .i64 x, .int .i64 y, .int .i64 c] 2)
  have HC2 := Lib.hid (HA0.out _ (HB2.out.trans (hb3.mono HB2.out.size)) _ (NsIn.new w2 [x, y, c] #[.int .i64 x, .int .i64 y, .int .i64 c] rfl 3 rfl (by decide)))
  have HB3 := Lib.hid hb3
  clear hb3 HA0
  go_wp2_with fail
  refine HC2.out.mono ?_
  rintro e w3 ⟨VB1, rfl, hr3, hb3⟩
  obtain ⟨o1, c1, rfl⟩ : ∃ o c, VB1 = .slice o 0 c := own_slice hr3
  have hb4 := below_one w3 (callO ⟨p0, p1, p2, p3, p4, p5, p6, p7, p8⟩ (.slice o1 0 c1))
  have hb34 := HB3.out.trans ((hb3.trans (hb4.mono hb3.size)).mono HB3.out.size)
  have HB4 := Lib.hid (HB2.out.trans (hb34.mono HB2.out.size))
  have HS4 := Lib.hid ((hb34.block _ (heap_lt HS2.out)).trans HS2.out)
  have HN4 := Lib.hid (heap_alloc_new w3 (callO ⟨p0, p1, p2, p3, p4, p5, p6, p7, p8⟩ (.slice o1 0 c1)))
  clear hr3 hb3 hb4 hb34 HC2 HB3 HB2 HS2
  dsimp only
  go_upto_region 4 with fail
  generalize w3.alloc (callO ⟨p0, p1, p2, p3, p4, p5, p6, p7, p8⟩ (.slice o1 0 c1)) = w4 at *
  generalize w3.heap.size = q1 at *
  have z0 : w4.cell? ⟨w.heap.size, 0, none⟩ = some (.int .i64 f) := (cell_of_heap HS4.out).trans rfl
  have z1 : w4.cell? ⟨w.heap.size, 1, none⟩ = some (.int .i64 b) := (cell_of_heap HS4.out).trans rfl
  have z2 : w4.cell? ⟨w.heap.size, 2, none⟩ = some (.int .i64 t) := (cell_of_heap HS4.out).trans rfl
  have hlz := heap_lt HS4.out
  have hb5 := below_one w4 (.cells #[.int .i64 f, .int .i64 b, .int .i64 t] 2)
  have HC4 := Lib.hid (HA1.out _ (HB4.out.trans (hb5.mono HB4.out.size)) _ (NsIn.new w4 [f, b, t] #[.int .i64 f, .int .i64 b, .int .i64 t] rfl 3 rfl (by decide)))
  have HB5 := Lib.hid hb5
  clear hb5 HA1
  go_wp2_with fail
  refine HC4.out.mono ?_
  rintro e w5 ⟨VB2, rfl, hr5, hb5⟩
  obtain ⟨o2, c2, rfl⟩ : ∃ o c, VB2 = .slice o 0 c := own_slice hr5
  have hb6 := below_one w5 (callO ⟨s0, s1, s2, s3, s4, s5, s6, s7, s8⟩ (.slice o2 0 c2))
  have hb56 := HB5.out.trans ((hb5.trans (hb6.mono hb5.size)).mono HB5.out.size)
  have HB6 := Lib.hid (HB4.out.trans (hb56.mono HB4.out.size))
  have HS6 := Lib.hid ((hb56.block _ (heap_lt HS4.out)).trans HS4.out)
  have HN6 := Lib.hid (And.intro ((hb56.block _ (heap_lt HN4.out)).trans HN4.out) (heap_alloc_new w5 (callO ⟨s0, s1, s2, s3, s4, s5, s6, s7, s8⟩ (.slice o2 0 c2))))
  clear hr5 hb5 hb6 hb56 HC4 HB5 HB4 HS4 HN4 z0 z1 z2 hlz
  dsimp only
  go_upto_region 5 with fail
  generalize w5.alloc (callO ⟨s0, s1, s2, s3, s4, s5, s6, s7, s8⟩ (.slice o2 0 c2)) = w6 at *
  generalize w5.heap.size = q2 at *
  have z0 : w6.cell? ⟨w.heap.size, 0, none⟩ = some (.int .i64 f) := (cell_of_heap HS6.out).trans rfl
  have z1 : w6.cell? ⟨w.heap.size, 1, none⟩ = some (.int .i64 b) := (cell_of_heap HS6.out).trans rfl
  have z2 : w6.cell? ⟨w.heap.size, 2, none⟩ = some (.int .i64 t) := (cell_of_heap HS6.out).trans rfl
  have hlz := heap_lt HS6.out
  go_cut [13] from 36 to 53 (fun s13 wx => s13 = .bool B ∧ wx = w6)
  case first =>
    obtain ⟨P, hP⟩ : ∃ P, S5.sg.rightC f = P := ⟨_, rfl⟩
    obtain ⟨Q, hQ⟩ : ∃ Q, S5.sg.rightC b = Q := ⟨_, rfl⟩
    have HCf := Lib.hid (colour15_any f w6)
    have HCb := Lib.hid (colour15_any b w6)
    rw [hP] at HCf HBF
    rw [hQ] at HCb HBF
    clear hP hQ
    go_wp2_with fail
    refine (HCf.out).mono ?_
    rintro e w' ⟨rfl, hw⟩
    replace hw := hw.symm
    subst hw
    cases P
    case false =>
      go_wp2_with fail
      go_meet
      exact ⟨by rw [HBF.out]; rfl, rfl⟩
    case true =>
      go_wp2_with fail
      refine (HCb.out).mono ?_
      rintro e w' ⟨rfl, hw⟩
      replace hw := hw.symm
      subst hw
      cases Q
      case false =>
        go_wp2_with fail
        go_meet
        exact ⟨by rw [HBF.out]; rfl, rfl⟩
      case true =>
        by_cases ht0 : 0 ≤ t
        case neg =>
          have HZ : Hid (B = false) := Lib.hid (by rw [HBF.out, decide_eq_false ht0]; rfl)
          go_wp2_with fail
          go_meet
          exact ⟨by rw [HZ.out], rfl⟩
        case pos =>
          by_cases ht1 : t < 32
          case neg =>
            have HZ : Hid (B = false) := Lib.hid (by rw [HBF.out, decide_eq_true ht0, decide_eq_false (show ¬ t ≤ 31 by omega)]; rfl)
            go_wp2_with fail
            go_meet
            exact ⟨by rw [HZ.out]; simp; omega, rfl⟩
          case pos =>
            have HZ : Hid (B = true) := Lib.hid (by rw [HBF.out, decide_eq_true ht0, decide_eq_true (show t ≤ 31 by omega)]; rfl)
            go_wp2_with fail
            go_meet
            exact ⟨by rw [HZ.out], rfl⟩
  case rest =>
  obtain ⟨rfl, hwc⟩ := hcut
  replace hwc := hwc.symm
  subst hwc
  clear HBF
  go_upto_region 6 with fail
  go_cut [14] from 54 to 81 (fun s14 wx => s14 = .bool A ∧ wx = w6)
  case first =>
    by_cases hx0 : 0 ≤ x
    case neg =>
      have HZ : Hid (A = false) := Lib.hid (by rw [HAF.out, decide_eq_false hx0]; simp)
      go_wp2_with fail
      go_meet
      exact ⟨by rw [HZ.out], rfl⟩
    case pos =>
      by_cases hx1 : x < 200
      case neg =>
        have HZ : Hid (A = false) := Lib.hid (by rw [HAF.out, decide_eq_true hx0, decide_eq_false hx1]; simp)
        go_wp2_with fail
        go_meet
        exact ⟨by rw [HZ.out], rfl⟩
      case pos =>
        by_cases hy0 : 0 ≤ y
        case neg =>
          have HZ : Hid (A = false) := Lib.hid (by rw [HAF.out, decide_eq_true hx0, decide_eq_true hx1, decide_eq_false hy0]; simp)
          go_wp2_with fail
          go_meet
          exact ⟨by rw [HZ.out], rfl⟩
        case pos =>
          by_cases hy1 : y < 200
          case neg =>
            have HZ : Hid (A = false) := Lib.hid (by rw [HAF.out, decide_eq_true hx0, decide_eq_true hx1, decide_eq_true hy0, decide_eq_false hy1]; simp)
            go_wp2_with fail
            go_meet
            exact ⟨by rw [HZ.out], rfl⟩
          case pos =>
            by_cases hc0 : 0 ≤ c
            case neg =>
              have HZ : Hid (A = false) := Lib.hid (by rw [HAF.out, decide_eq_true hx0, decide_eq_true hx1, decide_eq_true hy0, decide_eq_true hy1, decide_eq_false hc0]; simp)
              go_wp2_with fail
              go_meet
              exact ⟨by rw [HZ.out], rfl⟩
            case pos =>
              by_cases hc1 : c ≤ 1114111
              case neg =>
                have HZ : Hid (A = false) := Lib.hid (by rw [HAF.out, decide_eq_true hx0, decide_eq_true hx1, decide_eq_true hy0, decide_eq_true hy1, decide_eq_true hc0, decide_eq_false hc1]; simp)
                go_wp2_with fail
                go_meet
                exact ⟨by rw [HZ.out], rfl⟩
              case pos =>
                have hwc : IntKind.i32.wrap c = c := by rw [IntKind.wrap_i32]; omega
                have HWD := Lib.hid (refWidth_any c (by omega) w6)
                have HAG := HAF.out
                rw [decide_eq_true hx0, decide_eq_true hx1, decide_eq_true hy0, decide_eq_true hy1, decide_eq_true hc0, decide_eq_true hc1] at HAG
                have HAH := Lib.hid HAG
                clear HAG HAF
                generalize wd c = WD at *
                go_wp2_with fail
                refine HWD.out.mono ?_
                rintro e w' ⟨rfl, hw⟩
                replace hw := hw.symm
                subst hw
                have HZ : Hid (A = (WD == 1)) := Lib.hid (by rw [HAH.out]; simp)
                go_wp2_with fail
                go_meet
                exact ⟨by rw [HZ.out], rfl⟩
  case rest =>
  obtain ⟨rfl, hwc⟩ := hcut
  replace hwc := hwc.symm
  subst hwc
  clear HAF
  have hrr := HR0.out
  have hss := HR1.out
  clear HR0 HR1
  cases A
  all_goals
    cases B
    all_goals
      first | (rw [if_pos rfl] at hrr) | (rw [if_neg (by decide)] at hrr)
      first | (rw [if_pos rfl] at hss) | (rw [if_neg (by decide)] at hss)
      injection hrr with g1 g2
      injection g1 with h0 h1 h2 h3 h4 h5 h6 h7 h8
      injection g2 with _ g3
      injection hss with k1 k2
      injection k1 with l0 l1 l2 l3 l4 l5 l6 l7 l8
      injection k2 with _ k3
      subst h0 h1 h2 h3 h4 h5 h6 h7 h8 g3 l0 l1 l2 l3 l4 l5 l6 l7 l8 k3
      have x5 := cell_of_heap (k := 5) HN6.out.1
      have y6 := cell_of_heap (k := 6) HN6.out.2
      have y7 := cell_of_heap (k := 7) HN6.out.2
      have y8 := cell_of_heap (k := 8) HN6.out.2
      simp only [List.getElem?_toArray, List.getElem?_cons_succ, List.getElem?_cons_zero] at x5 y6 y7 y8
      have hl1 := heap_lt HN6.out.1
      have hl2 := heap_lt HN6.out.2
      go_wp2_with fail
      go_ret
      exact ⟨rfl, HB6.out⟩
end Go.Proofs.YtbmcmcdgdhabaaaDoor
