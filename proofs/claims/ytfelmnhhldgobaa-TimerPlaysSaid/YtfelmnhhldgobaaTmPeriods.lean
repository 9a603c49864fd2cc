/- TimerPeriods. -/
import Derived.Test.YtfelmnhhldgobaaTmPerM
namespace Go.Proofs.Ytfelmnhhldgobaa
open Go.RowKit
theorem PS.below {w wr w2 : World} {c : Nat} {V V1 Vt : Value} {s : tm.St} {told : List tm.T} (p : PS w wr c V V1 Vt s told) (hb : Below wr.heap.size wr w2) : PS w w2 c V V1 Vt s told :=
  ⟨p.ck.below hb, row_below p.row hb, p.fr.below hb, p.own, p.sep⟩
/-- a clock of this walk's own -/
structure Mine (B : Nat) (w0 w : World) (c : Nat) (V : Value) (s : tm.St) : Prop where
  ck : CS w c V s
  bel : Below B w0 w
  own : ∀ y, OwnC c V y → B ≤ y
  low : B ≤ w.heap.size
theorem Mine.to {B : Nat} {w0 w w' : World} {c : Nat} {V : Value} {s s' : tm.St} (h : Mine B w0 w c V s) (r : CSR c V w w' s') : ∃ V', Mine B w0 w' c V' s' := by
  obtain ⟨V', h1, b1, o1⟩ := CKR.clear r h.low h.own
  exact ⟨V', h1, h.bel.trans b1, o1, Nat.le_trans h.low b1.size⟩
theorem Mine.below {B : Nat} {w0 w w' : World} {c : Nat} {V : Value} {s : tm.St} (h : Mine B w0 w c V s) (b : Below w.heap.size w w') : Mine B w0 w' c V s :=
  ⟨h.ck.below b, h.bel.trans (b.mono h.low), h.own, Nat.le_trans h.low b.size⟩
/-- a clock of this walk's own, and what a Pass told -/
theorem Mine.pass {B : Nat} {w0 w w' : World} {c : Nat} {V V1 Vt : Value} {s s' : tm.St} {told : List tm.T} (h : Mine B w0 w c V s) (p : PS w w' c V V1 Vt s' told) : Mine B w0 w' c V1 s' :=
  ⟨p.ck, h.bel.trans (p.fr.to_below B h.low fun k hk y => by have := h.own k y; omega), fun y hy => (p.own y hy).elim (h.own y) fun a => Nat.le_trans h.low a, Nat.le_trans h.low p.fr.size⟩
set_option maxRecDepth 100000 in
set_option maxHeartbeats 1600000 in
theorem timerPeriods_any (n p till : Int) (w : World) : Calls Try.prog 6 #[.int .i64 n, .int .i64 p, .int .i64 till] w fun e w' => e = .returned (.bool true) ∧ Below w.heap.size w w' := by
  have HN := Lib.hid (newC_any w)
  go_enter Try.func6, Try.ntmps6
  go_wp2_with fail
  with_reducible refine HN.out.mono ?_
  rintro e x ⟨rfl, hx⟩
  have b0 := below_one w (.cells #[.int .i64 0, .int .i64 0, .slice none 0 0] 65)
  have H0 : Hid (Mine w.heap.size w x w.heap.size (.slice none 0 0) tm.St.zero) := Lib.hid (hx ▸ ⟨CS.new w, b0, fun y hy => ((CS.new w).own_lt hy).1, b0.size⟩)
  have HA := Lib.hid (alive_any x)
  clear hx b0 HN
  go_wp2_with fail
  with_reducible refine HA.out.mono ?_
  rintro e x1 ⟨rfl, hb⟩
  have H1 := Lib.hid (H0.out.below hb)
  clear hb HA H0
  by_cases c1 : n < 0
  · go_wp2_with fail
    go_ret
    exact ⟨rfl, H1.out.bel⟩
  by_cases c2 : p < 1
  · go_wp2_with fail
    go_ret
    exact ⟨rfl, H1.out.bel⟩
  by_cases c3 : till < 0
  · go_wp2_with fail
    go_ret
    exact ⟨rfl, H1.out.bel⟩
  by_cases c4 : 1073741824 < n
  · go_wp2_with fail
    go_ret
    exact ⟨rfl, H1.out.bel⟩
  by_cases c5 : 1073741824 < p
  · go_wp2_with fail
    go_ret
    exact ⟨rfl, H1.out.bel⟩
  by_cases c6 : 1073741824 < till
  · go_wp2_with fail
    go_ret
    exact ⟨rfl, H1.out.bel⟩
  have hTn : tm.isT n = true := (tm.isT_iff n).2 (by omega)
  have HTp : Hid (tm.isT p = true) := Lib.hid ((tm.isT_iff p).2 (by omega))
  have HC := Lib.hid (set_any w.heap.size _ tm.St.zero 7 n p x1 H1.out.ck tm.Good.zero (by decide) _ (tm.set_one n p hTn HTp.out))
  clear hTn
  go_wp2_with fail
  with_reducible refine HC.out.mono ?_
  rintro e x2 ⟨rfl, r⟩
  obtain ⟨V2, m2⟩ := H1.out.to r
  have H2 : Hid (Mine w.heap.size w x2 w.heap.size V2 ⟨0, 1, [tm.tt p n]⟩) := Lib.hid m2
  clear r m2 HC H1
  have hn0 : 0 ≤ n := by omega
  have hn1 : n ≤ 2147483648 := by omega
  have hp0 : 0 < p := by omega
  have hp1 : p ≤ 1073741824 := by omega
  have ht0 : 0 ≤ till := by omega
  have ht1 : till ≤ 1073741824 := by omega
  clear c1 c2 c3 c4 c5 c6
  go_wp2_with fail
  go_loopg [10, 11] 6 (fun gg s10 s11 wr => ∃ (k : Nat) (a now : Int) (V1 : Value), s10 = .int .i64 a ∧ s11 = .int .i64 k ∧ k ≤ 6 ∧ 6 - k ≤ gg ∧ 0 ≤ a ∧ a ≤ 2147483648 ∧ 0 ≤ now ∧ now ≤ till ∧ Hid (Mine w.heap.size w wr w.heap.size V1 ⟨now, 1, [tm.tt p a]⟩))
  case atStart => exact ⟨0, n, 0, V2, rfl, rfl, Nat.zero_le _, Nat.le_refl _, hn0, hn1, by decide, ht0, H2⟩
  case round =>
    clear H2 hn0 hn1
    obtain ⟨k, a, now, V1, rfl, rfl, hk, hgg, ha0, ha1, hnow0, hnow1, HT⟩ := hrel
    by_cases hk6 : k < 6
    · have hk6' : (k : Int) < 6 := by omega
      obtain ⟨j, hj16, hpass, hseq, hlast, hz0, hz1⟩ := tm.pass_one now till a p hp0 hp1 ht1 hnow0 hnow1 ha0 ha1
      have hTa : tm.isT a = true := (tm.isT_iff a).2 (by omega)
      have HP := Lib.hid (pass_any w.heap.size V1 _ till wr HT.out.ck (tm.good_one now a p hnow0 (by omega) hTa HTp.out) _ hpass)
      clear hpass hTa
      have HSEQ := Lib.hid hseq
      clear hseq
      go_wp2_with fail
      with_reducible refine HP.out.mono ?_
      rintro e x3 ⟨V3, Vt, rfl, ps⟩
      have hsl := tm.seq_len p j a
      obtain ⟨ot, ct, hVt⟩ : ∃ o c, Vt = .slice o (tm.seq p j a).length c := own_slice ps.row
      rw [hsl] at hVt
      subst hVt
      have HM := Lib.hid (HT.out.pass ps)
      have HPS : Hid (DRow x3 w.heap.size (.slice ot j ct) (tm.seq p j a)) := Lib.hid (own_base ps.row HT.out.low)
      clear ps HP HT
      obtain ⟨b, hb⟩ : ∃ b, a + (j : Int) * p = b := ⟨_, rfl⟩
      rw [hb] at hlast hz0 hz1 HM
      have HB := Lib.hid hb
      clear hb
      go_wp2_with fail
      go_loopg [10, 80] j (fun gg s10 s80 wr => ∃ (i : Nat) (v : Int), s10 = .int .i64 v ∧ s80 = .int .i64 i ∧ i ≤ j ∧ j - i ≤ gg ∧ Hid (v = a + (i : Int) * p) ∧ Hid (Mine w.heap.size w wr w.heap.size V3 ⟨if j = 16 then a + 15 * p else till, 1, [tm.tt p b]⟩ ∧ DRow wr w.heap.size (.slice ot j ct) (tm.seq p j a)))
      case atStart => exact ⟨0, a, rfl, rfl, Nat.zero_le _, Nat.le_refl _, Lib.hid (by simp), Lib.hid ⟨HM.out, HPS.out⟩⟩
      case round =>
        clear HM HPS
        obtain ⟨i, v, rfl, rfl, hi, hgi, HV, HX⟩ := hrel
        by_cases hij : i < j
        · have hij' : (i : Int) < (j : Int) := by omega
          have hvt : v ≤ till := by have := HSEQ.out i hij; rw [← HV.out] at this; exact this
          obtain ⟨-, gt, rfl, lt, d0, d1, d2⟩ := DRow.cell HX.out.2 i (by rw [hsl]; exact hij)
          rw [tm.seq_ix p j i a hij, ← HV.out] at d0 d1 d2
          have hv0 : 0 ≤ v := by
            have h1 : (0 : Int) ≤ (i : Int) * p := Int.mul_nonneg (by omega) (by omega)
            have := HV.out
            omega
          have ew : wrap64 (v + p) = v + p := by unfold wrap64; omega
          have b1 := below_one wr (dO (tm.tt p v))
          have a1 := heap_alloc_new wr (dO (tm.tt p v))
          have HX2 := Lib.hid (And.intro (HX.out.1.below b1) (And.intro (row_below HX.out.2 b1) a1))
          have HV2 : Hid (v + p = a + ((i + 1 : Nat) : Int) * p) := Lib.hid (by
            have e3 : (((i + 1 : Nat) : Int)) * p = (i : Int) * p + p := by rw [Int.natCast_succ, Int.add_mul, Int.one_mul]
            have := HV.out
            omega)
          have hne : (v != v) = false := by simp
          have hvt2 : ¬ till < v := by omega
          clear b1 a1 HX
          simp only [tm.tt] at d0 d1 d2
          go_upto_region 19 with fail
          obtain ⟨W, hW⟩ : ∃ W, wr.alloc (dO (tm.tt p v)) = W := ⟨_, rfl⟩
          change Code.wp _ _ _ _ (wr.alloc (dO (tm.tt p v)))
          rw [hW] at HX2 ⊢
          have y0 : W.cell? ⟨wr.heap.size, 0, none⟩ = some (.int .i64 1) := (cell_of_heap HX2.out.2.2).trans rfl
          have y1 : W.cell? ⟨wr.heap.size, 1, none⟩ = some (.int .i64 7) := (cell_of_heap HX2.out.2.2).trans rfl
          have y2 : W.cell? ⟨wr.heap.size, 2, none⟩ = some (.int .i64 v) := (cell_of_heap HX2.out.2.2).trans rfl
          have ly := heap_lt HX2.out.2.2
          clear hW d0 d1 d2 lt
          go_wp2_with fail
          go_roundg (j - (i + 1))
          case measure => omega
          case rel => exact ⟨i + 1, v + p, rfl, (by first | rfl | (simp; done) | (simp; omega)), by omega, Nat.le_refl _, HV2, Lib.hid ⟨HX2.out.1, HX2.out.2.1⟩⟩
        · obtain rfl : i = j := by omega
          obtain rfl : v = b := HV.out.trans HB.out
          by_cases h16 : i = 16
          · subst h16
            have hA : Hid (Mine w.heap.size w wr w.heap.size V3 ⟨a + 15 * p, 1, [tm.tt p v]⟩) := Lib.hid HX.out.1
            have HW := Lib.hid (now_any w.heap.size V3 _ wr hA.out.ck)
            have hvp : v - p = a + 15 * p := by have := HV.out; have e : ((16 : Nat) : Int) * p = 15 * p + p := by omega
                                                omega
            have ew : wrap64 (v - p) = v - p := by unfold wrap64; omega
            have hle : a + 15 * p ≤ till := by have := HSEQ.out 15 (by omega); simpa using this
            have hge : 0 ≤ a + 15 * p := by omega
            generalize a + 15 * p = q at *
            have hq : (q != q) = false := by simp
            clear HX HV HB hsl hlast
            go_wp2_with fail
            with_reducible refine HW.out.mono ?_
            rintro e w' ⟨rfl, hw⟩
            replace hw := hw.symm
            subst hw
            go_wp2_with fail
            go_roundg (6 - (k + 1))
            case measure => omega
            case rel => exact ⟨k + 1, v, q, V3, rfl, (by first | rfl | (simp; done) | (simp; omega)), by omega, Nat.le_refl _, hz0, hz1, hge, hle, hA⟩
          · have hA : Hid (Mine w.heap.size w wr w.heap.size V3 ⟨till, 1, [tm.tt p v]⟩) := Lib.hid (by have := HX.out.1; rwa [if_neg h16] at this)
            have hi16 : (i : Int) < 16 := by omega
            have hlt := hlast (by omega)
            have HX1 := Lib.hid (next_any w.heap.size V3 _ wr hA.out.ck _ (tm.next_one till v p))
            have HW := Lib.hid (now_any w.heap.size V3 _ wr hA.out.ck)
            have HS := Lib.hid (stop_any w.heap.size V3 _ 1 wr hA.out.ck (by simp) (by simp) _ (tm.stop_one till v p))
            clear HX HV HB hsl hlast
            go_wp2_with fail
            with_reducible refine HX1.out.mono ?_
            rintro e w' ⟨rfl, hw⟩
            replace hw := hw.symm
            subst hw
            go_wp2_with fail
            with_reducible refine HW.out.mono ?_
            rintro e w' ⟨rfl, hw⟩
            replace hw := hw.symm
            subst hw
            go_wp2_with fail
            with_reducible refine HS.out.mono ?_
            rintro e x5 ⟨rfl, r⟩
            obtain ⟨V5, m5⟩ := hA.out.to r
            have H5 := Lib.hid m5
            have HAL := Lib.hid (all_any w.heap.size V5 _ x5 m5.ck (by simp))
            clear m5 r HX1 HW HS hA
            go_wp2_with fail
            with_reducible refine HAL.out.mono ?_
            rintro e x6 ⟨oA, cA, LA, rfl, hpm, -, -, b6⟩
            have hLA : LA.length = 0 := hpm.length_eq
            rw [hLA]
            have HZ := Lib.hid (H5.out.below b6)
            clear b6 hpm HAL
            go_wp2_with fail
            go_ret
            exact ⟨rfl, HZ.out.bel⟩
    · obtain rfl : k = 6 := by omega
      go_wp2_with fail
      go_ret
      exact ⟨rfl, HT.out.bel⟩
end Go.Proofs.Ytfelmnhhldgobaa
