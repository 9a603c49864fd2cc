/- What container/heap's down does with a clock's queue. -/
import Derived.Test.YtfelmnhhldgobaaTmHeap
namespace Go.Proofs.Ytfelmnhhldgobaa
open Go.RowKit
set_option maxRecDepth 100000 in
set_option maxHeartbeats 3200000 in
theorem down_any (c g n cap : Nat) (now last : Int) (i0 lim f : Nat) (l : List tm.T) (w : World) (h : HQ w c g n cap now last l) (hlim : lim ≤ n) (hn : n ≤ 1000) (hi0 : i0 ≤ n) (hf : lim ≤ i0 + f) : Calls Try.prog 38 #[.iface 68 (.pointer (some ⟨c, 2, none⟩)), .int .i64 i0, .int .i64 lim] w fun e w' => e = .returned (.bool (decide (i0 < (tm.down f l i0 lim).2))) ∧ HQ w' c g n cap now last (tm.down f l i0 lim).1 ∧ Fr (fun k => k = g) w w' := by
  obtain ⟨R, hR⟩ : ∃ R, tm.down f l i0 lim = R := ⟨_, rfl⟩
  rw [hR]
  have HH := Lib.hid (And.intro h (And.intro (Fr.refl (fun k => k = g) w) hR))
  clear h hR
  go_enter Try.func38, Try.ntmps38
  go_wp2_with fail
  go_loopg [7] f (fun gg s7 wr => ∃ (i f' : Nat) (m : List tm.T), s7 = .int .i64 i ∧ i ≤ n ∧ lim ≤ i + f' ∧ f' ≤ gg ∧ Hid (HQ wr c g n cap now last m ∧ Fr (fun k => k = g) w wr ∧ tm.down f' m i lim = R))
  case atStart => exact ⟨i0, f, l, rfl, hi0, hf, Nat.le_refl _, HH⟩
  case round =>
    clear HH hf
    obtain ⟨i, f', m, rfl, hi, hif, hgg, HT⟩ := hrel
    obtain ⟨p, hp⟩ : ∃ p, 2 * i + 1 = p := ⟨_, rfl⟩
    obtain ⟨q, hq⟩ : ∃ q, 2 * i + 2 = q := ⟨_, rfl⟩
    have e1 : wrap64 (2 * (i : Int)) = 2 * (i : Int) := by unfold wrap64; omega
    have e2 : wrap64 (2 * (i : Int) + 1) = (p : Int) := by unfold wrap64; omega
    have e3 : 2 * (i : Int) + 1 = (p : Int) := by omega
    have e4 : wrap64 ((p : Int) + 1) = (q : Int) := by unfold wrap64; omega
    have e5 : (p : Int) + 1 = (q : Int) := by omega
    have hp0 : ¬ (p : Int) < 0 := by omega
    have hq0 : (0 : Int) ≤ (q : Int) := by omega
    by_cases hpl : lim ≤ p
    · have hpl' : (lim : Int) ≤ (p : Int) := by omega
      have HR : Hid ((m, i) = R) := Lib.hid (by have := HT.out.2.2; cases f' with | zero => exact this | succ k => unfold tm.down at this; rwa [if_pos (by omega)] at this)
      go_wp2_with fail
      go_ret
      exact ⟨ret_bool (by rw [← HR.out]), HR.out ▸ HT.out.1, HT.out.2.1⟩
    · have hpl' : (p : Int) < (lim : Int) := by omega
      obtain ⟨k, rfl⟩ : ∃ k, f' = k + 1 := ⟨f' - 1, by omega⟩
      have HU : Hid ((if tm.lt (tm.ix m (tm.kid m i lim)) (tm.ix m i) = true then tm.down k (tm.sw m i (tm.kid m i lim)) (tm.kid m i lim) lim else (m, i)) = R) := Lib.hid (by have := HT.out.2.2; unfold tm.down at this; rwa [if_neg (by omega)] at this)
      have HKD : Hid (tm.kid m i lim = if q < lim ∧ tm.lt (tm.ix m q) (tm.ix m p) = true then q else p) := Lib.hid (by unfold tm.kid; rw [hp, hq])
      have hkd := tm.kid_le m i lim (by omega)
      generalize tm.kid m i lim = K at *
      clear hp hq
      have HC := Lib.hid HT.out.1.cell.2.2
      by_cases hql : q < lim
      · have hql' : (q : Int) < (lim : Int) := by omega
        cases hlt1 : tm.lt (tm.ix m q) (tm.ix m p) with
        | true =>
          obtain rfl : q = K := by have := HKD.out; rw [if_pos ⟨hql, hlt1⟩] at this; exact this.symm
          have ml := meth_less HC.out
          have HL := Lib.hid (less_any g n cap q p m wr HT.out.1.q (by omega) (by omega))
          rw [hlt1] at HL
          go_wp2_with fail
          refine HL.out.mono ?_
          rintro e w2 ⟨rfl, hb⟩
          have H2 := Lib.hid (And.intro (HT.out.1.below hb) (And.intro (HT.out.2.1.below hb) trivial))
          clear hb ml HL HT HC
          go_upto_region 8 with fail
          have ml2 := meth_less H2.out.1.cell.2.2
          have HL2 := Lib.hid (less_any g n cap q i m w2 H2.out.1.q (by omega) (by omega))
          cases hlt2 : tm.lt (tm.ix m q) (tm.ix m i) with
          | false =>
            rw [hlt2] at HL2 HU
            go_wp2_with fail
            refine HL2.out.mono ?_
            rintro e w5 ⟨rfl, hb⟩
            have HZ := Lib.hid (And.intro (H2.out.1.below hb) (H2.out.2.1.below hb))
            clear hb
            go_wp2_with fail
            go_ret
            exact ⟨ret_bool (by rw [← (show (m, i) = R from HU.out)]), (show (m, i) = R from HU.out) ▸ HZ.out.1, HZ.out.2⟩
          | true =>
            rw [hlt2] at HL2 HU
            go_wp2_with fail
            refine HL2.out.mono ?_
            rintro e w5 ⟨rfl, hb⟩
            have HZ := Lib.hid (And.intro (H2.out.1.below hb) (H2.out.2.1.below hb))
            have ms := meth_swap HZ.out.1.cell.2.2
            have HS := Lib.hid (swap_any g n cap i q m w5 HZ.out.1.q (by omega) (by omega))
            clear hb ml2 HL2
            go_wp2_with fail
            refine HS.out.mono ?_
            rintro e w6 ⟨rfl, hqq, hfr⟩
            have HY := Lib.hid (And.intro (HZ.out.1.swap hqq hfr) (HZ.out.2.then hfr))
            clear hqq hfr ms HS HZ
            go_wp2_with fail
            go_roundg k
            case measure => omega
            case rel => exact ⟨q, k, _, rfl, by omega, by omega, Nat.le_refl _, Lib.hid ⟨HY.out.1, HY.out.2, (show tm.down k (tm.sw m i q) q lim = R from HU.out)⟩⟩
        | false =>
          obtain rfl : p = K := by have := HKD.out; rw [if_neg (by rw [hlt1]; simp)] at this; exact this.symm
          have ml := meth_less HC.out
          have HL := Lib.hid (less_any g n cap q p m wr HT.out.1.q (by omega) (by omega))
          rw [hlt1] at HL
          go_wp2_with fail
          refine HL.out.mono ?_
          rintro e w2 ⟨rfl, hb⟩
          have H2 := Lib.hid (And.intro (HT.out.1.below hb) (And.intro (HT.out.2.1.below hb) trivial))
          clear hb ml HL HT HC
          go_upto_region 8 with fail
          have ml2 := meth_less H2.out.1.cell.2.2
          have HL2 := Lib.hid (less_any g n cap p i m w2 H2.out.1.q (by omega) (by omega))
          cases hlt2 : tm.lt (tm.ix m p) (tm.ix m i) with
          | false =>
            rw [hlt2] at HL2 HU
            go_wp2_with fail
            refine HL2.out.mono ?_
            rintro e w5 ⟨rfl, hb⟩
            have HZ := Lib.hid (And.intro (H2.out.1.below hb) (H2.out.2.1.below hb))
            clear hb
            go_wp2_with fail
            go_ret
            exact ⟨ret_bool (by rw [← (show (m, i) = R from HU.out)]), (show (m, i) = R from HU.out) ▸ HZ.out.1, HZ.out.2⟩
          | true =>
            rw [hlt2] at HL2 HU
            go_wp2_with fail
            refine HL2.out.mono ?_
            rintro e w5 ⟨rfl, hb⟩
            have HZ := Lib.hid (And.intro (H2.out.1.below hb) (H2.out.2.1.below hb))
            have ms := meth_swap HZ.out.1.cell.2.2
            have HS := Lib.hid (swap_any g n cap i p m w5 HZ.out.1.q (by omega) (by omega))
            clear hb ml2 HL2
            go_wp2_with fail
            refine HS.out.mono ?_
            rintro e w6 ⟨rfl, hqq, hfr⟩
            have HY := Lib.hid (And.intro (HZ.out.1.swap hqq hfr) (HZ.out.2.then hfr))
            clear hqq hfr ms HS HZ
            go_wp2_with fail
            go_roundg k
            case measure => omega
            case rel => exact ⟨p, k, _, rfl, by omega, by omega, Nat.le_refl _, Lib.hid ⟨HY.out.1, HY.out.2, (show tm.down k (tm.sw m i p) p lim = R from HU.out)⟩⟩
      · have hql' : (lim : Int) ≤ (q : Int) := by omega
        obtain rfl : p = K := by have := HKD.out; rw [if_neg (by omega)] at this; exact this.symm
        go_upto_region 8 with fail
        have ml2 := meth_less HT.out.1.cell.2.2
        have HL2 := Lib.hid (less_any g n cap p i m wr HT.out.1.q (by omega) (by omega))
        cases hlt2 : tm.lt (tm.ix m p) (tm.ix m i) with
        | false =>
          rw [hlt2] at HL2 HU
          go_wp2_with fail
          refine HL2.out.mono ?_
          rintro e w5 ⟨rfl, hb⟩
          have HZ := Lib.hid (And.intro (HT.out.1.below hb) (HT.out.2.1.below hb))
          clear hb
          go_wp2_with fail
          go_ret
          exact ⟨ret_bool (by rw [← (show (m, i) = R from HU.out)]), (show (m, i) = R from HU.out) ▸ HZ.out.1, HZ.out.2⟩
        | true =>
          rw [hlt2] at HL2 HU
          go_wp2_with fail
          refine HL2.out.mono ?_
          rintro e w5 ⟨rfl, hb⟩
          have HZ := Lib.hid (And.intro (HT.out.1.below hb) (HT.out.2.1.below hb))
          have ms := meth_swap HZ.out.1.cell.2.2
          have HS := Lib.hid (swap_any g n cap i p m w5 HZ.out.1.q (by omega) (by omega))
          clear hb ml2 HL2
          go_wp2_with fail
          refine HS.out.mono ?_
          rintro e w6 ⟨rfl, hqq, hfr⟩
          have HY := Lib.hid (And.intro (HZ.out.1.swap hqq hfr) (HZ.out.2.then hfr))
          clear hqq hfr ms HS HZ
          go_wp2_with fail
          go_roundg k
          case measure => omega
          case rel => exact ⟨p, k, _, rfl, by omega, by omega, Nat.le_refl _, Lib.hid ⟨HY.out.1, HY.out.2, (show tm.down k (tm.sw m i p) p lim = R from HU.out)⟩⟩
end Go.Proofs.Ytfelmnhhldgobaa
