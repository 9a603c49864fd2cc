/- SolveAlike, walked: it returns true. -/
import Derived.Test.YteilaoiimlpbkaaSolAlive
import Derived.Test.YteilaoiimlpbkaaSolAlikeM
import Derived.Laws.BitsLemmas
import Derived.Laws.MakeOwn
namespace Go.Proofs.Yteilaoiimlpbkaa
open Go.RowKit
attribute [local go_sem ↓ 10000] run_mn run_mx
theorem i64_and15 (n : Int) : bits .and .i64 n 15 = n % 16 := by
  have h15 : (BitVec.ofInt 64 15).toNat = 2 ^ 4 - 1 := by decide
  have key : (BitVec.ofInt 64 n &&& BitVec.ofInt 64 15).toNat = (n % ((2 ^ 64 : Nat) : Int)).toNat % 2 ^ 4 := by
    rw [BitVec.toNat_and, BitVec.toNat_ofInt, h15, Nat.and_two_pow_sub_one_eq_mod]
  show IntKind.i64.wrap ((BitVec.ofInt 64 n &&& BitVec.ofInt 64 15).toNat : Nat) = n % 16
  rw [key, IntKind.wrap_i64]
  omega
theorem i64_and127 (n : Int) : bits .and .i64 n 127 = n % 128 := by
  have h127 : (BitVec.ofInt 64 127).toNat = 2 ^ 7 - 1 := by decide
  have key : (BitVec.ofInt 64 n &&& BitVec.ofInt 64 127).toNat = (n % ((2 ^ 64 : Nat) : Int)).toNat % 2 ^ 7 := by
    rw [BitVec.toNat_and, BitVec.toNat_ofInt, h127, Nat.and_two_pow_sub_one_eq_mod]
  show IntKind.i64.wrap ((BitVec.ofInt 64 n &&& BitVec.ofInt 64 127).toNat : Nat) = n % 128
  rw [key, IntKind.wrap_i64]
  omega
theorem infoSz : (Try.prog.info? 33).map (fun i => (i.zero, i.size, i.bytes)) = some (some (Value.agg #[.int .i64 0, .int .i64 0]), 2, 16) := by kernel_rfl
set_option maxRecDepth 100000 in
theorem made_flex (m : Nat) (h : m ≤ 16) : madeCells #[Value.int .i64 0, .int .i64 0] (m * 2) = (szCells (sl.flexN m)).toArray := by
  rcases (show m = 0 ∨ m = 1 ∨ m = 2 ∨ m = 3 ∨ m = 4 ∨ m = 5 ∨ m = 6 ∨ m = 7 ∨ m = 8 ∨ m = 9 ∨ m = 10 ∨ m = 11 ∨ m = 12 ∨ m = 13 ∨ m = 14 ∨ m = 15 ∨ m = 16 by omega) with rfl | rfl | rfl | rfl | rfl | rfl | rfl | rfl | rfl | rfl | rfl | rfl | rfl | rfl | rfl | rfl | rfl <;> kernel_rfl
/-- sizes that are made, all Flex -/
theorem run_make_flex (m : Nat) (h : m ≤ 16) (W : World) : (Instr.makeSlice 22 (.int .i64 (m : Int)) (.int .i64 (m : Int))).run Try.prog W = .ok (.slice (some ⟨W.heap.size, 0, none⟩) m m) (W.alloc (.cells (szCells (sl.flexN m)).toArray 33)) := by
  obtain ⟨i, hi, h1, h2, h3⟩ := info_parts infoSz
  have := run_make (P := Try.prog) W 22 33 i _ Try.underlying22 hi h1 .i64 .i64 (m : Int) (m : Int) (by omega) (by omega) (by rw [h3]; omega) (by omega)
  rw [this, h2]
  simp only [Int.toNat_natCast]
  rw [← made_flex m h]
  rfl
set_option maxRecDepth 100000 in
set_option maxHeartbeats 3200000 in
theorem alike_any (t n f : Int) (w : World) :
    Calls Try.prog 6 #[.int .i64 t, .int .i64 n, .int .i64 f] w fun e w' => e = .returned (.bool true) ∧ Below w.heap.size w w' := by
  have HA := Lib.hid (alive_any w)
  have hn15 := i64_and15 n
  have hf127 := i64_and127 f
  obtain ⟨q, hq⟩ : ∃ q : Nat, n % 16 = q := ⟨(n % 16).toNat, by omega⟩
  have hq15 : q ≤ 15 := by omega
  rw [hq] at hn15
  have hf0 : 0 ≤ f % 128 := by omega
  have hf1 : f % 128 ≤ 127 := by omega
  generalize f % 128 = fr at *
  clear hq
  have hmk : ∀ W, (Instr.makeSlice 22 (.int .i64 (1 + (q : Int))) (.int .i64 (1 + (q : Int)))).run Try.prog W = .ok (.slice (some ⟨W.heap.size, 0, none⟩) (q + 1) (q + 1)) (W.alloc (.cells (szCells (sl.flexN (q + 1))).toArray 33)) := fun W => by
    have := run_make_flex (q + 1) (by omega) W
    rw [show (((q + 1 : Nat)) : Int) = 1 + (q : Int) by omega] at this
    exact this
  obtain ⟨g1, g2, g3⟩ := sl.flexN_err t (q + 1) (by omega) (by omega)
  have HSH := Lib.hid (fun W c (hc : sl.err t (sl.flexN (q + 1)) = c) => share_lit t (sl.flexN (q + 1)) _ _ rfl hc W _ rfl (q + 1) (sl.flexN_len _).symm (szCells (sl.flexN (q + 1))).toArray rfl (by rw [sl.flexN_len]; omega))
  have HG1 := Lib.hid g1
  have HG2 := Lib.hid g2
  have HG3 := Lib.hid g3
  clear g1 g2 g3
  by_cases hbad : t < 1 + (q : Int) ∨ 200 < t
  · have HB : Hid (sl.share t (sl.flexN (q + 1)) = []) := Lib.hid (sl.share_bad _ _ (by
      rcases hbad with h | h
      · rw [HG2.out (by omega) (by omega)]; decide
      · rw [HG1.out h]; decide))
    rcases (show (t < 1 + (q : Int) ∧ t ≤ 200) ∨ (¬ t < 1 + (q : Int) ∧ 200 < t) by omega) with ⟨h1, h2⟩ | ⟨h1, h2⟩
    · have HS1 := Lib.hid (fun W => HSH.out W 90 (HG2.out h2 (by omega)))
      rw [HB.out] at HS1
      clear hbad HB
      go_enter Try.func6, Try.ntmps6
      go_wp2_with fail
      refine HA.out.mono ?_
      rintro e w1 ⟨rfl, hb1⟩
      have HB1 := Lib.hid hb1
      clear hb1 HA
      go_wp2_with fail
      refine (HS1.out w1).mono ?_
      rintro e w2 ⟨ao, ac, rfl, hi2, hb2⟩
      have HB2 := Lib.hid (HB1.out.trans (hb2.mono HB1.out.size))
      clear hi2 hb2
      go_wp2_with fail
      go_ret
      exact ⟨rfl, HB2.out⟩
    · have HS1 := Lib.hid (fun W => HSH.out W 1 (HG1.out h2))
      rw [HB.out] at HS1
      clear hbad HB
      go_enter Try.func6, Try.ntmps6
      go_wp2_with fail
      refine HA.out.mono ?_
      rintro e w1 ⟨rfl, hb1⟩
      have HB1 := Lib.hid hb1
      clear hb1 HA
      go_wp2_with fail
      refine (HS1.out w1).mono ?_
      rintro e w2 ⟨ao, ac, rfl, hi2, hb2⟩
      have HB2 := Lib.hid (HB1.out.trans (hb2.mono HB1.out.size))
      clear hi2 hb2
      go_wp2_with fail
      go_ret
      exact ⟨rfl, HB2.out⟩
  · have h1 : ¬ t < 1 + (q : Int) := by omega
    have h2 : ¬ 200 < t := by omega
    have ht2 : t ≤ 200 := by omega
    have ht1 : 1 + (q : Int) ≤ t := by omega
    have hok := HG3.out ht2 (by omega)
    have HS1 := Lib.hid (fun W => HSH.out W 0 hok)
    rw [sl.share_ok _ _ hok, sl.lens_len, sl.flexN_len] at HS1
    have hl0 := fun i (hi : i < q + 1) => sl.flexN_lens t (q + 1) (by omega) (by omega) i hi
    rw [show ((q + 1 : Nat) : Int) = 1 + (q : Int) by omega] at hl0
    have HL := Lib.hid hl0
    clear hl0
    generalize sl.lens t (sl.flexN (q + 1)) = zs at *
    have d0 : decide (t < 1 + (q : Int)) = false := decide_eq_false (by omega)
    have d1 : decide (200 < t) = false := decide_eq_false (by omega)
    have d2 : ((q : Int) + 1 != 1 + (q : Int)) = false := by simp; omega
    have hQ0 : 0 ≤ t / (1 + (q : Int)) := Int.ediv_nonneg (by omega) (by omega)
    have hQ1 : t / (1 + (q : Int)) ≤ 200 := Int.le_trans (Int.ediv_le_self _ (by omega)) ht2
    clear hbad HSH HG1 HG2 HG3 hok h1 h2
    go_enter Try.func6, Try.ntmps6
    go_wp2_with fail
    refine HA.out.mono ?_
    rintro e w1 ⟨rfl, hb1⟩
    have HB1 := Lib.hid hb1
    clear hb1 HA
    go_wp2_with fail
    refine (HS1.out w1).mono ?_
    rintro e w2 ⟨ao, ac, rfl, hi2, hb2⟩
    have HB2 := Lib.hid (HB1.out.trans (hb2.mono HB1.out.size))
    have HI2 := Lib.hid hi2
    have hac : ac ≤ 9223372036854775807 := hi2.max
    have hlac := hi2.le
    clear hi2 hb2 HB1 hmk hn15
    go_wp2_with fail
    go_loopg [68] (q + 1) (fun gg s68 wr => ∃ i : Nat, s68 = .int .i64 i ∧ i ≤ q + 1 ∧ q + 1 - i ≤ gg ∧ Hid (wr = w2))
    case atStart => exact ⟨0, rfl, Nat.zero_le _, by omega, Lib.hid rfl⟩
    case round =>
      obtain ⟨i, rfl, hi, hgg, hw⟩ := hrel
      obtain rfl := hw.out
      by_cases hlt : i < q + 1
      · obtain ⟨b, off, rfl, hb, ka⟩ := HI2.out.cell hlt
        have hv := HL.out i hlt
        generalize zs.getD i 0 = v at *
        have hii : (i : Int) < (q : Int) + 1 := by omega
        by_cases hr : (i : Int) < t % (1 + (q : Int))
        · rw [if_pos hr] at hv
          subst hv
          go_wp2_with fail
          go_roundg (q + 1 - (i + 1))
          case measure => omega
          case rel => exact ⟨i + 1, by go_num, by omega, Nat.le_refl _, Lib.hid rfl⟩
        · rw [if_neg hr, Int.add_zero] at hv
          subst hv
          go_wp2_with fail
          go_roundg (q + 1 - (i + 1))
          case measure => omega
          case rel => exact ⟨i + 1, by go_num, by omega, Nat.le_refl _, Lib.hid rfl⟩
      · obtain rfl : i = q + 1 := by omega
        by_cases h2 : t < 2
        · go_wp2_with fail
          go_ret
          exact ⟨rfl, HB2.out⟩
        · have ht3 : 2 ≤ t := by omega
          obtain ⟨p1, p2⟩ := sl.two_fixed t (1 + fr) ht3 ht2 (by omega) (by omega)
          obtain ⟨p3, p4⟩ := sl.two_all t ht3 ht2
          have hY := sl.mnI_bounds (1 + fr) (t) (by omega) (by omega)
          have hY1 : 1 ≤ sl.mnI (1 + fr) (t - 1) := by unfold sl.mnI; split <;> omega
          have hmn : mn (1 + fr) (t - 1) = sl.mnI (1 + fr) (t - 1) := rfl
          have HS2 := Lib.hid (fun W => share_lit t [⟨1, 1 + fr⟩, ⟨0, 0⟩] _ _ p2 p1 W _ rfl 2 rfl #[.int .i64 1, .int .i64 (1 + fr), .int .i64 0, .int .i64 0] rfl (by simp))
          have HS3 := Lib.hid (fun W => share_lit t [⟨0, 0⟩, ⟨2, 100⟩] _ _ p4 p3 W _ rfl 2 rfl #[.int .i64 0, .int .i64 0, .int .i64 2, .int .i64 100] rfl (by simp))
          generalize sl.mnI (1 + fr) (t - 1) = Y at *
          have HMN := Lib.hid hmn
          clear hmn p1 p2 p3 p4 h2 HS1 HL hQ0 hQ1 HI2
          obtain ⟨y1, y2, y3⟩ := hY
          go_wp2_with fail
          refine (HS2.out _).mono ?_
          rintro e w3 ⟨bo, bc, rfl, hi3, hb3⟩
          have HB3 := Lib.hid (HB2.out.trans (hb3.mono HB2.out.size))
          have HI3 := Lib.hid hi3
          have hbc : bc ≤ 9223372036854775807 := hi3.max
          have hlbc : 2 ≤ bc := hi3.le
          clear hi3 hb3 HB2 HS2
          go_wp2_with fail
          refine (HS3.out _).mono ?_
          rintro e w4 ⟨co, cc, rfl, hi4, hb4⟩
          have HB4 := Lib.hid (HB3.out.trans (hb4.mono HB3.out.size))
          obtain ⟨b3, off3, rfl, hb3u, k0⟩ := (HI3.out.below hb4).cell (k := 0) (by simp)
          obtain ⟨b3', off3', he3, _, k1⟩ := (HI3.out.below hb4).cell (k := 1) (by simp)
          obtain ⟨b4, off4, rfl, hb4u, m0⟩ := hi4.cell (k := 0) (by simp)
          obtain ⟨b4', off4', he4, _, m1⟩ := hi4.cell (k := 1) (by simp)
          cases he3
          cases he4
          have hcc : cc ≤ 9223372036854775807 := hi4.max
          have hlcc : 2 ≤ cc := hi4.le
          simp only [Nat.add_zero, List.getD_cons_zero, List.getD_cons_succ] at k0 k1 m0 m1
          clear hi4 hb4 HB3 HS3 HI3
          have hmn := HMN.out
          have hw1 : IntKind.i64.wrap (t - 1) = t - 1 := by rw [IntKind.wrap_i64]; omega
          have hw2 : IntKind.i64.wrap (t - Y) = t - Y := by rw [IntKind.wrap_i64]; omega
          go_upto_region 24 with fail
          go_quiet (fail)
          clear hw1 hw2 hmn
          go_wp2_with fail
          go_ret
          exact ⟨rfl, below_drewN HB4.out nq⟩
end Go.Proofs.Yteilaoiimlpbkaa
