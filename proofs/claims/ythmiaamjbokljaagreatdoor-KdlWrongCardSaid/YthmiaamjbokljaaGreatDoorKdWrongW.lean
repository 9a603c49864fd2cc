/- KdlWrong: the walk. -/
import Derived.Test.YthmiaamjbokljaaGreatDoorKdAlive
import Derived.Test.YthmiaamjbokljaaGreatDoorKdWrongM2
import Derived.Laws.BitsLemmas
namespace Go.Proofs.YthmiaamjbokljaaGreatDoor
open Go.RowKit
theorem i64_and1023 (n : Int) : bits .and .i64 n 1023 = n % 1024 := by
  have h1023 : (BitVec.ofInt 64 1023).toNat = 2 ^ 10 - 1 := by decide
  have key : (BitVec.ofInt 64 n &&& BitVec.ofInt 64 1023).toNat = (n % ((2 ^ 64 : Nat) : Int)).toNat % 2 ^ 10 := by
    rw [BitVec.toNat_and, BitVec.toNat_ofInt, h1023, Nat.and_two_pow_sub_one_eq_mod]
  show IntKind.i64.wrap ((BitVec.ofInt 64 n &&& BitVec.ofInt 64 1023).toNat : Nat) = n % 1024
  rw [key, IntKind.wrap_i64]
  omega
theorem kd.parse_bad (s : List UInt8) (N : List kd.Node) (c : Nat) (x : Int) (h : kd.parse s = (N, c, x)) (hc : c ≠ 0) : N = [] := by
  unfold kd.parse at h
  split at h
  · exact (congrArg Prod.fst h).symm
  · split at h
    · exact absurd (congrArg (fun q => q.2.1) h).symm hc
    · exact (congrArg Prod.fst h).symm
abbrev kd.bts : List (List UInt8) := [kd.bt0, kd.bt1, kd.bt2, kd.bt3, kd.bt4, kd.bt5, kd.bt6, kd.bt7, kd.bt8, kd.bt9]
abbrev badO : Obj := .cells #[.string ⟨#[125]⟩, .string ⟨#[61]⟩, .string ⟨#[49]⟩, .string ⟨#[123]⟩, .string ⟨#[97, 32, 123]⟩, .string ⟨#[97, 32, 120, 61]⟩, .string ⟨#[97, 32, 123, 125, 123]⟩, .string ⟨#[97, 32, 120, 61, 49, 32, 120, 61, 49]⟩, .string ⟨#[97, 32, 125, 32, 98]⟩, .string ⟨#[97, 32, 123, 125, 32, 98]⟩] 9
theorem cat_any (a b : List UInt8) : (ByteArray.mk a.toArray ++ ByteArray.mk b.toArray) = ByteArray.mk (a ++ b).toArray := by
  rw [ByteArray.mk_append_mk]
abbrev kd.codes : List Nat := [80, 80, 80, 80, 82, 82, 80, 81, 80, 80]
abbrev kd.offs : List Int := [0, 0, 0, 0, 3, 4, 4, 6, 2, 5]
theorem kd.bad_all (a : List UInt8) (x : List kd.Node) (p : Int) (h : kd.parse a = (x, 0, p)) (hl : a.length ≤ 500) (m : Nat) (hm : m < 10) : (∃ y, kd.parse (a ++ 10 :: kd.bts.getD m []) = ([], 3, y)) ∨ kd.parse (a ++ 10 :: kd.bts.getD m []) = ([], kd.codes.getD m 0, kd.offs.getD m 0 + ((a.length + 1 : Nat) : Int)) := by
  obtain rfl | rfl | rfl | rfl | rfl | rfl | rfl | rfl | rfl | rfl : m = 0 ∨ m = 1 ∨ m = 2 ∨ m = 3 ∨ m = 4 ∨ m = 5 ∨ m = 6 ∨ m = 7 ∨ m = 8 ∨ m = 9 := by omega
  · exact kd.bad0 a x p h hl
  · exact kd.bad1 a x p h hl
  · exact kd.bad2 a x p h hl
  · exact kd.bad3 a x p h hl
  · refine (kd.bad4 a x p h hl).imp id fun e => e.trans ?_
    rw [List.length_append]
    show (_, _, _) = (_, _, _)
    congr 2
    show ((a.length + 4 : Nat) : Int) = 3 + ((a.length + 1 : Nat) : Int)
    omega
  · refine (kd.bad5 a x p h hl).imp id fun e => e.trans ?_
    rw [List.length_append]
    show (_, _, _) = (_, _, _)
    congr 2
    show ((a.length + 5 : Nat) : Int) = 4 + ((a.length + 1 : Nat) : Int)
    omega
  · exact kd.bad6 a x p h hl
  · exact kd.bad7 a x p h hl
  · exact kd.bad8 a x p h hl
  · exact kd.bad9 a x p h hl
set_option maxRecDepth 100000 in
set_option maxHeartbeats 3200000 in
theorem kdlWrong_any (s : List UInt8) (i : Int) (w : World) (ht : KT w) : Calls Tryz.prog 6 #[str s, .int .i64 i] w fun e w' => e = .returned (.bool true) ∧ Below w.heap.size w w' := by
  have h3 := ht.lt
  have hsz := str_size s
  have HT := Lib.hid ht
  have HAL := Lib.hid (alive_any w ht)
  clear ht
  go_enter Tryz.func6, Tryz.ntmps6
  go_wp2_with fail
  refine HAL.out.mono ?_
  rintro e w1 ⟨rfl, hb1⟩
  have HB1 := Lib.hid hb1
  clear hb1 HAL
  rcases hP : kd.parse s with ⟨N, c, x⟩
  have H1 := Lib.hid (parse_then s w1 (HT.out.below HB1.out h3).tt N c x hP)
  have HPD := Lib.hid hP
  clear hP
  go_wp2_with fail
  refine H1.out.mono ?_
  rintro e w2 ⟨o1, p1, rfl, hb2, hx1⟩
  have HX1 := Lib.hid hx1
  have HB2 : Hid (Below w1.heap.size w1 (w2.alloc (.cells #[.int .i64 c, .int .i64 x] 30))) := Lib.hid (hx1 _ (Below.refl _ _)).2.2
  clear hx1 hb2 H1
  go_upto_region 4 with fail
  have hfr := heap_alloc_new w2 (.cells #[.int .i64 c, .int .i64 x] 30)
  generalize w2.alloc (.cells #[.int .i64 c, .int .i64 x] 30) = w3 at *
  generalize w2.heap.size = b1 at *
  have y1 : w3.cell? ⟨b1, 0, none⟩ = some (.int .i64 c) := (cell_of_heap hfr).trans rfl
  have HB3 := Lib.hid (HB1.out.trans (HB2.out.mono HB1.out.size))
  clear hfr
  by_cases hc : c = 0
  case neg =>
    have hci : ((c : Int) == 0) = false := by simp; omega
    have hci2 : ((c : Int) != 0) = true := by simp; omega
    obtain rfl := kd.parse_bad _ _ _ _ HPD.out hc
    go_wp2_with fail
    go_ret
    exact ⟨rfl, HB3.out⟩
  case pos =>
    subst hc
    have y1' : w3.cell? ⟨b1, 0, none⟩ = some (.int .i64 0) := y1
    clear y1
    by_cases hl : 500 < s.length
    case pos =>
      have hli : (500 : Int) < (s.length : Int) := by omega
      go_wp2_with fail
      go_ret
      exact ⟨rfl, HB3.out⟩
    case neg =>
      have hli : ¬ (500 : Int) < (s.length : Int) := by omega
      have hwh := i64_and1023 i
      obtain ⟨m0, hm0⟩ : ∃ m0 : Nat, i % 1024 = (m0 : Int) := ⟨(i % 1024).toNat, by omega⟩
      rw [hm0] at hwh
      have hm10 : m0 % 10 < 10 := Nat.mod_lt _ (by omega)
      have hrem : Int.tmod (m0 : Int) 10 = ((m0 % 10 : Nat) : Int) := by rw [Int.tmod_eq_emod_of_nonneg (by omega)]; rfl
      clear hm0
      have hcell : (w3.alloc badO).cell? ⟨w3.heap.size, m0 % 10, none⟩ = some (str (kd.bts.getD (m0 % 10) [])) := by
        rw [World.cell?_alloc_new]
        generalize m0 % 10 = m at *
        obtain rfl | rfl | rfl | rfl | rfl | rfl | rfl | rfl | rfl | rfl : m = 0 ∨ m = 1 ∨ m = 2 ∨ m = 3 ∨ m = 4 ∨ m = 5 ∨ m = 6 ∨ m = 7 ∨ m = 8 ∨ m = 9 := by omega
        all_goals rfl
      have hm10i : ((m0 % 10 : Nat) : Int) < 10 := by omega
      have hbl : (kd.bts.getD (m0 % 10) []).length ≤ 9 := by
        generalize m0 % 10 = m at *
        obtain rfl | rfl | rfl | rfl | rfl | rfl | rfl | rfl | rfl | rfl : m = 0 ∨ m = 1 ∨ m = 2 ∨ m = 3 ∨ m = 4 ∨ m = 5 ∨ m = 6 ∨ m = 7 ∨ m = 8 ∨ m = 9 := by omega
        all_goals decide
      generalize m0 % 10 = m at *
      have HB4 := Lib.hid (HB3.out.alloc HB3.out.size badO)
      obtain ⟨bt, hbt⟩ : ∃ bt, kd.bts.getD m [] = bt := ⟨_, rfl⟩
      rw [hbt] at hcell hbl
      have HBT := Lib.hid hbt
      clear hbt
      have hcat1 := cat_any s [10]
      have hcat2 := cat_any (s ++ [10]) bt
      rw [show s ++ [10] ++ bt = s ++ 10 :: bt by simp] at hcat2
      go_upto_region 8 with fail
      have hb4 := below_one w3 badO
      generalize w3.alloc badO = w4 at *
      generalize w3.heap.size = g7 at *
      have HPB := Lib.hid (kd.bad_all s N x HPD.out (by omega) m hm10)
      rw [HBT.out] at HPB
      rcases hP2 : kd.parse (s ++ 10 :: bt) with ⟨N2, c2, x2⟩
      have H2 := Lib.hid (parse_then (s ++ 10 :: bt) w4 (HT.out.below HB4.out h3).tt N2 c2 x2 hP2)
      rw [hP2] at HPB
      clear hP2 hb4
      go_wp2_with fail
      refine H2.out.mono ?_
      rintro e w5 ⟨o2, p2, rfl, hb5, hx2⟩
      obtain ⟨-, hfr, hB5⟩ := hx2 _ (Below.refl _ _)
      have HB5 := Lib.hid (HB4.out.trans (hB5.mono HB4.out.size))
      have HFR := Lib.hid hfr
      clear hx2 hb5 hfr hB5 H2 hcell hcat1 hcat2 hwh hrem HB4
      go_upto_region 9 with fail
      generalize w5.alloc (.cells #[.int .i64 c2, .int .i64 x2] 30) = w6 at *
      generalize w5.heap.size = b2 at *
      have hn : ((s.length + 1 : Nat) : Int) = (s.length : Int) + 1 := by omega
      have hnl : (s.length : Int) ≤ 500 := by omega
      clear hli HPD HX1 HB2 HB3 HB1 y1'
      rcases HPB.out with ⟨y, e⟩ | e
      · injection e with e1 e2
        injection e2 with e2 e3
        subst e1 e2 e3
        have y2 : w6.cell? ⟨b2, 0, none⟩ = some (.int .i64 3) := (cell_of_heap HFR.out).trans rfl
        have y3 : w6.cell? ⟨b2, 1, none⟩ = some (.int .i64 x2) := (cell_of_heap HFR.out).trans rfl
        clear HPB HFR hm10i hn
        obtain rfl | rfl | rfl | rfl | rfl | rfl | rfl | rfl | rfl | rfl : m = 0 ∨ m = 1 ∨ m = 2 ∨ m = 3 ∨ m = 4 ∨ m = 5 ∨ m = 6 ∨ m = 7 ∨ m = 8 ∨ m = 9 := by omega
        all_goals
          have hbt := HBT.out
          simp only [List.getD_cons_zero, List.getD_cons_succ] at hbt
          subst hbt
          go_wp2_with fail
          go_ret
          exact ⟨rfl, HB5.out⟩
      · injection e with e1 e2
        injection e2 with e2 e3
        subst e1
        have y2 : w6.cell? ⟨b2, 0, none⟩ = some (.int .i64 c2) := (cell_of_heap HFR.out).trans rfl
        have y3 : w6.cell? ⟨b2, 1, none⟩ = some (.int .i64 x2) := (cell_of_heap HFR.out).trans rfl
        rw [e2] at y2
        rw [e3, hn] at y3
        clear HPB HFR hm10i hn e2 e3
        obtain rfl | rfl | rfl | rfl | rfl | rfl | rfl | rfl | rfl | rfl : m = 0 ∨ m = 1 ∨ m = 2 ∨ m = 3 ∨ m = 4 ∨ m = 5 ∨ m = 6 ∨ m = 7 ∨ m = 8 ∨ m = 9 := by omega
        · have z2 : w6.cell? ⟨b2, 0, none⟩ = some (.int .i64 80) := y2
          have z3 : w6.cell? ⟨b2, 1, none⟩ = some (.int .i64 ((s.length : Int) + 1)) := y3.trans (congrArg (fun k => some (Value.int .i64 k)) (show (0 : Int) + ((s.length : Int) + 1) = (s.length : Int) + 1 by omega))
          have hbt := HBT.out
          simp only [List.getD_cons_zero] at hbt
          subst hbt
          clear y2 y3
          go_wp2_with fail
          go_ret
          exact ⟨rfl, HB5.out⟩
        · have z2 : w6.cell? ⟨b2, 0, none⟩ = some (.int .i64 80) := y2
          have z3 : w6.cell? ⟨b2, 1, none⟩ = some (.int .i64 ((s.length : Int) + 1)) := y3.trans (congrArg (fun k => some (Value.int .i64 k)) (show (0 : Int) + ((s.length : Int) + 1) = (s.length : Int) + 1 by omega))
          have hbt := HBT.out
          simp only [List.getD_cons_zero, List.getD_cons_succ] at hbt
          subst hbt
          clear y2 y3
          go_wp2_with fail
          go_ret
          exact ⟨rfl, HB5.out⟩
        · have z2 : w6.cell? ⟨b2, 0, none⟩ = some (.int .i64 80) := y2
          have z3 : w6.cell? ⟨b2, 1, none⟩ = some (.int .i64 ((s.length : Int) + 1)) := y3.trans (congrArg (fun k => some (Value.int .i64 k)) (show (0 : Int) + ((s.length : Int) + 1) = (s.length : Int) + 1 by omega))
          have hbt := HBT.out
          simp only [List.getD_cons_zero, List.getD_cons_succ] at hbt
          subst hbt
          clear y2 y3
          go_wp2_with fail
          go_ret
          exact ⟨rfl, HB5.out⟩
        · have z2 : w6.cell? ⟨b2, 0, none⟩ = some (.int .i64 80) := y2
          have z3 : w6.cell? ⟨b2, 1, none⟩ = some (.int .i64 ((s.length : Int) + 1)) := y3.trans (congrArg (fun k => some (Value.int .i64 k)) (show (0 : Int) + ((s.length : Int) + 1) = (s.length : Int) + 1 by omega))
          have hbt := HBT.out
          simp only [List.getD_cons_zero, List.getD_cons_succ] at hbt
          subst hbt
          clear y2 y3
          go_wp2_with fail
          go_ret
          exact ⟨rfl, HB5.out⟩
        · have z2 : w6.cell? ⟨b2, 0, none⟩ = some (.int .i64 82) := y2
          have z3 : w6.cell? ⟨b2, 1, none⟩ = some (.int .i64 ((s.length : Int) + 1 + 3)) := y3.trans (congrArg (fun k => some (Value.int .i64 k)) (show (3 : Int) + ((s.length : Int) + 1) = (s.length : Int) + 1 + 3 by omega))
          have hbt := HBT.out
          simp only [List.getD_cons_zero, List.getD_cons_succ] at hbt
          subst hbt
          clear y2 y3
          go_wp2_with fail
          go_ret
          exact ⟨rfl, HB5.out⟩
        · have z2 : w6.cell? ⟨b2, 0, none⟩ = some (.int .i64 82) := y2
          have z3 : w6.cell? ⟨b2, 1, none⟩ = some (.int .i64 ((s.length : Int) + 1 + 4)) := y3.trans (congrArg (fun k => some (Value.int .i64 k)) (show (4 : Int) + ((s.length : Int) + 1) = (s.length : Int) + 1 + 4 by omega))
          have hbt := HBT.out
          simp only [List.getD_cons_zero, List.getD_cons_succ] at hbt
          subst hbt
          clear y2 y3
          go_wp2_with fail
          go_ret
          exact ⟨rfl, HB5.out⟩
        · have z2 : w6.cell? ⟨b2, 0, none⟩ = some (.int .i64 80) := y2
          have z3 : w6.cell? ⟨b2, 1, none⟩ = some (.int .i64 ((s.length : Int) + 1 + 4)) := y3.trans (congrArg (fun k => some (Value.int .i64 k)) (show (4 : Int) + ((s.length : Int) + 1) = (s.length : Int) + 1 + 4 by omega))
          have hbt := HBT.out
          simp only [List.getD_cons_zero, List.getD_cons_succ] at hbt
          subst hbt
          clear y2 y3
          go_wp2_with fail
          go_ret
          exact ⟨rfl, HB5.out⟩
        · have z2 : w6.cell? ⟨b2, 0, none⟩ = some (.int .i64 81) := y2
          have z3 : w6.cell? ⟨b2, 1, none⟩ = some (.int .i64 ((s.length : Int) + 1 + 6)) := y3.trans (congrArg (fun k => some (Value.int .i64 k)) (show (6 : Int) + ((s.length : Int) + 1) = (s.length : Int) + 1 + 6 by omega))
          have hbt := HBT.out
          simp only [List.getD_cons_zero, List.getD_cons_succ] at hbt
          subst hbt
          clear y2 y3
          go_wp2_with fail
          go_ret
          exact ⟨rfl, HB5.out⟩
        · have z2 : w6.cell? ⟨b2, 0, none⟩ = some (.int .i64 80) := y2
          have z3 : w6.cell? ⟨b2, 1, none⟩ = some (.int .i64 ((s.length : Int) + 1 + 2)) := y3.trans (congrArg (fun k => some (Value.int .i64 k)) (show (2 : Int) + ((s.length : Int) + 1) = (s.length : Int) + 1 + 2 by omega))
          have hbt := HBT.out
          simp only [List.getD_cons_zero, List.getD_cons_succ] at hbt
          subst hbt
          clear y2 y3
          go_wp2_with fail
          go_ret
          exact ⟨rfl, HB5.out⟩
        · have z2 : w6.cell? ⟨b2, 0, none⟩ = some (.int .i64 80) := y2
          have z3 : w6.cell? ⟨b2, 1, none⟩ = some (.int .i64 ((s.length : Int) + 1 + 5)) := y3.trans (congrArg (fun k => some (Value.int .i64 k)) (show (5 : Int) + ((s.length : Int) + 1) = (s.length : Int) + 1 + 5 by omega))
          have hbt := HBT.out
          simp only [List.getD_cons_zero, List.getD_cons_succ] at hbt
          subst hbt
          clear y2 y3
          go_wp2_with fail
          go_ret
          exact ⟨rfl, HB5.out⟩
end Go.Proofs.YthmiaamjbokljaaGreatDoor
