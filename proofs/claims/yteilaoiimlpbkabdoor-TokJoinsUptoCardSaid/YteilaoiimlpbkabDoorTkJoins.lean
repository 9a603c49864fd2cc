/- TokJoins, walked: it returns true. -/
import Derived.Test.YteilaoiimlpbkabDoorTkJoinP
import Derived.Test.YteilaoiimlpbkabDoorTkAlive
namespace Go.Proofs.YteilaoiimlpbkabDoor
open Go.RowKit
set_option maxRecDepth 100000 in
set_option maxHeartbeats 1200000 in
theorem tokJoins_any (a b : List UInt8) (w : World) (ht : TT w) (hla : a.length ≤ 1048576) (hlb : b.length ≤ 1048576) : Calls Tryd.prog 3 #[str a, str b] w fun e w' => e = .returned (.bool true) ∧ Below w.heap.size w w' := by
  have h3 := ht.lt
  have HT := Lib.hid ht
  have HA := Lib.hid (alive_any w ht)
  have hsa := str_size a
  have hsb := str_size b
  have hj := tk.tokens_join a b
  have hp := tk.tokens_place b
  rcases hTA : tk.tokens a with ⟨la, ca, pa⟩
  rcases hTB : tk.tokens b with ⟨lb, cb, pb⟩
  rcases hTC : tk.tokens (a ++ 10 :: b) with ⟨lc, cc, pc⟩
  rw [hTA, hTB, hTC] at hj
  rw [hTB] at hp
  dsimp only at hj hp
  have HJ := Lib.hid hj
  have HP := Lib.hid hp
  have HKA := Lib.hid (fun W hW => tokens_then a W hW hla la ca pa hTA)
  have HKB := Lib.hid (fun W hW => tokens_then b W hW hlb lb cb pb hTB)
  have HKC := Lib.hid (fun W hW hl => tokens_then (a ++ 10 :: b) W hW hl lc cc pc hTC)
  have HLC : Hid ((a ++ 10 :: b).length = a.length + b.length + 1) := Lib.hid (by rw [List.length_append, List.length_cons]; omega)
  have hcat := join_bytes a b
  clear hj hp hTA hTB hTC
  clear ht
  obtain ⟨n, hn⟩ : ∃ n, a.length = n := ⟨_, rfl⟩
  obtain ⟨m, hm⟩ : ∃ m, b.length = m := ⟨_, rfl⟩
  rw [hn] at hsa hla HJ HLC
  rw [hm] at hsb hlb HJ HLC
  clear hn hm
  go_enter Tryd.func3, Tryd.ntmps3
  go_wp2_with fail
  refine HA.out.mono ?_
  rintro e w1 ⟨rfl, hb1⟩
  have HB1 := Lib.hid hb1
  clear hb1 HA
  go_wp2_with fail
  refine (HKA.out w1 (HT.out.below HB1.out h3)).mono ?_
  rintro e w2 ⟨VA, rfl, hb2, hx2⟩
  have HX2 := Lib.hid hx2
  have HB2 : Hid (Below w1.heap.size w1 (w2.alloc (.cells #[.int .i64 ca, .int .i64 pa] 26))) := Lib.hid (hx2 _ (Below.refl _ _)).2.2
  obtain ⟨aoa, aca, rfl⟩ := own_slice (hx2 _ (Below.refl _ _)).1
  clear hx2 hb2 HKA
  go_wp2_with fail
  generalize w2.alloc (.cells #[.int .i64 ca, .int .i64 pa] 26) = w3 at *
  generalize w2.heap.size = fa at *
  have HB3 := Lib.hid (HB1.out.trans (HB2.out.mono HB1.out.size))
  refine (HKB.out w3 (HT.out.below HB3.out h3)).mono ?_
  rintro e w4 ⟨VB, rfl, hb4, hx4⟩
  have HX4 := Lib.hid hx4
  have HB4 : Hid (Below w3.heap.size w3 (w4.alloc (.cells #[.int .i64 cb, .int .i64 pb] 26))) := Lib.hid (hx4 _ (Below.refl _ _)).2.2
  obtain ⟨aob, acb, rfl⟩ := own_slice (hx4 _ (Below.refl _ _)).1
  clear hx4 hb4 HKB
  go_upto_region 5 with fail
  generalize w4.alloc (.cells #[.int .i64 cb, .int .i64 pb] 26) = w5 at *
  generalize w4.heap.size = fb at *
  have HB5 := Lib.hid (HB3.out.trans (HB4.out.mono HB3.out.size))
  obtain ⟨ra, ya, _⟩ := HX2.out w5 HB4.out
  obtain ⟨rb, yb, _⟩ := HX4.out w5 (Below.refl _ _)
  have a0 : w5.cell? ⟨fa, 0, none⟩ = some (.int .i64 ca) := (cell_of_heap ya).trans rfl
  have a1 : w5.cell? ⟨fa, 1, none⟩ = some (.int .i64 pa) := (cell_of_heap ya).trans rfl
  have b0 : w5.cell? ⟨fb, 0, none⟩ = some (.int .i64 cb) := (cell_of_heap yb).trans rfl
  have b1 : w5.cell? ⟨fb, 1, none⟩ = some (.int .i64 pb) := (cell_of_heap yb).trans rfl
  have hfa : fa < w5.heap.size := (Array.getElem?_eq_some_iff.1 ya).1
  have hfb : fb < w5.heap.size := (Array.getElem?_eq_some_iff.1 yb).1
  have HRA := Lib.hid (TkIn.row ra)
  have HRB := Lib.hid (TkIn.row rb)
  clear ra rb ya yb HX2 HX4 HB4 HB2 HB1 HB3
  by_cases hca : ca = 0
  case neg =>
    have hci : ((ca : Int) == 0) = false := by simp; omega
    go_wp2_with fail
    go_ret
    exact ⟨rfl, HB5.out⟩
  have hci : ((ca : Int) == 0) = true := by simp; omega
  by_cases hnm : 4000 < n + m
  case pos =>
    have hni : decide ((4000 : Int) < (n : Int) + (m : Int)) = true := decide_eq_true (by omega)
    go_wp2_with fail
    go_ret
    exact ⟨rfl, HB5.out⟩
  have hni : decide ((4000 : Int) < (n : Int) + (m : Int)) = false := decide_eq_false (by omega)
  have HJ2 := Lib.hid (HJ.out hca (by omega))
  have HKD := Lib.hid (HKC.out w5 (HT.out.below HB5.out h3) (by rw [HLC.out]; omega))
  have hnb : n ≤ 4000 := by omega
  have hmb : m ≤ 4000 := by omega
  clear HJ HKC HT hla hlb
  go_wp2_with fail
  refine HKD.out.mono ?_
  rintro e w6 ⟨VC, rfl, hb6, hx6⟩
  have HX6 := Lib.hid hx6
  have HB6 : Hid (Below w5.heap.size w5 (w6.alloc (.cells #[.int .i64 cc, .int .i64 pc] 26))) := Lib.hid (hx6 _ (Below.refl _ _)).2.2
  obtain ⟨aoc, acc, rfl⟩ := own_slice (hx6 _ (Below.refl _ _)).1
  clear hx6 hb6 HKD hcat
  go_upto_region 8 with fail
  generalize w6.alloc (.cells #[.int .i64 cc, .int .i64 pc] 26) = w7 at *
  generalize w6.heap.size = fc at *
  have HB7 := Lib.hid (HB5.out.trans (HB6.out.mono HB5.out.size))
  obtain ⟨rc, yc, _⟩ := HX6.out w7 (Below.refl _ _)
  have g0 : w7.cell? ⟨fb, 0, none⟩ = some (.int .i64 cb) := (HB6.out.cell (p := ⟨fb, 0, none⟩) hfb).trans b0
  have g1 : w7.cell? ⟨fb, 1, none⟩ = some (.int .i64 pb) := (HB6.out.cell (p := ⟨fb, 1, none⟩) hfb).trans b1
  have c0 : w7.cell? ⟨fc, 0, none⟩ = some (.int .i64 cc) := (cell_of_heap yc).trans rfl
  have c1 : w7.cell? ⟨fc, 1, none⟩ = some (.int .i64 pc) := (cell_of_heap yc).trans rfl
  have HRC := Lib.hid (TkIn.row rc)
  have HRA7 := Lib.hid (HRA.out.below HB6.out)
  have HRB7 := Lib.hid (HRB.out.below HB6.out)
  clear rc yc HX6 HB6 HRA HRB HB5 a0 a1 b0 b1 hfa hfb
  by_cases hcb : cb = 0
  case neg =>
    have hcbi : ((cb : Int) == 0) = false := by simp; omega
    obtain ⟨e1, e2⟩ := Prod.mk.inj (HJ2.out.2 hcb)
    obtain ⟨e2, e3⟩ := Prod.mk.inj e2
    replace e3 : pc = pb + (n : Int) + 1 := by omega
    have hp0 := HP.out.1
    have hp1 := HP.out.2
    subst e1 e2 e3
    simp only [List.length_nil]
    clear HJ2 HP HRC HRA7 HRB7 hcb hnm hni hca hci
    go_wp2_with fail
    go_ret
    exact ⟨rfl, HB7.out⟩
  have hcbi : ((cb : Int) == 0) = true := by simp; omega
  obtain ⟨e1, e2⟩ := Prod.mk.inj (HJ2.out.1 hcb)
  obtain ⟨e2, e3⟩ := Prod.mk.inj e2
  subst e2 e3
  obtain ⟨p, hp⟩ : ∃ p, la.length = p := ⟨_, rfl⟩
  obtain ⟨q, hq⟩ : ∃ q, lb.length = q := ⟨_, rfl⟩
  obtain ⟨N, hlc⟩ : ∃ N, lc.length = N := ⟨_, rfl⟩
  have hN : N = p + q + 1 := by rw [← hlc, e1, List.length_append, List.length_cons, List.length_map, hp, hq]; omega
  subst hN
  rw [hp] at HRA7 ⊢
  rw [hq] at HRB7 ⊢
  rw [hlc] at HRC ⊢
  have hmz := HRC.out.max
  have hlz := HRC.out.le
  have hlx := HRA7.out.le
  have hmx := HRA7.out.max
  have hly := HRB7.out.le
  have hmy := HRB7.out.max
  have HL1 : Hid (∀ W, Below w7.heap.size w7 W → Calls Tryd.prog 8 #[.slice aoc p acc, .slice aoa p aca] W fun e w' => e = .returned (.bool true) ∧ Below W.heap.size W w') := Lib.hid (fun W hb => like_any aoc acc (lc.take p) aoa aca la p W ((HRC.out.hi p (by omega)).below hb) (HRA7.out.below hb) (by rw [e1, ← hp, List.take_left]))
  have HL2 : Hid (∀ W, Below w7.heap.size w7 W → Calls Tryd.prog 8 #[.slice (slo aoc acc (p + 1)) q (acc - (p + 1)), .slice aob q acb] W fun e w' => e = .returned (.bool true) ∧ Below W.heap.size W w') := Lib.hid (fun W hb => by
    have h1 := (HRC.out.lo (p + 1) (by omega)).below hb
    rw [show p + q + 1 - (p + 1) = q by omega] at h1
    refine like_any _ _ _ aob acb lb q W h1 (HRB7.out.below hb) ?_
    rw [e1, ← tk.key_sh (n + 1) lb, ← hp, List.drop_append, List.drop_eq_nil_of_le (Nat.le_succ _), List.nil_append, show la.length + 1 - la.length = 1 by omega]
    rfl)
  obtain ⟨bz, oz, rfl, hbz, hcz⟩ : ∃ bz oz, aoc = some ⟨bz, oz, none⟩ ∧ bz < w7.heap.size ∧ w7.cell? ⟨bz, oz + p * 4, none⟩ = some (.int .i64 (5 : Nat)) ∧ w7.cell? ⟨bz, oz + p * 4 + 3, none⟩ = some (.int .i64 n) := by
    rcases HRC.out.at_ with h0 | ⟨bz, oz, e, hb, hc⟩
    · omega
    · obtain ⟨z0, _, _, z3⟩ := hc p { kind := 5, text := [10], at_ := n } (by rw [e1, ← hp, List.getElem?_append_right (Nat.le_refl _)]; simp)
      exact ⟨bz, oz, e, hb, z0, z3⟩
  obtain ⟨z0, z3⟩ := hcz
  have hsh := fun k wx => run_shi (some ⟨bz, oz, none⟩) (p + q + 1) acc k p (by omega) hlz wx
  have hsl := fun k wx => run_slo' (some ⟨bz, oz, none⟩) (p + q + 1) acc (p + 1) ((p : Int) + 1) (by omega) (by omega) k wx
  rw [show p + q + 1 - (p + 1) = q by omega] at hsl
  have hpN : (p : Int) < (p : Int) + (q : Int) + 1 := by omega
  clear HRC HRA7 HRB7 HJ2 HP e1 hp hq hlc hcb hnm hni hca
  go_wp2_with fail
  refine (HL1.out w7 (Below.refl _ _)).mono ?_
  rintro e w8 ⟨rfl, hb8⟩
  have y0 : w8.cell? ⟨bz, oz + p * 4, none⟩ = some (.int .i64 (5 : Nat)) := (hb8.cell (p := ⟨bz, oz + p * 4, none⟩) hbz).trans z0
  have y3 : w8.cell? ⟨bz, oz + p * 4 + 3, none⟩ = some (.int .i64 n) := (hb8.cell (p := ⟨bz, oz + p * 4 + 3, none⟩) hbz).trans z3
  have hbz8 : bz < w8.heap.size := Nat.lt_of_lt_of_le hbz hb8.size
  have HL3 := Lib.hid (HL2.out w8 hb8)
  have HB8 := Lib.hid (HB7.out.trans (hb8.mono HB7.out.size))
  clear z0 z3 hb8 HL1 HL2 g0 g1 c0 c1
  go_wp2_with fail
  refine HL3.out.mono ?_
  rintro e w9 ⟨rfl, hb9⟩
  have HB9 := Lib.hid (HB8.out.trans (hb9.mono HB8.out.size))
  clear hb9
  go_wp2_with fail
  go_ret
  exact ⟨rfl, HB9.out⟩
end Go.Proofs.YteilaoiimlpbkabDoor
