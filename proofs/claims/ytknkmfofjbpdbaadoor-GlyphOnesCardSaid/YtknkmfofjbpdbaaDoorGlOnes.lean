/- The walk of GlyphOnes. -/
import Derived.Test.YtknkmfofjbpdbaaDoorGlOnesM
import Derived.Test.YtknkmfofjbpdbaaDoorGlWrites
namespace Go.Proofs.YtknkmfofjbpdbaaDoor
open Go.RowKit
set_option maxRecDepth 100000 in
theorem run_shi_b (o : Option Addr) (n cap l : Nat) (hl : (l : Int) ≤ (n : Int)) (hle : (n : Int) ≤ (cap : Int)) (k : IntKind) (wx : World) : (Instr.slice 22 (.slice o n cap) none (some (.int k (l : Int))) none).run Tryd.prog wx = .ok (.slice o l cap) wx := by
  rw [run_slice_h wx 22 o n cap Tryd.underlying22 k l (by omega) (by omega)]
  have hz : (sizeOf (Tryd.prog.elem 22)).run Tryd.prog wx = .ok 1 wx := by kernel_rfl
  rw [hz]
  have e : (fun x : Addr => x.add 0) = id := funext addr_add0
  simp [Result.andThen, sliced, e]
set_option maxRecDepth 100000 in
theorem run_shi_r2 (o : Option Addr) (n cap l : Nat) (hl : (l : Int) ≤ (n : Int)) (hle : (n : Int) ≤ (cap : Int)) (k : IntKind) (wx : World) : (Instr.slice 24 (.slice o n cap) none (some (.int k (l : Int))) none).run Tryd.prog wx = .ok (.slice o l cap) wx := run_shi_r o n cap l (by omega) (by omega) k wx
attribute [local go_sem ↓ 10000] run_shi_b run_shi_r2

theorem i64_and3 (n : Int) : bits .and .i64 n 3 = n % 4 := by
  have h7 : (BitVec.ofInt 64 3).toNat = 2 ^ 2 - 1 := by decide
  have key : (BitVec.ofInt 64 n &&& BitVec.ofInt 64 3).toNat = (n % ((2 ^ 64 : Nat) : Int)).toNat % 2 ^ 2 := by
    rw [BitVec.toNat_and, BitVec.toNat_ofInt, h7, Nat.and_two_pow_sub_one_eq_mod]
  show IntKind.i64.wrap ((BitVec.ofInt 64 n &&& BitVec.ofInt 64 3).toNat : Nat) = n % 4
  rw [key, IntKind.wrap_i64]
  omega
theorem wd_none (r : Int) (h0 : -2147483648 ≤ r) (h1 : r ≤ 2147483647) (h : isR r = false) : wd r = 0 := by
  unfold wd
  rw [if_pos]
  rw [narrow_iff]
  have : ¬ (isR r = true) := by rw [h]; simp
  rw [isR_iff] at this
  omega
theorem encs_one (r : Int) : encs [r] = Lib.encodeRune r := by simp [encs]
theorem fix_rune {r : Int} (h : isR r = true) : gl.fix r = r := by rw [fix_isR, if_pos h]
set_option maxRecDepth 100000 in
set_option maxHeartbeats 1600000 in
theorem ones_any (r s n : Int) (w : World) (ht : UTabs w) (hr32 : -2147483648 ≤ r ∧ r ≤ 2147483647) (hs32 : -2147483648 ≤ s ∧ s ≤ 2147483647) (_hn : I64 n) :
    Calls Tryd.prog 9 #[.int .i32 r, .int .i32 s, .int .i64 n] w fun e w' => e = .returned (.bool true) ∧ Below w.heap.size w w' := by
  have HA := Lib.hid (alive_any w ht)
  have HI := Lib.hid (fun W => refIsRune_any r W)
  have HJ := Lib.hid (fun W => refIsRune_any s W)
  have HW := Lib.hid (fun W => width_any r W)
  have HV := Lib.hid (fun W => width_any 55296 W)
  rw [show wd 55296 = 0 by decide] at HV
  cases hr : isR r with
  | false =>
    rw [hr] at HI
    rw [wd_none r hr32.1 hr32.2 hr] at HW
    clear hr
    go_enter Tryd.func9, Tryd.ntmps9
    go_wp2_with fail
    refine HA.out.mono ?_
    rintro e w1 ⟨rfl, hb1⟩
    have HB1 := Lib.hid hb1
    clear hb1 HA
    go_wp2_with fail
    refine (HI.out _).mono ?_
    rintro e w2 ⟨rfl, rfl⟩
    go_wp2_with fail
    refine (HV.out _).mono ?_
    rintro e w2 ⟨rfl, hb2⟩
    have HB2 := Lib.hid (HB1.out.trans (hb2.mono HB1.out.size))
    clear hb2
    go_wp2_with fail
    refine (HI.out _).mono ?_
    rintro e w3 ⟨rfl, rfl⟩
    go_wp2_with fail
    refine (HW.out _).mono ?_
    rintro e w3 ⟨rfl, hb3⟩
    have HB3 := Lib.hid (HB2.out.trans (hb3.mono HB2.out.size))
    clear hb3
    go_wp2_with fail
    go_ret
    exact ⟨rfl, HB3.out⟩
  | true =>
  rw [hr] at HI
  cases hs : isR s with
  | false =>
    rw [hs] at HJ
    clear hr hs
    go_enter Tryd.func9, Tryd.ntmps9
    go_wp2_with fail
    refine HA.out.mono ?_
    rintro e w1 ⟨rfl, hb1⟩
    have HB1 := Lib.hid hb1
    clear hb1 HA
    go_wp2_with fail
    refine (HI.out _).mono ?_
    rintro e w2 ⟨rfl, rfl⟩
    go_wp2_with fail
    refine (HJ.out _).mono ?_
    rintro e w2 ⟨rfl, rfl⟩
    go_wp2_with fail
    refine (HV.out _).mono ?_
    rintro e w2 ⟨rfl, hb2⟩
    have HB2 := Lib.hid (HB1.out.trans (hb2.mono HB1.out.size))
    clear hb2
    go_wp2_with fail
    refine (HI.out _).mono ?_
    rintro e w3 ⟨rfl, rfl⟩
    go_wp2_with fail
    go_ret
    exact ⟨rfl, HB2.out⟩
  | true =>
  rw [hs] at HJ
  obtain ⟨i0, hi, hz0, hz1, hz2⟩ := info_parts infoB
  have hfr := fix_rune hr
  have hq1 := gl.enc_length r
  have hq2 := gl.enc_length s
  have hone := gl.runes_enc r []
  rw [List.append_nil, hfr, gl.runes_nil] at hone
  have hcut := fun N h => gl.runes_cut r s N h
  rw [hfr] at hcut
  have CR := Lib.hid (fun X => bytes_any _ _ _ [r] _ (sliceN_new X 21 [r] (by simp) (by simpa using hr32) _ rfl) (by simp))
  have CS := Lib.hid (fun X => bytes_any _ _ _ [s] _ (sliceN_new X 21 [s] (by simp) (by simpa using hs32) _ rfl) (by simp))
  rw [encs_one] at CR CS
  generalize Lib.encodeRune r = ER at *
  generalize Lib.encodeRune s = ES at *
  have HT := Lib.hid ht; have HONE := Lib.hid hone; have HCUT := Lib.hid hcut
  clear hr hs hfr hone hcut ht hr32 hs32
  go_enter Tryd.func9, Tryd.ntmps9
  go_wp2_with fail
  refine HA.out.mono ?_
  rintro e w1 ⟨rfl, hb1⟩
  have HB1 := Lib.hid hb1
  clear hb1 HA
  go_wp2_with fail
  refine (HI.out _).mono ?_
  rintro e w2 ⟨rfl, rfl⟩
  go_wp2_with fail
  refine (HJ.out _).mono ?_
  rintro e w2 ⟨rfl, rfl⟩
  go_wp2_with fail
  refine (CR.out _).mono ?_
  rintro e w2 ⟨ro, m, rc, rfl, hO2, hb2⟩
  have hb2' := (below_one w1 _).trans (hb2.mono (by simp))
  have HB2 := Lib.hid (HB1.out.trans (hb2'.mono HB1.out.size))
  have hbt2 : Bts w2 ro m rc ER := hO2.nums
  have HO2 := Lib.hid hbt2
  obtain rfl : ER.length = m := hbt2.size
  clear hO2 hb2 hb2' hbt2 CR
  go_wp2_with fail
  refine (CS.out _).mono ?_
  rintro e w3 ⟨ro', m', rc', rfl, hO3, hb3⟩
  have hb3' := (below_one w2 _).trans (hb3.mono (by simp))
  have HB3 := Lib.hid (HB2.out.trans (hb3'.mono HB2.out.size))
  have hbt3 : Bts w3 ro' m' rc' ES := hO3.nums
  have HS3 := Lib.hid hbt3
  have HR3 : Hid (Bts w3 ro ER.length rc ER) := Lib.hid (HO2.out.below hb3')
  obtain rfl : ES.length = m' := hbt3.size
  have hcle : ES.length ≤ rc' := hbt3.le
  have hcmx : rc' ≤ 9223372036854775807 := hbt3.max
  clear hO3 hb3 hb3' hbt3 HO2 CS
  have CO := Lib.hid (runes_any ro _ rc ER w3 HR3.out (HT.out.step HB3.out) (by omega))
  rw [HONE.out] at CO
  go_wp2_with fail
  refine CO.out.mono ?_
  rintro e w4 ⟨o4, m4, c4, rfl, hO4, hb4⟩
  obtain rfl : m4 = 1 := by have := hO4.len; simpa using this.symm
  obtain ⟨b4, off4, rfl, hlt4, k4⟩ := hO4.nums.cell (k := 0) (by omega)
  rw [show ([r] : List Int).getD 0 0 = r from rfl, Nat.add_zero] at k4
  have HB4 := Lib.hid (HB3.out.trans (hb4.mono HB3.out.size))
  have HS4 : Hid (Bts w4 ro' ES.length rc' ES) := Lib.hid (HS3.out.below hb4)
  have HR4 : Hid (Bts w4 ro ER.length rc ER) := Lib.hid (HR3.out.below hb4)
  clear hO4 hb4 CO HR3 HS3
  have h3 := i64_and3 n
  obtain ⟨N0, hN0⟩ : ∃ N0 : Nat, n % 4 = (N0 : Int) := ⟨(n % 4).toNat, by omega⟩
  rw [hN0] at h3
  have hN4 : N0 ≤ 3 := by omega
  have hES : 0 < ES.length := by omega
  obtain ⟨N, hN⟩ : ∃ N : Nat, (N0 : Int) % (ES.length : Int) = (N : Int) := ⟨((N0 : Int) % (ES.length : Int)).toNat, by have := Int.emod_nonneg (N0 : Int) (show (ES.length : Int) ≠ 0 by omega); omega⟩
  have hNlt : N < ES.length := by have := Int.emod_lt_of_pos (N0 : Int) (show (0 : Int) < (ES.length : Int) by omega); omega
  have hcu := HCUT.out N hNlt
  clear hN0
  generalize hq1' : ER.length = q1 at *
  generalize hq2' : ES.length = q2 at *
  have hbt5 := (slice_hi_b HS4.out N (by omega) N rfl).2
  rw [u8s_take] at hbt5
  have HS5 := Lib.hid (hbt5.below (below_one w4 (.cells #[] 5)))
  have HO5 := Lib.hid (own_made0 (w := w4) (B := w4.heap.size) 0 #[] (Nat.le_refl _) (by unfold maxLen; omega) rfl 5 .u8)
  have hNi : (N : Int) ≤ (q2 : Int) := by omega
  have hci : (q2 : Int) ≤ (rc' : Int) := by omega
  have hs4 : w.heap.size ≤ w4.heap.size := HB4.out.size
  have HCU := Lib.hid hcu
  clear hbt5 hcu HCUT HS4
  go_wp2_with (at_builtin; refine wpList_append_nums (K := .u8) rfl _ _ 22 rfl w4.heap.size 5 i0 (Value.int .u8 0) 1 Tryd.underlying22 hi hz0 hz1 hz2 (by decide) rfl (.slice (some ⟨w4.heap.size, 0, none⟩) 0 0) 0 [] rfl ?c1 ro' N rc' (u8s (ES.take N)) rfl ?c0 ?c2 ?c3 ?_)
  case c1 => exact HO5.out.row
  case c0 => exact HS5.out
  case c2 => omega
  case c3 => simp
  intro v' w5 hr5 hg5 _
  obtain ⟨ro5, rc5, rfl, hO5⟩ := Own.of (K := .u8) (xs := u8s (ES.take N)) (by simpa [cs] using hr5)
  have hk5 : Below w4.heap.size w4 w5 := (below_one w4 (.cells #[] 5)).trans (grown_below hg5 HO5.out.row (by simp))
  have HK5 := Lib.hid hk5
  have HR5 : Hid (Bts w5 ro q1 rc ER) := Lib.hid (HR4.out.below hk5)
  have HO5' := Lib.hid hO5
  have hs5 : w4.heap.size ≤ w5.heap.size := hk5.size
  clear hr5 hg5 hO5 hk5 HO5 HS5 HR4
  go_wp2_with (at_builtin; refine wpList_append_nums (K := .u8) rfl _ _ 22 rfl w4.heap.size 5 i0 (Value.int .u8 0) 1 Tryd.underlying22 hi hz0 hz1 hz2 (by decide) rfl (.slice ro5 N rc5) N (u8s (ES.take N)) rfl ?d1 ro q1 rc (u8s ER) rfl ?d0 ?d2 ?d3 ?_)
  case d1 => exact HO5'.out.row
  case d0 => exact HR5.out
  case d2 => omega
  case d3 => exact hs5
  intro v' w6 hr6 hg6 _
  obtain ⟨ro6, rc6, rfl, hO6⟩ := Own.of (K := .u8) (xs := u8s (ES.take N ++ ER)) (by rw [u8s_append]; simpa [cs] using hr6)
  have hk6 : Below w4.heap.size w4 w6 := HK5.out.trans (grown_below hg6 HO5'.out.row hs5)
  have HB6 := Lib.hid (HB4.out.trans (hk6.mono hs4))
  have hbt6 : Bts w6 ro6 (N + q1) rc6 (ES.take N ++ ER) := hO6.nums
  have CT := Lib.hid (runes_any ro6 _ rc6 _ w6 hbt6 (HT.out.step HB6.out) (by omega))
  rw [HCU.out] at CT
  have k6 : w6.cell? ⟨b4, off4, none⟩ = some (.int .i32 r) := (hk6.cell (p := ⟨b4, off4, none⟩) hlt4).trans k4
  clear hr6 hg6 hO6 hbt6 HO5' HR5 HK5 hk6
  go_wp2_with fail
  refine CT.out.mono ?_
  rintro e w7 ⟨o7, m7, c7, rfl, hO7, hb7⟩
  obtain rfl : m7 = N + 1 := by have := hO7.len; simpa using this.symm
  have HB7 := Lib.hid (HB6.out.trans (hb7.mono HB6.out.size))
  obtain ⟨b7, off7, rfl, hlt7, k7⟩ := hO7.nums.cell (k := N) (by omega)
  rw [show (List.replicate N (65533 : Int) ++ [r]).getD N 0 = r by simp [List.getD]] at k7
  have hall := Lib.hid (fun j (hj : j < N) => by
    obtain ⟨b8, off8, he, _, k8⟩ := hO7.nums.cell (k := j) (by omega)
    have he' := Option.some.inj he
    have h1 : b7 = b8 := congrArg Addr.block he'
    have h2 : off7 = off8 := congrArg Addr.off he'
    subst h1 h2
    rw [show (List.replicate N (65533 : Int) ++ [r]).getD j 0 = 65533 by simp [List.getD, List.getElem?_append_left, hj]] at k8
    exact (show w7.cell? ⟨b7, off7 + j, none⟩ = some (.int .i32 65533) from k8))
  have hc7 : ((N + 1 : Nat) : Int) ≤ (c7 : Int) := by have := hO7.nums.le; omega
  have hm7 : c7 ≤ 9223372036854775807 := hO7.nums.max
  have hN1 : (N : Int) ≤ ((N + 1 : Nat) : Int) := by omega
  clear hO7 hb7 CT k6
  go_wp2_with fail
  go_loopg [92] N (fun gg s92 wr => ∃ k : Nat, s92 = .int .i64 k ∧ k ≤ N ∧ N - k ≤ gg ∧ Hid (wr = w7))
  case atStart => exact ⟨0, rfl, Nat.zero_le _, by omega, Lib.hid rfl⟩
  case round =>
    obtain ⟨k, rfl, hk, hgg, HWR⟩ := hrel
    obtain rfl := HWR.out
    by_cases hlt : k < N
    · have k8 := hall.out k hlt
      go_wp2_with fail
      go_roundg (N - (k + 1))
      case measure => omega
      case rel => exact ⟨k + 1, by go_num, by omega, Nat.le_refl _, Lib.hid rfl⟩
    · obtain rfl : k = N := by omega
      go_wp2_with fail
      go_ret
      exact ⟨rfl, HB7.out⟩
end Go.Proofs.YtknkmfofjbpdbaaDoor
