/- The walk of GlyphSums. -/
import Derived.Test.YtknkmfofjbpdbaaDoorGlAlive
namespace Go.Proofs.YtknkmfofjbpdbaaDoor
open Go.RowKit
attribute [local go_sem ↓ 10000] run_slo_r

theorem cutK_fits : ∀ (l : List Int) (w T : Int), T ≤ w → T + sumW (l.take (cutK l w T)) ≤ w
  | [], w, T, h => by simp [cutK, sumW]; exact h
  | r :: l, w, T, h => by
    unfold cutK
    split
    · simp [sumW]; exact h
    · have := cutK_fits l w (T + wd r) (by omega)
      rw [List.take_succ_cons, sumW_cons]
      omega
theorem SliceN.of_own {w : World} {B : Nat} {e : TypeId} {o : Option Addr} {n cap : Nat} {zs : List Int} (h : Own w B e .i32 o n cap zs) (h32 : ∀ z ∈ zs, -2147483648 ≤ z ∧ z ≤ 2147483647) : SliceN w o n cap zs := ⟨h.nums, h32⟩
theorem SliceN.lo {w : World} {o : Option Addr} {n cap : Nat} {zs : List Int} (h : SliceN w o n cap zs) (l : Nat) (hl : l ≤ n) : SliceN w (slo o cap l) (n - l) (cap - l) (zs.drop l) :=
  ⟨slice_lo h.nums l hl, fun z hz => h.i32 z (List.mem_of_mem_drop hz)⟩

set_option maxRecDepth 100000 in
set_option maxHeartbeats 1600000 in
theorem sums_any (o : Option Addr) (n cap : Nat) (xs : List Int) (o' : Option Addr) (n' cap' : Nat) (ys : List Int) (wi : Int) (w : World) (ht : UTabs w) (hx : SliceN w o n cap xs) (hy : SliceN w o' n' cap' ys) (_hwi : I64 wi) (hn : n ≤ 1048576) (hn' : n' ≤ 1048576) :
    Calls Tryd.prog 10 #[.slice o n cap, .slice o' n' cap', .int .i64 wi] w fun e w' => e = .returned (.bool true) ∧ Below w.heap.size w w' := by
  obtain ⟨i0, hi, hz0, hz1, hz2⟩ := info_parts infoR
  have hlx := hx.len
  have hly := hy.len
  have hq1 := tot_eq (xs ++ ys) (by rw [List.length_append]; omega)
  have hq2 := tot_eq xs (by omega)
  have hq3 := tot_eq ys (by omega)
  have hall := sumW_append xs ys
  have hba := sumW_bound (xs ++ ys)
  have hbx := sumW_bound xs
  have hby := sumW_bound ys
  have h32 : ∀ z ∈ xs ++ ys, -2147483648 ≤ z ∧ z ≤ 2147483647 := fun z hz => (List.mem_append.1 hz).elim (hx.i32 z) (hy.i32 z)
  have hlz : (xs ++ ys).length = n + n' := by rw [List.length_append]; omega
  rw [hlz] at hba
  have HX := Lib.hid hx; have HY := Lib.hid hy; have HA := Lib.hid (alive_any w ht)
  clear hx hy ht
  go_enter Tryd.func10, Tryd.ntmps10
  go_wp2_with fail
  refine HA.out.mono ?_
  rintro e w1 ⟨rfl, hb1⟩
  have HB1 := Lib.hid hb1
  have HO1 := Lib.hid (own_made (w := w1) (B := w.heap.size) 0 #[] hb1.size (by unfold maxLen; omega) rfl 21 .i32)
  have hb1' := hb1.alloc hb1.size (.cells #[] 21)
  have HX1 := Lib.hid ((HX.out.below hb1' (Nat.le_refl _)).nums)
  have hs1 : w.heap.size ≤ w1.heap.size := hb1.size
  clear hb1 HA hb1'
  go_wp2_with (at_builtin; refine wpList_append_nums (K := .i32) rfl _ _ 24 rfl w.heap.size 21 i0 (Value.int .i32 0) 4 Tryd.underlying24 hi hz0 hz1 hz2 (by decide) rfl (.slice (some ⟨w1.heap.size, 0, none⟩) 0 0) 0 [] rfl ?c1 o n cap xs rfl ?c0 ?c2 ?c3 ?_)
  case c1 => exact HO1.out.row
  case c0 => exact HX1.out
  case c2 => omega
  case c3 => simp; omega
  intro v' w2 hr2 hg2 _
  obtain ⟨ro2, rc2, rfl, hO2⟩ := Own.of (K := .i32) (xs := xs) (by simpa [cs] using hr2)
  have hb2 := (HB1.out.alloc hs1 (.cells #[] 21)).trans (grown_below hg2 HO1.out.row (by simp; omega))
  have HY2 := Lib.hid ((HY.out.below hb2 (Nat.le_refl _)).nums)
  have HO2 := Lib.hid hO2; have HB2 := Lib.hid hb2
  have hs2 : w.heap.size ≤ w2.heap.size := hb2.size
  clear hr2 hg2 hO2 hb2 HO1 HX1 HB1
  go_wp2_with (at_builtin; refine wpList_append_nums (K := .i32) rfl _ _ 24 rfl w.heap.size 21 i0 (Value.int .i32 0) 4 Tryd.underlying24 hi hz0 hz1 hz2 (by decide) rfl (.slice ro2 n rc2) n xs rfl ?d1 o' n' cap' ys rfl ?d0 ?d2 ?d3 ?_)
  case d1 => exact HO2.out.row
  case d0 => exact HY2.out
  case d2 => omega
  case d3 => exact hs2
  intro v' w3 hr3 hg3 _
  obtain ⟨ro, rc, rfl, hO3⟩ := Own.of (K := .i32) (xs := xs ++ ys) (by simpa [cs] using hr3)
  have hb3 := HB2.out.trans (grown_below hg3 HO2.out.row hs2)
  have HZ := Lib.hid (SliceN.of_own hO3 h32); have HB3 := Lib.hid hb3
  have HX3 := Lib.hid (HX.out.below hb3 (Nat.le_refl _)); have HY3 := Lib.hid (HY.out.below hb3 (Nat.le_refl _))
  have hs3 : w.heap.size ≤ w3.heap.size := hb3.size
  clear hr3 hg3 hO3 hb3 HB2 HO2 HY2 HX HY
  have HL := Lib.hid hlz
  generalize hzs : xs ++ ys = zs at *
  have HZS := Lib.hid hzs
  generalize hN : n + n' = N at *
  have hN1 : (N : Int) ≤ 2097152 := by omega
  have HN := Lib.hid hN
  have TA := Lib.hid (fun X (hb : Below w3.heap.size w3 X) => total_any ro N rc zs X (HZ.out.below hb (Nat.le_refl _)))
  have TX := Lib.hid (fun X (hb : Below w3.heap.size w3 X) => total_any o n cap xs X (HX3.out.below hb (Nat.le_refl _)))
  have TY := Lib.hid (fun X (hb : Below w3.heap.size w3 X) => total_any o' n' cap' ys X (HY3.out.below hb (Nat.le_refl _)))
  rw [hq1] at TA
  rw [hq2] at TX
  rw [hq3] at TY
  have hcs : sumW (zs.take (cutK zs wi 0)) + sumW (zs.drop (cutK zs wi 0)) = sumW zs := by rw [← sumW_append, List.take_append_drop]
  have hck := cutK_le zs wi 0
  rw [HL.out] at hck
  have hcf : wi < 0 ∨ sumW (zs.take (cutK zs wi 0)) ≤ wi := by
    by_cases h : wi < 0
    · exact .inl h
    · have := cutK_fits zs wi 0 (by omega)
      exact .inr (by omega)
  have hct := sumW_bound (zs.take (cutK zs wi 0))
  have hcd := sumW_bound (zs.drop (cutK zs wi 0))
  have hq4 := tot_eq (zs.drop (cutK zs wi 0)) (by rw [List.length_drop]; omega)
  have CU := Lib.hid (fun X (hb : Below w3.heap.size w3 X) => cut_any ro N rc zs wi X (HZ.out.below hb (Nat.le_refl _)) (by omega))
  have TD := Lib.hid (fun X (hb : Below w3.heap.size w3 X) => total_any _ _ _ _ X ((HZ.out.below hb (Nat.le_refl _)).lo (cutK zs wi 0) hck))
  rw [hq4] at TD
  generalize sumW (zs.take (cutK zs wi 0)) = S1 at *
  generalize sumW (zs.drop (cutK zs wi 0)) = S2 at *
  generalize zs.drop (cutK zs wi 0) = D at *
  generalize zs.take (cutK zs wi 0) = E at *
  generalize cutK zs wi 0 = k at *
  generalize sumW zs = S at *
  generalize sumW xs = SX at *
  generalize sumW ys = SY at *
  have hk2 : (k : Int) ≤ (N : Int) := by omega
  obtain ⟨hS0, hS1⟩ := hba
  obtain ⟨hx0, hx1⟩ := hbx
  obtain ⟨hy0, hy1⟩ := hby
  have hSX : SX ≤ 2097152 := by omega
  have hSY : SY ≤ 2097152 := by omega
  have hS10 : 0 ≤ S1 := hct.1
  have hS20 : 0 ≤ S2 := by omega
  have hS12 : S1 ≤ 4194304 := by omega
  have hS22 : S2 ≤ 4194304 := by omega
  have HS := Lib.hid hall; have HC := Lib.hid hcs
  have g1 : (S != SX + SY) = false := by simp; omega
  have g2 : decide (2 * (N : Int) < S) = false := decide_eq_false (by omega)
  have g3 : (S1 + S2 == S) = true := by simp; omega
  clear hall hcs hct hcd hq1 hq2 hq3 hq4 hlz hzs hN hx1 hy1 hS1 hlx hly
  go_wp2_with fail
  refine (TA.out _ (Below.refl _ _)).mono ?_
  rintro e w4 ⟨rfl, hb4⟩
  have HB4 := Lib.hid hb4; clear hb4
  go_wp2_with fail
  refine (TX.out _ HB4.out).mono ?_
  rintro e w5 ⟨rfl, hb5⟩
  have HB5 := Lib.hid (HB4.out.trans (hb5.mono HB4.out.size)); clear hb5
  go_wp2_with fail
  refine (TY.out _ HB5.out).mono ?_
  rintro e w6 ⟨rfl, hb6⟩
  have HB6 := Lib.hid (HB5.out.trans (hb6.mono HB5.out.size)); clear hb6
  go_wp2_with fail
  refine (TA.out _ HB6.out).mono ?_
  rintro e w7 ⟨rfl, hb7⟩
  have HB7 := Lib.hid (HB6.out.trans (hb7.mono HB6.out.size)); clear hb7
  go_wp2_with fail
  refine (CU.out _ HB7.out).mono ?_
  rintro e w8 ⟨ro8, rc8, rfl, _, hb8⟩
  have HB8 := Lib.hid (HB7.out.trans (hb8.mono HB7.out.size)); clear hb8
  go_wp2_with fail
  refine (TD.out _ HB8.out).mono ?_
  rintro e w9 ⟨rfl, hb9⟩
  have HB9 := Lib.hid (HB8.out.trans (hb9.mono HB8.out.size)); clear hb9
  go_wp2_with fail
  refine (TA.out _ HB9.out).mono ?_
  rintro e w10 ⟨rfl, hb10⟩
  have HB10 := Lib.hid (HB3.out.trans ((HB9.out.trans (hb10.mono HB9.out.size)).mono hs3)); clear hb10
  rcases hcf with hcf | hcf
  all_goals
    go_wp2_with fail
    all_goals
      go_ret
      exact ⟨rfl, HB10.out⟩
end Go.Proofs.YtknkmfofjbpdbaaDoor
