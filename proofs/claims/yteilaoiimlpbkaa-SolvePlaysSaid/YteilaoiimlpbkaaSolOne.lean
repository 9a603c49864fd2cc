/- A size by itself: is it right, is it Flex, what does it want? -/
import Derived.Test.YteilaoiimlpbkaaSolMem
namespace Go.Proofs.Yteilaoiimlpbkaa
open Go.RowKit
attribute [local go_sem ↓ 10000] run_mn run_mx

abbrev szV (s : sl.Sz) : Value := .agg #[.int .i64 s.k, .int .i64 s.n]
theorem ret_int {a b : Int} (h : a = b) : Ending.returned (.int .i64 a) = .returned (.int .i64 b) := by rw [h]
set_option maxHeartbeats 800000 in
theorem check_any (k n : Int) (w : World) : Calls Try.prog 13 #[.agg #[.int .i64 k, .int .i64 n]] w fun e w' => e = .returned (.int .i64 (sl.errOf ⟨k, n⟩)) ∧ Below w.heap.size w w' := by
  have HD : Hid (sl.errOf ⟨k, n⟩ = if (k = 0 ∨ (k = 1 ∧ 1 ≤ n ∧ n ≤ 200) ∨ (k = 2 ∧ 1 ≤ n ∧ n ≤ 100)) then 0 else 1) := Lib.hid (by unfold sl.errOf sl.good; simp)
  generalize sl.errOf ⟨k, n⟩ = R at *
  have hb := (Below.refl w.heap.size w).alloc (Nat.le_refl _) (.cells #[.int .i64 k, .int .i64 n] 33)
  have HB := Lib.hid hb
  clear hb
  by_cases h0 : k = 0
  · subst h0
    go_enter Try.func13, Try.ntmps13
    go_wp2
    go_ret
    exact ⟨ret_int (by rw [HD.out]; simp), HB.out⟩
  have e0 : (k == 0) = false := by simpa using h0
  by_cases h1 : k = 1
  · subst h1
    by_cases g1 : 1 ≤ n
    · by_cases g2 : n ≤ 200
      all_goals
        go_enter Try.func13, Try.ntmps13
        go_wp2
        go_ret
        exact ⟨ret_int (by rw [HD.out]; simp; omega), HB.out⟩
    · go_enter Try.func13, Try.ntmps13
      go_wp2
      go_ret
      exact ⟨ret_int (by rw [HD.out]; simp; omega), HB.out⟩
  have e1 : (k == 1) = false := by simpa using h1
  by_cases h2 : k = 2
  · subst h2
    by_cases g1 : 1 ≤ n
    · by_cases g2 : n ≤ 100
      all_goals
        go_enter Try.func13, Try.ntmps13
        go_wp2
        go_ret
        exact ⟨ret_int (by rw [HD.out]; simp; omega), HB.out⟩
    · go_enter Try.func13, Try.ntmps13
      go_wp2
      go_ret
      exact ⟨ret_int (by rw [HD.out]; simp; omega), HB.out⟩
  have e2 : (k == 2) = false := by simpa using h2
  go_enter Try.func13, Try.ntmps13
  go_wp2
  go_ret
  exact ⟨ret_int (by rw [HD.out]; simp; omega), HB.out⟩
/-- Share's own test: is a size refused? -/
theorem refused_any (k n : Int) (w : World) : Calls Try.prog 15 #[.agg #[.int .i64 k, .int .i64 n]] w fun e w' => e = .returned (.bool (!sl.good ⟨k, n⟩)) ∧ Below w.heap.size w w' := by
  have HC := Lib.hid (fun W => check_any k n W)
  have HD : Hid (sl.errOf ⟨k, n⟩ = if sl.good ⟨k, n⟩ then 0 else 1) := Lib.hid rfl
  have hb := (Below.refl w.heap.size w).alloc (Nat.le_refl _) (.cells #[.int .i64 k, .int .i64 n] 33)
  have HB := Lib.hid hb
  clear hb
  generalize sl.errOf ⟨k, n⟩ = R at *
  generalize sl.good ⟨k, n⟩ = g at *
  cases g
  all_goals
    first
      | obtain rfl : R = 0 := HD.out
      | obtain rfl : R = 1 := HD.out
    go_enter Try.func15, Try.ntmps15
    go_wp2_with fail
    refine (HC.out _).mono ?_
    rintro e w' ⟨rfl, hb'⟩
    have HB' := Lib.hid (HB.out.trans (hb'.mono HB.out.size))
    clear hb'
    go_wp2
    go_ret
    exact ⟨rfl, HB'.out⟩
theorem isFlex_any (k n : Int) (w : World) : Calls Try.prog 26 #[.agg #[.int .i64 k, .int .i64 n]] w fun e w' => e = .returned (.bool (decide (k = 0))) ∧ Below w.heap.size w w' := by
  have hb := (Below.refl w.heap.size w).alloc (Nat.le_refl _) (.cells #[.int .i64 k, .int .i64 n] 33)
  have HB := Lib.hid hb
  clear hb
  by_cases h0 : k = 0
  · subst h0
    go_enter Try.func26, Try.ntmps26
    go_wp2
    go_ret
    exact ⟨ret_bool (by simp), HB.out⟩
  · have e0 : (k == 0) = false := by simpa using h0
    go_enter Try.func26, Try.ntmps26
    go_wp2
    go_ret
    exact ⟨ret_bool (by simp [h0]), HB.out⟩
set_option maxHeartbeats 800000 in
theorem want_any (t k n : Int) (w : World) (hg : sl.good ⟨k, n⟩ = true) (h0 : 0 ≤ t) (h1 : t ≤ 200) : Calls Try.prog 23 #[.int .i64 t, .agg #[.int .i64 k, .int .i64 n]] w fun e w' => e = .returned (.int .i64 (sl.want t ⟨k, n⟩)) ∧ Below w.heap.size w w' := by
  have HD : Hid (sl.want t ⟨k, n⟩ = if k = 1 then n else if k = 2 then mx 1 (t * n / 100) else 1) := Lib.hid rfl
  rw [sl.good_iff] at hg
  generalize sl.want t ⟨k, n⟩ = R at *
  have hb := (Below.refl w.heap.size w).alloc (Nat.le_refl _) (.cells #[.int .i64 k, .int .i64 n] 33)
  have HB := Lib.hid hb
  clear hb
  dsimp only at hg
  by_cases g1 : k = 1
  · subst g1
    clear hg
    go_enter Try.func23, Try.ntmps23
    go_wp2
    go_ret
    exact ⟨ret_int (by rw [HD.out]; simp), HB.out⟩
  have e1 : (k == 1) = false := by simpa using g1
  by_cases g2 : k = 2
  · subst g2
    have n1 : 1 ≤ n := by omega
    have n2 : n ≤ 100 := by omega
    have p1 : 0 ≤ t * n := Int.mul_nonneg h0 (by omega)
    have p2 : t * n ≤ 200 * 100 := Int.mul_le_mul h1 n2 (by omega) (by omega)
    clear hg
    go_enter Try.func23, Try.ntmps23
    go_wp2
    go_ret
    exact ⟨ret_int (by rw [HD.out]; simp), HB.out⟩
  have e2 : (k == 2) = false := by simpa using g2
  have g0 : k = 0 := by omega
  subst g0
  clear hg
  go_enter Try.func23, Try.ntmps23
  go_wp2
  go_ret
  exact ⟨ret_int (by rw [HD.out]; simp), HB.out⟩
end Go.Proofs.Yteilaoiimlpbkaa
