/- What the document's answers for rectangles do: Between, Sum, Clean, Has. -/
import Derived.Test.YtpmggljdcbbdfaaCalls
namespace Go.Proofs.Ytpmggljdcbbdfaa
open Go.RowKit rm
attribute [local go_sem ↓] Go.wp_at_zero Go.wp_at_succ

theorem between_any (n lo hi : Int) (w : World) :
    Calls Try.prog 38 #[.int .i64 n, .int .i64 lo, .int .i64 hi] w fun e w' => e = .returned (.int .i64 (if n < lo then lo else if hi < n then hi else n)) ∧ w = w' := by
  go_enter Try.func38, Try.ntmps38
  go_wp2
  all_goals
    go_ret
    exact ⟨ret_int (by omega), rfl⟩

theorem between_cl (n lo hi : Int) (h : lo ≤ hi) (w : World) :
    Calls Try.prog 38 #[.int .i64 n, .int .i64 lo, .int .i64 hi] w fun e w' => e = .returned (.int .i64 (cl n lo hi)) ∧ w = w' :=
  (between_any n lo hi w).mono fun _ _ ⟨he, hw⟩ => ⟨he.trans (ret_int (by unfold cl; omega)), hw⟩

theorem refSum_any (a b : Int) (ha : I64 a) (hb : I64 b) (w : World) :
    Calls Try.prog 15 #[.int .i64 a, .int .i64 b] w fun e w' => e = .returned (.int .i64 (sat a b)) ∧ w = w' := by
  unfold I64 at ha hb
  go_enter Try.func15, Try.ntmps15
  go_wp2
  all_goals
    go_ret
    exact ⟨ret_int (by unfold sat top bot; (repeat' split) <;> omega), rfl⟩

set_option maxHeartbeats 400000 in
theorem refHas_any (x y ww h px py : Int) (hx : -100000 ≤ x ∧ x ≤ 100000) (hy : -100000 ≤ y ∧ y ≤ 100000) (hw : -100000 ≤ ww ∧ ww ≤ 100000) (hh : -100000 ≤ h ∧ h ≤ 100000) (w : World) :
    Calls Try.prog 21 #[(.agg #[.int .i64 x, .int .i64 y, .int .i64 ww, .int .i64 h]), .int .i64 px, .int .i64 py] w fun e w' => e = .returned (.bool (cell ⟨x, y, ww, h⟩ px py)) ∧ Below w.heap.size w w' := by
  go_enter Try.func21, Try.ntmps21
  go_wp2
  all_goals
    go_ret
    exact ⟨ret_bool (by rw [Bool.eq_iff_iff]; simp [cell]; try omega), (Below.refl _ _).alloc (Nat.le_refl _) _⟩

/-- the document's way to clean a side comes to the same -/
theorem ref_clean_eq (x y ww h : Int) (X Y W H : Int) (hX : X = cl x (-5000) 5000) (hY : Y = cl y (-5000) 5000) (hW : W = if 5000 < X + cl ww 0 200 then 5000 - X else cl ww 0 200) (hH : H = if 5000 < Y + cl h 0 200 then 5000 - Y else cl h 0 200) :
    cleanV x y ww h = if W = 0 ∨ H = 0 then zero else ⟨X, Y, W, H⟩ := by
  have e1 : cl ww 0 (min 200 (5000 - cl x (-5000) 5000)) = W := by subst hX hW; unfold cl; omega
  have e2 : cl h 0 (min 200 (5000 - cl y (-5000) 5000)) = H := by subst hY hH; unfold cl; omega
  unfold cleanV clean
  dsimp only
  rw [e1, e2, ← hX, ← hY]

set_option maxHeartbeats 800000 in
theorem refClean_any (x y ww h : Int) (w : World) :
    Calls Try.prog 13 #[(.agg #[.int .i64 x, .int .i64 y, .int .i64 ww, .int .i64 h])] w fun e w' => e = .returned (.agg #[.int .i64 (cleanV x y ww h).x, .int .i64 (cleanV x y ww h).y, .int .i64 (cleanV x y ww h).w, .int .i64 (cleanV x y ww h).h]) ∧ Below w.heap.size w w' := by
  go_enter Try.func13, Try.ntmps13
  go_wp2_with fail
  obtain ⟨r0, r1, hbW⟩ := boxes2 w x y ww h 0 0 0 0
  generalize ((w.alloc (rc x y ww h)).alloc (rc 0 0 0 0)) = W at *
  obtain ⟨u0, k0, k1, k2, k3, f0, f1, f2, f3⟩ := (id r0 : RectAt _ _ _ _ _ _)
  go_wp2_with fail
  refine (between_cl _ _ _ (by decide) _).mono ?_
  rintro e w1 ⟨rfl, rfl⟩
  have m1 : -5000 ≤ cl x (-5000) 5000 ∧ cl x (-5000) 5000 ≤ 5000 := by unfold cl; omega
  generalize hX : cl x (-5000) 5000 = X at *
  have HX := Lib.hid hX; clear hX
  go_wp2_with fail
  refine (between_cl _ _ _ (by decide) _).mono ?_
  rintro e w1 ⟨rfl, rfl⟩
  have m2 : -5000 ≤ cl y (-5000) 5000 ∧ cl y (-5000) 5000 ≤ 5000 := by unfold cl; omega
  generalize hY : cl y (-5000) 5000 = Y at *
  have HY := Lib.hid hY; clear hY
  go_wp2_with fail
  refine (between_cl _ _ _ (by decide) _).mono ?_
  rintro e w1 ⟨rfl, rfl⟩
  have m3 : 0 ≤ cl ww 0 200 ∧ cl ww 0 200 ≤ 200 := by unfold cl; omega
  generalize hC : cl ww 0 200 = C at *
  have HC := Lib.hid hC; clear hC
  go_wp2_with fail
  refine (between_cl _ _ _ (by decide) _).mono ?_
  rintro e w1 ⟨rfl, rfl⟩
  have m4 : 0 ≤ cl h 0 200 ∧ cl h 0 200 ≤ 200 := by unfold cl; omega
  generalize hD : cl h 0 200 = D at *
  have HD := Lib.hid hD; clear hD
  obtain ⟨u1, l0, l1, l2, l3, g0, g1, g2, g3⟩ := (id r1 : RectAt _ _ _ _ _ _)
  go_wp2
  all_goals
    simp [bodyPost, results, Try.results13, go_sem, l0, l1, l2, l3]
  all_goals
    refine ⟨?_, below_put hbW (Nat.le_succ _) _ _ _ _⟩
    rw [ref_clean_eq x y ww h X Y (if 5000 < X + C then 5000 - X else C) (if 5000 < Y + D then 5000 - Y else D) HX.out.symm HY.out.symm (by rw [HC.out]) (by rw [HD.out])]
    try simp only [beq_iff_eq, beq_eq_false_iff_ne, ne_eq] at *
    (repeat' split) <;> refine ⟨?_, ?_, ?_, ?_⟩ <;> (try simp only [zero]) <;> omega
end Go.Proofs.Ytpmggljdcbbdfaa
