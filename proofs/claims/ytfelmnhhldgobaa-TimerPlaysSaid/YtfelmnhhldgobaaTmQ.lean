/- The queue's order, Less and Swap. -/
import Derived.Test.YtfelmnhhldgobaaTmMath
namespace Go.Proofs.Ytfelmnhhldgobaa
open Go.RowKit
set_option maxRecDepth 100000 in
theorem nan64_any (x : Int) (w : World) : Calls Try.prog 54 #[.int .i64 x] w fun e w' => e = .returned (.bool false) ∧ w' = w := by
  go_enter Try.func54, Try.ntmps54
  go_wp2_with fail
  go_ret
  exact ⟨by simp, rfl⟩
set_option maxRecDepth 100000 in
theorem nan_any (x : Int) (w : World) : Calls Try.prog 55 #[.int .i64 x] w fun e w' => e = .returned (.bool false) ∧ w' = w := by
  go_enter Try.func55, Try.ntmps55
  go_wp2_with fail
  go_ret
  exact ⟨by simp, rfl⟩
set_option maxRecDepth 100000 in
theorem cmp64_any (x y : Int) (w : World) : Calls Try.prog 42 #[.int .i64 x, .int .i64 y] w fun e w' => e = .returned (.int .i64 (tm.cmpI x y)) ∧ w' = w := by
  have h1 := Lib.hid (nan64_any x w)
  have h2 := Lib.hid (nan64_any y w)
  obtain ⟨R, hR⟩ : ∃ R, tm.cmpI x y = R := ⟨_, rfl⟩
  rw [hR]
  have HR := Lib.hid hR
  clear hR
  go_enter Try.func42, Try.ntmps42
  go_wp2_with fail
  refine h1.out.mono ?_
  rintro e w' ⟨rfl, hw⟩
  replace hw := hw.symm
  subst hw
  go_wp2_with fail
  refine h2.out.mono ?_
  rintro e w' ⟨rfl, hw⟩
  replace hw := hw.symm
  subst hw
  go_wp2_with fail
  all_goals
    go_ret
    refine ⟨ret_int ?_, rfl⟩
    rw [← HR.out]
    unfold tm.cmpI
    first | rw [if_pos (by omega)] | rw [if_neg (by omega), if_pos (by omega)] | rw [if_neg (by omega), if_neg (by omega)]
set_option maxRecDepth 100000 in
theorem cmp_any (x y : Int) (w : World) : Calls Try.prog 43 #[.int .i64 x, .int .i64 y] w fun e w' => e = .returned (.int .i64 (tm.cmpI x y)) ∧ w' = w := by
  have h1 := Lib.hid (nan_any x w)
  have h2 := Lib.hid (nan_any y w)
  obtain ⟨R, hR⟩ : ∃ R, tm.cmpI x y = R := ⟨_, rfl⟩
  rw [hR]
  have HR := Lib.hid hR
  clear hR
  go_enter Try.func43, Try.ntmps43
  go_wp2_with fail
  refine h1.out.mono ?_
  rintro e w' ⟨rfl, hw⟩
  replace hw := hw.symm
  subst hw
  go_wp2_with fail
  refine h2.out.mono ?_
  rintro e w' ⟨rfl, hw⟩
  replace hw := hw.symm
  subst hw
  go_wp2_with fail
  all_goals
    go_ret
    refine ⟨ret_int ?_, rfl⟩
    rw [← HR.out]
    unfold tm.cmpI
    first | rw [if_pos (by omega)] | rw [if_neg (by omega), if_pos (by omega)] | rw [if_neg (by omega), if_neg (by omega)]
set_option maxRecDepth 100000 in
theorem order_any (a b : tm.T) (w : World) : Calls Try.prog 36 #[dV a, dV b] w fun e w' => e = .returned (.int .i64 (tm.ord a b)) ∧ w' = (w.alloc (dO a)).alloc (dO b) := by
  have a1 := heap_alloc_new w (dO a)
  have b2 := below_one (w.alloc (dO a)) (dO b)
  have a2 := heap_alloc_new (w.alloc (dO a)) (dO b)
  have a1' := (b2.block _ (heap_lt a1)).trans a1
  rw [World.size_alloc] at a2
  obtain ⟨R, hR⟩ : ∃ R, tm.ord a b = R := ⟨_, rfl⟩
  rw [hR]
  have HR := Lib.hid hR
  have HA := Lib.hid (And.intro a1' a2)
  clear hR a1 a2 b2 a1'
  go_enter Try.func36, Try.ntmps36
  go_upto_region 1 with fail
  obtain ⟨W, hW⟩ : ∃ W, (w.alloc (dO a)).alloc (dO b) = W := ⟨_, rfl⟩
  rw [hW] at HA
  change Code.wp _ _ _ _ ((w.alloc (dO a)).alloc (dO b))
  rw [hW]
  have HW := Lib.hid hW
  clear hW
  have c0 : W.cell? ⟨w.heap.size, 0, none⟩ = some (.int .i64 a.id) := (cell_of_heap HA.out.1).trans rfl
  have c2 : W.cell? ⟨w.heap.size, 2, none⟩ = some (.int .i64 a.due) := (cell_of_heap HA.out.1).trans rfl
  have d0 : W.cell? ⟨w.heap.size + 1, 0, none⟩ = some (.int .i64 b.id) := (cell_of_heap HA.out.2).trans rfl
  have d2 : W.cell? ⟨w.heap.size + 1, 2, none⟩ = some (.int .i64 b.due) := (cell_of_heap HA.out.2).trans rfl
  have l1 := heap_lt HA.out.1
  have l2 := heap_lt HA.out.2
  by_cases h : a.due = b.due
  · have hb : (a.due != b.due) = false := by simp [h]
    have HC := Lib.hid (cmp_any a.id b.id W)
    go_wp2_with fail
    refine HC.out.mono ?_
    rintro e w' ⟨rfl, hw⟩
    replace hw := hw.symm
    subst hw
    go_wp2_with fail
    go_ret
    exact ⟨ret_int (by rw [← HR.out]; unfold tm.ord; rw [if_pos h]), HW.out.symm⟩
  · have hb : (a.due != b.due) = true := by simp [h]
    have HC := Lib.hid (cmp64_any a.due b.due W)
    go_wp2_with fail
    refine HC.out.mono ?_
    rintro e w' ⟨rfl, hw⟩
    replace hw := hw.symm
    subst hw
    go_wp2_with fail
    go_ret
    exact ⟨ret_int (by rw [← HR.out]; unfold tm.ord; rw [if_neg h]), HW.out.symm⟩
set_option maxRecDepth 100000 in
set_option maxHeartbeats 1600000 in
theorem less_any (g n cap i j : Nat) (l : List tm.T) (w : World) (h : QIn w g n cap l) (hi : i < n) (hj : j < n) : Calls Try.prog 79 #[.slice (some ⟨g, 0, none⟩) n cap, .int .i64 i, .int .i64 j] w fun e w' => e = .returned (.bool (tm.lt (tm.ix l i) (tm.ix l j))) ∧ Below w.heap.size w w' := by
  obtain ⟨c0, c1, c2, -⟩ := h.cell (tm.ix_at (by rw [h.len]; exact hi))
  obtain ⟨d0, d1, d2, -⟩ := h.cell (tm.ix_at (by rw [h.len]; exact hj))
  have hlt := h.lt
  unfold tm.lt
  generalize tm.ix l i = a at *
  generalize tm.ix l j = b at *
  have HO := Lib.hid (fun X => order_any a b X)
  have HB := Lib.hid (fun X (hX : Below w.heap.size w X) => hX.trans (((below_one X (dO a)).trans ((below_one (X.alloc (dO a)) (dO b)).mono (below_one X (dO a)).size)).mono hX.size))
  clear h
  go_enter Try.func79, Try.ntmps79
  go_upto_region 1 with fail
  go_region_with (go_at_call 36; refine (HO.out _).mono ?_; rintro e w' ⟨rfl, rfl⟩)
  all_goals
    go_wp2_with fail
    go_ret
    exact ⟨rfl, below_dN (HB.out w (Below.refl _ _)) 1⟩
theorem fr_setT {S : Nat → Prop} {a X : World} (h : Fr S a X) (g i : Nat) (t : tm.T) (hg : S g) : Fr S a (setT X g i t) := (((h.setCell _ _ (.inr hg)).setCell _ _ (.inr hg)).setCell _ _ (.inr hg)).setCell _ _ (.inr hg)
theorem setT_two {w : World} {g n cap : Nat} {l : List tm.T} (h : QIn w g n cap l) (i j : Nat) (hi : i < n) (hj : j < n) (a b : tm.T) : QIn (setT (setT w g i b) g j a) g n cap ((l.set i b).set j a) ∧ Fr (· = g) w (setT (setT w g i b) g j a) :=
  ⟨(h.set i (Nat.lt_of_lt_of_le hi h.nc) b).set j (Nat.lt_of_lt_of_le hj h.nc) a, fr_setT (S := fun k => k = g) (fr_setT (S := fun k => k = g) (Fr.refl _ w) g i b rfl) g j a rfl⟩
theorem qin_drew {w W : World} {g n cap : Nat} {l : List tm.T} (h : QIn W g n cap l ∧ Fr (· = g) w W) : QIn W.drew g n cap l ∧ Fr (· = g) w W.drew := ⟨h.1.keep rfl, h.2.drew⟩
set_option maxRecDepth 100000 in
set_option maxHeartbeats 1600000 in
theorem swap_any (g n cap i j : Nat) (l : List tm.T) (w : World) (h : QIn w g n cap l) (hi : i < n) (hj : j < n) : Calls Try.prog 80 #[.slice (some ⟨g, 0, none⟩) n cap, .int .i64 i, .int .i64 j] w fun e w' => e = .returned (.tuple #[]) ∧ QIn w' g n cap (tm.sw l i j) ∧ Fr (· = g) w w' := by
  obtain ⟨c0, c1, c2, c3⟩ := h.cell (tm.ix_at (by rw [h.len]; exact hi))
  obtain ⟨d0, d1, d2, d3⟩ := h.cell (tm.ix_at (by rw [h.len]; exact hj))
  have hlt := h.lt
  unfold tm.sw
  have HH := Lib.hid h
  generalize tm.ix l i = a at *
  generalize tm.ix l j = b at *
  have fz := h.thaw
  have HS := Lib.hid (qin_drew (setT_two h i j hi hj a b))
  clear h HH
  by_cases e : i = j
  · subst e
    obtain rfl : a = b := by
      rw [c0] at d0; rw [c1] at d1; rw [c2] at d2; rw [c3] at d3
      injection d0 with d0; injection d0 with _ d0
      injection d1 with d1; injection d1 with _ d1
      injection d2 with d2; injection d2 with _ d2
      injection d3 with d3; injection d3 with _ d3
      cases a; cases b
      simp only at d0 d1 d2 d3
      subst d0 d1 d2 d3
      rfl
    clear d0 d1 d2 d3
    go_enter Try.func80, Try.ntmps80
    go_upto_region 0 with fail
    go_region
    all_goals
      go_wp2_with fail
    all_goals go_end0
    all_goals exact ⟨rfl, HS.out⟩
  · go_enter Try.func80, Try.ntmps80
    go_upto_region 0 with fail
    go_region
    all_goals
      go_wp2_with fail
    all_goals go_end0
    all_goals exact ⟨rfl, HS.out⟩
end Go.Proofs.Ytfelmnhhldgobaa
