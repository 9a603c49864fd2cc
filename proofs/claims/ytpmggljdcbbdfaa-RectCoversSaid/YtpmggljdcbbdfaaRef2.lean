/- What the document's answers for moving rectangles do: Shift, box, high, low, Inset. -/
import Derived.Test.YtpmggljdcbbdfaaRef
import Derived.LoopTactic
import Derived.Deep.LoopGhost
namespace Go.Proofs.Ytpmggljdcbbdfaa
open Go.RowKit rm
attribute [local go_sem ↓] Go.wp_at_zero Go.wp_at_succ

theorem refHigh_any (a b : Int) (w : World) :
    Calls Try.prog 42 #[.int .i64 a, .int .i64 b] w fun e w' => e = .returned (.int .i64 (max a b)) ∧ w = w' := by
  go_enter Try.func42, Try.ntmps42
  go_wp2
  all_goals
    go_ret
    exact ⟨ret_int (by omega), rfl⟩
theorem refLow_any (a b : Int) (w : World) :
    Calls Try.prog 43 #[.int .i64 a, .int .i64 b] w fun e w' => e = .returned (.int .i64 (min a b)) ∧ w = w' := by
  go_enter Try.func43, Try.ntmps43
  go_wp2
  all_goals
    go_ret
    exact ⟨ret_int (by omega), rfl⟩

theorem hold1put {w w1 : World} {b b' : Nat} {x y ww h : Int} (hne : b' ≠ b) (hb : w.heap.size ≤ b') (p q r s : Int) (hS : (Below w.heap.size w w1 ∧ b < w1.heap.size ∧ w1.cell? ⟨b, 0, none⟩ = some (.int .i64 (x)) ∧ w1.cell? ⟨b, 1, none⟩ = some (.int .i64 (y)) ∧ w1.cell? ⟨b, 2, none⟩ = some (.int .i64 (ww)) ∧ w1.cell? ⟨b, 3, none⟩ = some (.int .i64 (h)))) : (Below w.heap.size w ((((World.setCell w1 ⟨b', 0, none⟩ (.int .i64 p)).setCell ⟨b', 1, none⟩ (.int .i64 q)).setCell ⟨b', 2, none⟩ (.int .i64 r)).setCell ⟨b', 3, none⟩ (.int .i64 s)) ∧ b < ((((World.setCell w1 ⟨b', 0, none⟩ (.int .i64 p)).setCell ⟨b', 1, none⟩ (.int .i64 q)).setCell ⟨b', 2, none⟩ (.int .i64 r)).setCell ⟨b', 3, none⟩ (.int .i64 s)).heap.size ∧ ((((World.setCell w1 ⟨b', 0, none⟩ (.int .i64 p)).setCell ⟨b', 1, none⟩ (.int .i64 q)).setCell ⟨b', 2, none⟩ (.int .i64 r)).setCell ⟨b', 3, none⟩ (.int .i64 s)).cell? ⟨b, 0, none⟩ = some (.int .i64 (x)) ∧ ((((World.setCell w1 ⟨b', 0, none⟩ (.int .i64 p)).setCell ⟨b', 1, none⟩ (.int .i64 q)).setCell ⟨b', 2, none⟩ (.int .i64 r)).setCell ⟨b', 3, none⟩ (.int .i64 s)).cell? ⟨b, 1, none⟩ = some (.int .i64 (y)) ∧ ((((World.setCell w1 ⟨b', 0, none⟩ (.int .i64 p)).setCell ⟨b', 1, none⟩ (.int .i64 q)).setCell ⟨b', 2, none⟩ (.int .i64 r)).setCell ⟨b', 3, none⟩ (.int .i64 s)).cell? ⟨b, 2, none⟩ = some (.int .i64 (ww)) ∧ ((((World.setCell w1 ⟨b', 0, none⟩ (.int .i64 p)).setCell ⟨b', 1, none⟩ (.int .i64 q)).setCell ⟨b', 2, none⟩ (.int .i64 r)).setCell ⟨b', 3, none⟩ (.int .i64 s)).cell? ⟨b, 3, none⟩ = some (.int .i64 (h))) := by
  obtain ⟨h1, h2, a0, a1, a2, a3⟩ := hS
  have hs : (((((World.setCell w1 ⟨b', 0, none⟩ (.int .i64 p)).setCell ⟨b', 1, none⟩ (.int .i64 q)).setCell ⟨b', 2, none⟩ (.int .i64 r)).setCell ⟨b', 3, none⟩ (.int .i64 s))).heap.size = w1.heap.size := by simp [World.setCell]
  have hh : (((((World.setCell w1 ⟨b', 0, none⟩ (.int .i64 p)).setCell ⟨b', 1, none⟩ (.int .i64 q)).setCell ⟨b', 2, none⟩ (.int .i64 r)).setCell ⟨b', 3, none⟩ (.int .i64 s))).heap[b]? = w1.heap[b]? := by
    rw [Below.heap_setCell _ _ _ b (fun e => hne e.symm), Below.heap_setCell _ _ _ b (fun e => hne e.symm), Below.heap_setCell _ _ _ b (fun e => hne e.symm), Below.heap_setCell _ _ _ b (fun e => hne e.symm)]
  have hc : ∀ i, (((((World.setCell w1 ⟨b', 0, none⟩ (.int .i64 p)).setCell ⟨b', 1, none⟩ (.int .i64 q)).setCell ⟨b', 2, none⟩ (.int .i64 r)).setCell ⟨b', 3, none⟩ (.int .i64 s))).cell? ⟨b, i, none⟩ = w1.cell? ⟨b, i, none⟩ := fun i => World.cell?_of_block hh
  exact ⟨below_put h1 hb p q r s, by rw [hs]; exact h2, (hc 0).trans a0, (hc 1).trans a1, (hc 2).trans a2, (hc 3).trans a3⟩

set_option maxHeartbeats 800000 in
theorem refShift_any (q : RR) (hq : Ok q) (dx dy : Int) (hx : I64 dx) (hy : I64 dy) (w : World) :
    Calls Try.prog 23 #[(.agg #[.int .i64 (q).x, .int .i64 (q).y, .int .i64 (q).w, .int .i64 (q).h]), .int .i64 dx, .int .i64 dy] w fun e w' => e = .returned (.agg #[.int .i64 (shift q dx dy).x, .int .i64 (shift q dx dy).y, .int .i64 (shift q dx dy).w, .int .i64 (shift q dx dy).h]) ∧ Below w.heap.size w w' := by
  obtain ⟨x, y, ww, h⟩ := q
  have hx64 : I64 x := by unfold Ok at hq; unfold I64; dsimp only at hq; omega
  have hy64 : I64 y := by unfold Ok at hq; unfold I64; dsimp only at hq; omega
  have hc : cleanV (sat x dx) (sat y dy) ww h = shift ⟨x, y, ww, h⟩ dx dy := rfl
  have HC := Lib.hid hc; clear hc
  go_enter Try.func23, Try.ntmps23
  go_wp2_with fail
  obtain ⟨r0, r1, hbW⟩ := boxes2 w x y ww h 0 0 0 0
  generalize ((w.alloc (rc x y ww h)).alloc (rc 0 0 0 0)) = W at *
  replace r1 := r1.drew
  have s0 : (Below w.heap.size w W.drew ∧ w.heap.size < W.drew.heap.size ∧ W.drew.cell? ⟨w.heap.size, 0, none⟩ = some (.int .i64 (x)) ∧ W.drew.cell? ⟨w.heap.size, 1, none⟩ = some (.int .i64 (y)) ∧ W.drew.cell? ⟨w.heap.size, 2, none⟩ = some (.int .i64 (ww)) ∧ W.drew.cell? ⟨w.heap.size, 3, none⟩ = some (.int .i64 (h))) := hold1 (Below.refl _ _).drew ⟨hbW, r0.lt, r0.k0, r0.k1, r0.k2, r0.k3⟩
  obtain ⟨t0, t1, k0, k1, k2, k3⟩ := (id s0 : _ ∧ _)
  go_region_held3 (fun X => (Below w.heap.size w X ∧ w.heap.size < X.heap.size ∧ X.cell? ⟨w.heap.size, 0, none⟩ = some (.int .i64 (x)) ∧ X.cell? ⟨w.heap.size, 1, none⟩ = some (.int .i64 (y)) ∧ X.cell? ⟨w.heap.size, 2, none⟩ = some (.int .i64 (ww)) ∧ X.cell? ⟨w.heap.size, 3, none⟩ = some (.int .i64 (h)))) (first | exact s0 | assumption | exact hold1 hb6 s0 | exact hold1put (Nat.succ_ne_self _) (Nat.le_succ _) _ _ _ _ (hold1 hb6 s0))
    (first
      | (go_at_call_of 15 (Value.int .i64 dx); refine (refSum_any _ _ hx64 hx _).mono ?_; rintro e w5 ⟨rfl, rfl⟩)
      | (go_at_call_of 15 (Value.int .i64 dy); refine (refSum_any _ _ hy64 hy _).mono ?_; rintro e w5 ⟨rfl, rfl⟩)
      | (go_at_call 13; refine (refClean_any _ _ _ _ _).mono ?_; rw [HC.out]; rintro e w6 ⟨rfl, hb6⟩; obtain ⟨u1, l0, l1, l2, l3, g0, g1, g2, g3⟩ := RectAt.below r1 hb6 r1.lt))
  go_wp2
  simp [bodyPost, results, Try.results23, go_sem, l0, l1, l2, l3]
  exact below_put (t0.trans (hb6.mono t0.size)) (b := w.heap.size + 1) (by omega) _ _ _ _

set_option maxHeartbeats 800000 in
theorem refBox_any (x y r b : Int) (h1 : -10000 ≤ x ∧ x ≤ 10000) (h2 : -10000 ≤ y ∧ y ≤ 10000) (h3 : -10000 ≤ r ∧ r ≤ 10000) (h4 : -10000 ≤ b ∧ b ≤ 10000) (w : World) :
    Calls Try.prog 40 #[.int .i64 x, .int .i64 y, .int .i64 r, .int .i64 b] w fun e w' => e = .returned (.agg #[.int .i64 (span x y r b).x, .int .i64 (span x y r b).y, .int .i64 (span x y r b).w, .int .i64 (span x y r b).h]) ∧ Below w.heap.size w w' := by
  have hc : cleanV x y (r - x) (b - y) = span x y r b := rfl
  have HC := Lib.hid hc; clear hc
  go_enter Try.func40, Try.ntmps40
  go_wp2_with (go_at_call 13; refine (refClean_any _ _ _ _ _).mono ?_; rw [HC.out]; rintro e w1 ⟨rfl, hb⟩; obtain ⟨c1, c2⟩ := bcell hb; have hz := hb.size)
  simp [bodyPost, results, Try.results40, go_sem, c1]
  exact (((Below.refl _ _).alloc (Nat.le_refl _) _).trans (hb.mono (by simp))).setCell (by simp) _ |>.setCell (by simp) _ |>.setCell (by simp) _ |>.setCell (by simp) _
/-- one cell more on each side -/
theorem inset_step {A : RR} (hA : Ok A) (i : Nat) (hw : 0 < (inset A i).w) :
    span ((inset A i).x + 1) ((inset A i).y + 1) ((inset A i).x + (inset A i).w - 1) ((inset A i).y + (inset A i).h - 1) = inset A ((i + 1 : Nat) : Int) ∧ (inset A ((i + 1 : Nat) : Int)).w < (inset A i).w ∧ i < 100 := by
  rcases inset_cases hA i with ⟨h1, _⟩ | ⟨h1, h2, h3⟩
  · rw [h1] at hw
    simp [zero] at hw
  · have hA' := hA
    unfold Ok at hA'
    have hi : cl (i : Int) 0 200 = i := by unfold cl at *; omega
    have hi' : cl ((i + 1 : Nat) : Int) 0 200 = i + 1 := by unfold cl at *; omega
    rw [hi] at h1 h2 h3
    refine ⟨?_, ?_, by omega⟩
    · rw [h1]
      unfold span inset
      rw [hi']
      refine congrArg clean ?_
      apply rr_ext <;> dsimp only <;> omega
    · rcases inset_cases hA ((i + 1 : Nat) : Int) with ⟨g1, _⟩ | ⟨g1, _⟩
      · rw [g1]; exact hw
      · rw [g1, h1, hi']; dsimp only; omega
theorem inset_end {A : RR} (hA : Ok A) (i : Nat) (n : Int) (hi : (i : Int) ≤ max n 0) (h : n ≤ i ∨ (inset A i).w = 0) : inset A i = inset A n := by
  rcases h with h | h
  · have : cl (i : Int) 0 200 = cl n 0 200 := by unfold cl; omega
    unfold inset
    rw [this]
  · have h1 : inset A i = zero := (ok_w (ok_inset A i)).1 h
    rcases inset_cases hA i with ⟨_, h2⟩ | ⟨g1, g2, g3⟩
    · rw [h1]
      rcases inset_cases hA n with ⟨e1, _⟩ | ⟨e1, e2, e3⟩
      · exact e1.symm
      · exfalso
        unfold cl at *
        omega
    · exfalso
      rw [g1] at h
      dsimp only at h
      omega

set_option maxHeartbeats 1600000 in
theorem refInset_any (q : RR) (hq : Ok q) (n : Int) (hn : I64 n) (w : World) :
    Calls Try.prog 25 #[(.agg #[.int .i64 (q).x, .int .i64 (q).y, .int .i64 (q).w, .int .i64 (q).h]), .int .i64 n] w fun e w' => e = .returned (.agg #[.int .i64 (inset q n).x, .int .i64 (inset q n).y, .int .i64 (inset q n).w, .int .i64 (inset q n).h]) ∧ Below w.heap.size w w' := by
  have h0 : inset q ((0 : Nat) : Int) = q := inset_zero hq
  have H0 := Lib.hid h0; clear h0
  unfold I64 at hn
  go_enter Try.func25, Try.ntmps25
  go_wp2_with fail
  obtain ⟨r0, r1, hbW⟩ := boxes2 w q.x q.y q.w q.h 0 0 0 0
  generalize ((w.alloc (rc q.x q.y q.w q.h)).alloc (rc 0 0 0 0)) = W at *
  go_loopg [5] 200 (fun gg s5 wr => ∃ i : Nat, s5 = .int .i64 i ∧ (i : Int) ≤ max n 0 ∧ (inset q i).w ≤ gg ∧ RectAt wr w.heap.size (inset q i).x (inset q i).y (inset q i).w (inset q i).h ∧ RectAt wr (w.heap.size + 1) 0 0 0 0 ∧ Below w.heap.size w wr)
  case atStart => exact ⟨0, rfl, by omega, by rw [H0.out]; unfold Ok at hq; omega, by rw [H0.out]; exact r0, r1, hbW⟩
  case round =>
    obtain ⟨i, rfl, hi, hgg, q0, q1, hbel⟩ := hrel
    have hstep := inset_step hq i
    have hend := inset_end hq i n hi
    have hok := ok_inset q i
    generalize hI : inset q (i : Int) = I at *
    have HI := Lib.hid hI; clear hI
    unfold Ok at hok
    obtain ⟨u0, k0, k1, k2, k3, f0, f1, f2, f3⟩ := (id q0 : RectAt _ _ _ _ _ _)
    by_cases g1 : (i : Int) < n
    · by_cases g2 : 0 < I.w
      · obtain ⟨e1, e2, e3⟩ := hstep g2
        rw [← e1] at e2
        have E1 := Lib.hid e1; clear e1
        clear hstep hend
        go_wp2_with fail
        refine (refBox_any _ _ _ _ (by omega) (by omega) (by omega) (by omega) _).mono ?_
        rintro e w1 ⟨rfl, hb1⟩
        rw [E1.out]
        rw [E1.out] at e2
        replace q0 := q0.below hb1 q0.lt
        replace q1 := q1.below hb1 q1.lt
        have hbel1 := hbel.trans (hb1.mono hbel.size)
        clear k0 k1 k2 k3 f0 f1 f2 f3 hbel hb1 hok E1
        generalize hJ : inset q ((i + 1 : Nat) : Int) = J at *
        have HJ := Lib.hid hJ; clear hJ
        obtain ⟨u0, k0, k1, k2, k3, f0, f1, f2, f3⟩ := (id q0 : RectAt _ _ _ _ _ _)
        go_wp2_with fail
        have z0 := q0.put J.x J.y J.w J.h
        have z1 := q1.other (b' := w.heap.size) (by omega) J.x J.y J.w J.h
        have hbelX := below_put hbel1 (b := w.heap.size) (Nat.le_refl _) J.x J.y J.w J.h
        go_roundg (I.w - 1).toNat
        case measure => omega
        case rel => exact ⟨i + 1, by go_num, by omega, by rw [HJ.out]; omega, by rw [HJ.out]; exact z0, z1, hbelX⟩
      · have g2' : decide (0 < I.w) = false := decide_eq_false g2
        have he := hend (.inr (by omega))
        have HE := Lib.hid he
        clear he hend hstep hok
        obtain ⟨v0, l0, l1, l2, l3, j0, j1, j2, j3⟩ := (id q1 : RectAt _ _ _ _ _ _)
        go_wp2_with fail
        simp [bodyPost, results, Try.results25, go_sem, l0, l1, l2, l3]
        exact ⟨by rw [HE.out]; exact ⟨rfl, rfl, rfl, rfl⟩, below_put hbel (b := w.heap.size + 1) (by omega) _ _ _ _⟩
    · have g1' : decide ((i : Int) < n) = false := decide_eq_false g1
      have he := hend (.inl (by omega))
      have HE := Lib.hid he
      clear he hend hstep hok
      obtain ⟨v0, l0, l1, l2, l3, j0, j1, j2, j3⟩ := (id q1 : RectAt _ _ _ _ _ _)
      go_wp2_with fail
      simp [bodyPost, results, Try.results25, go_sem, l0, l1, l2, l3]
      exact ⟨by rw [HE.out]; exact ⟨rfl, rfl, rfl, rfl⟩, below_put hbel (b := w.heap.size + 1) (by omega) _ _ _ _⟩
end Go.Proofs.Ytpmggljdcbbdfaa
