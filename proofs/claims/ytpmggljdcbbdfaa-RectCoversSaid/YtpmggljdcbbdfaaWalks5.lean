/- What the calls of package rect do: Shift, Inset. -/
import Derived.Test.YtpmggljdcbbdfaaWalks1
namespace Go.Proofs.Ytpmggljdcbbdfaa
open Go.RowKit rm
attribute [local go_sem ↓] Go.wp_at_zero Go.wp_at_succ
attribute [local go_sem ↓ 10000] run_mn run_mx

theorem RectAt.set1 {w : World} {b : Nat} {x y ww h : Int} (H : RectAt w b x y ww h) {p : Addr} (hne : b ≠ p.block) (v : Value) : RectAt (w.setCell p v) b x y ww h := by
  have hc : ∀ i, (w.setCell p v).cell? ⟨b, i, none⟩ = w.cell? ⟨b, i, none⟩ := fun i => World.cell?_of_block (Below.heap_setCell w p v b hne)
  have hf : ∀ i, (w.setCell p v).frozen? ⟨b, i, none⟩ = w.frozen? ⟨b, i, none⟩ := fun i => World.frozen?_of_block (Below.heap_setCell w p v b hne)
  exact ⟨by simpa [World.setCell] using H.lt, (hc 0).trans H.k0, (hc 1).trans H.k1, (hc 2).trans H.k2, (hc 3).trans H.k3, (hf 0).trans H.f0, (hf 1).trans H.f1, (hf 2).trans H.f2, (hf 3).trans H.f3⟩

set_option maxHeartbeats 800000 in
theorem inset_any (x y ww h n : Int) (w : World) :
    Calls Try.prog 24 #[(.agg #[.int .i64 x, .int .i64 y, .int .i64 ww, .int .i64 h]), .int .i64 n] w fun e w' =>
      ∃ a b c d : Int, e = .returned (.agg #[.int .i64 a, .int .i64 b, .int .i64 c, .int .i64 d]) ∧ Is ⟨a, b, c, d⟩ (inset (clean ⟨x, y, ww, h⟩) n) ∧ Below w.heap.size w w' := by
  go_enter Try.func24, Try.ntmps24
  go_wp2_with fail
  obtain ⟨r0, r1, hbW⟩ := boxes2 w x y ww h 0 0 0 0
  generalize ((w.alloc (rc x y ww h)).alloc (rc 0 0 0 0)) = W at *
  refine (clean_any _ _ _ _ _).mono ?_
  rintro e w1 ⟨p, q, s, t, rfl, hc1, hb1⟩
  obtain ⟨b1, b2, b3, b4, b5, b6, b7, b8, b9, b10⟩ := hc1.bounds
  have hlt := r0.lt
  replace r0 := RectAt.below r0 hb1 r0.lt
  replace r1 := RectAt.below r1 hb1 r1.lt
  have hW := hbW.trans (hb1.mono (Nat.le_of_lt hlt))
  obtain ⟨u0, k0, k1, k2, k3, f0, f1, f2, f3⟩ := (id r0 : RectAt _ _ _ _ _ _)
  go_wp2_with fail
  have r2 := r0.put p q s t
  have r3 := r1.other (b' := w.heap.size) (by omega) p q s t
  have hW' := below_put hW (b := w.heap.size) (Nat.le_refl _) p q s t
  generalize ((((World.setCell w1 ⟨w.heap.size, 0, none⟩ (.int .i64 p)).setCell ⟨w.heap.size, 1, none⟩ (.int .i64 q)).setCell ⟨w.heap.size, 2, none⟩ (.int .i64 s)).setCell ⟨w.heap.size, 3, none⟩ (.int .i64 t)) = W2 at *
  clear r0 r1
  obtain ⟨u0, k0, k1, k2, k3, f0, f1, f2, f3⟩ := (id r2 : RectAt _ _ _ _ _ _)
  obtain ⟨u1, l0, l1, l2, l3, g0, g1, g2, g3⟩ := (id r3 : RectAt _ _ _ _ _ _)
  refine (clamp_any _ _ _ _).mono ?_
  rintro e w2 ⟨rfl, rfl⟩
  have hm : 0 ≤ cl n 0 200 ∧ cl n 0 200 ≤ 200 := by unfold cl; omega
  obtain ⟨m1, m2⟩ := hm
  generalize hn : cl n 0 200 = m at *
  have HN := Lib.hid hn; clear hn
  go_wp2_with fail
  refine (clean_any _ _ _ _ _).mono ?_
  rintro e w3 ⟨a, b, c, d, rfl, hc2, hb2⟩
  obtain ⟨u1', l0', l1', l2', l3', g0', g1', g2', g3'⟩ := RectAt.below r3 hb2 u1
  go_wp2
  simp [bodyPost, results, Try.results24, go_sem, l0', l1', l2', l3']
  exact ⟨a, b, c, d, ⟨rfl, rfl, rfl, rfl⟩, by rw [← hc1]; unfold inset; rw [HN.out]; exact hc2, below_put (hW'.trans (hb2.mono (Nat.le_of_lt u0))) (b := w.heap.size + 1) (by omega) _ _ _ _⟩

set_option maxHeartbeats 800000 in
theorem shift_any (x y ww h dx dy : Int) (hx : -9223372036854775808 ≤ dx ∧ dx ≤ 9223372036854775807) (hy : -9223372036854775808 ≤ dy ∧ dy ≤ 9223372036854775807) (w : World) :
    Calls Try.prog 22 #[(.agg #[.int .i64 x, .int .i64 y, .int .i64 ww, .int .i64 h]), .int .i64 dx, .int .i64 dy] w fun e w' =>
      ∃ a b c d : Int, e = .returned (.agg #[.int .i64 a, .int .i64 b, .int .i64 c, .int .i64 d]) ∧ Is ⟨a, b, c, d⟩ (shift (clean ⟨x, y, ww, h⟩) dx dy) ∧ Below w.heap.size w w' := by
  go_enter Try.func22, Try.ntmps22
  go_wp2_with fail
  obtain ⟨r0, r1, hbW⟩ := boxes2 w x y ww h 0 0 0 0
  generalize ((w.alloc (rc x y ww h)).alloc (rc 0 0 0 0)) = W at *
  refine (clean_any _ _ _ _ _).mono ?_
  rintro e w1 ⟨p, q, s, t, rfl, hc1, hb1⟩
  obtain ⟨b1, b2, b3, b4, b5, b6, b7, b8, b9, b10⟩ := hc1.bounds
  have hlt := r0.lt
  replace r0 := RectAt.below r0 hb1 r0.lt
  replace r1 := RectAt.below r1 hb1 r1.lt
  have hW := hbW.trans (hb1.mono (Nat.le_of_lt hlt))
  obtain ⟨u0, k0, k1, k2, k3, f0, f1, f2, f3⟩ := (id r0 : RectAt _ _ _ _ _ _)
  go_wp2_with fail
  have r2 := r0.put p q s t
  have r3 := r1.other (b' := w.heap.size) (by omega) p q s t
  have hW' := below_put hW (b := w.heap.size) (Nat.le_refl _) p q s t
  generalize ((((World.setCell w1 ⟨w.heap.size, 0, none⟩ (.int .i64 p)).setCell ⟨w.heap.size, 1, none⟩ (.int .i64 q)).setCell ⟨w.heap.size, 2, none⟩ (.int .i64 s)).setCell ⟨w.heap.size, 3, none⟩ (.int .i64 t)) = W2 at *
  clear r0 r1
  obtain ⟨u0, k0, k1, k2, k3, f0, f1, f2, f3⟩ := (id r2 : RectAt _ _ _ _ _ _)
  obtain ⟨u1, l0, l1, l2, l3, g0, g1, g2, g3⟩ := (id r3 : RectAt _ _ _ _ _ _)
  replace r2 := r2.drew
  replace r3 := r3.drew
  go_region_with (first
    | (go_at_call_of 14 (Value.int .i64 dx); refine (sum_any _ _ (by omega) hx _).mono ?_; rintro e w5 ⟨rfl, rfl⟩)
    | (go_at_call_of 14 (Value.int .i64 dy); refine (sum_any _ _ (by omega) hy _).mono ?_; rintro e w5 ⟨rfl, rfl⟩))
  all_goals
    have r4 := (r3.set1 (p := ⟨w.heap.size, 0, none⟩) (by simp) (.int .i64 (sat p dx))).set1 (p := ⟨w.heap.size, 1, none⟩) (by simp) (.int .i64 (sat q dy))
    have hW4 : Below w.heap.size w ((W2.drew.setCell ⟨w.heap.size, 0, none⟩ (.int .i64 (sat p dx))).setCell ⟨w.heap.size, 1, none⟩ (.int .i64 (sat q dy))) := ((hW'.trans (Below.refl _ _).drew).setCell (p := ⟨w.heap.size, 0, none⟩) (Nat.le_refl _) _).setCell (p := ⟨w.heap.size, 1, none⟩) (Nat.le_refl _) _
    go_wp2_with fail
    refine (clean_any _ _ _ _ _).mono ?_
    rintro e w3 ⟨a, b, c, d, rfl, hc2, hb2⟩
    obtain ⟨u1', l0', l1', l2', l3', g0', g1', g2', g3'⟩ := RectAt.below r4 hb2 r4.lt
    go_wp2
    simp [bodyPost, results, Try.results22, go_sem, l0', l1', l2', l3']
    exact ⟨a, b, c, d, ⟨rfl, rfl, rfl, rfl⟩, by rw [← hc1]; exact hc2, below_put (hW4.trans (hb2.mono hW4.size)) (b := w.heap.size + 1) (by omega) _ _ _ _⟩

end Go.Proofs.Ytpmggljdcbbdfaa
