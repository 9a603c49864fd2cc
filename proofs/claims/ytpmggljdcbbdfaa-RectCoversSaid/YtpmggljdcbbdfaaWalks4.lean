/- What the calls of package rect do that meet two rectangles: Into. -/
import Derived.Test.YtpmggljdcbbdfaaWalks3
namespace Go.Proofs.Ytpmggljdcbbdfaa
open Go.RowKit rm
attribute [local go_sem ↓] Go.wp_at_zero Go.wp_at_succ
attribute [local go_sem ↓ 10000] run_mn run_mx

set_option maxHeartbeats 1600000 in
theorem into_any (x y ww h x' y' ww' h' : Int) (w : World) :
    Calls Try.prog 35 #[.agg #[.int .i64 x, .int .i64 y, .int .i64 ww, .int .i64 h], .agg #[.int .i64 x', .int .i64 y', .int .i64 ww', .int .i64 h']] w fun e w' =>
      ∃ a b c d : Int, e = .returned (.agg #[.int .i64 a, .int .i64 b, .int .i64 c, .int .i64 d]) ∧ Is ⟨a, b, c, d⟩ (into (clean ⟨x, y, ww, h⟩) (clean ⟨x', y', ww', h'⟩)) ∧ Below w.heap.size w w' := by
  go_enter Try.func35, Try.ntmps35
  go_wp2_with fail
  obtain ⟨r0, r1, r2, hbW⟩ := boxes3 w x y ww h x' y' ww' h' 0 0 0 0
  generalize (((w.alloc (rc x y ww h)).alloc (rc x' y' ww' h')).alloc (rc 0 0 0 0)) = W at *
  generalize hB : w.heap.size = B at *
  have HB := Lib.hid hB; clear hB
  obtain ⟨u0, k0, k1, k2, k3, f0, f1, f2, f3⟩ := (id r0 : RectAt _ _ _ _ _ _)
  have r1' := r1
  have r2' := r2
  obtain ⟨u1, l0, l1, l2, l3, g0, g1, g2, g3⟩ := r1'
  obtain ⟨u2, m0, m1, m2, m3, j0, j1, j2, j3⟩ := r2'
  replace r0 := r0.drew
  replace r1 := r1.drew
  replace r2 := r2.drew
  go_region_with (first
    | (go_at_call_of 17 (Value.agg #[.int .i64 x, .int .i64 y, .int .i64 ww, .int .i64 h]); refine (clean_any _ _ _ _ _).mono ?_; rintro e w1 ⟨p, q, s, t, rfl, hc1, hb1⟩; obtain ⟨v0, k0, k1, k2, k3, f0, f1, f2, f3⟩ := RectAt.below r0 hb1 r0.lt; obtain ⟨v1, l0, l1, l2, l3, g0, g1, g2, g3⟩ := RectAt.below r1 hb1 r1.lt; have q2 := RectAt.below r2 hb1 r2.lt; have q1 := RectAt.below r1 hb1 r1.lt; have q0 := RectAt.below r0 hb1 r0.lt; have hz1 := hb1.size)
    | (go_at_call_of 17 (Value.agg #[.int .i64 x', .int .i64 y', .int .i64 ww', .int .i64 h']); refine (clean_any _ _ _ _ _).mono ?_; rintro e w2 ⟨p', q', s', t', rfl, hc2, hb2⟩; obtain ⟨v0', k0', k1', k2', k3', f0', f1', f2', f3'⟩ := RectAt.below q0 hb2 q0.lt; obtain ⟨v1', l0', l1', l2', l3', g0', g1', g2', g3'⟩ := RectAt.below q1 hb2 q1.lt; obtain ⟨v2', m0', m1', m2', m3', n0', n1', n2', n3'⟩ := RectAt.below q2 hb2 q2.lt; have hz2 := hb2.size))
  all_goals
    have s0 := (q0.below hb2 q0.lt).put p q s t |>.other (b' := B + 1) (by omega) p' q' s' t'
    have s1 := (q1.below hb2 q1.lt).other (b' := B) (by omega) p q s t |>.put p' q' s' t'
    have s2 := (q2.below hb2 q2.lt).other (b' := B) (by omega) p q s t |>.other (b' := B + 1) (by omega) p' q' s' t'
    have hW := below_put (below_put ((((hbW.trans (Below.refl _ _).drew).trans (hb1.mono (Nat.le_of_lt u0)))).trans (hb2.mono (Nat.le_of_lt q0.lt))) (Nat.le_refl _) p q s t) (Nat.le_succ B) p' q' s' t'
    generalize ((((World.setCell ((((World.setCell w2 ⟨B, 0, none⟩ (.int .i64 p)).setCell ⟨B, 1, none⟩ (.int .i64 q)).setCell ⟨B, 2, none⟩ (.int .i64 s)).setCell ⟨B, 3, none⟩ (.int .i64 t)) ⟨(B + 1), 0, none⟩ (.int .i64 p')).setCell ⟨(B + 1), 1, none⟩ (.int .i64 q')).setCell ⟨(B + 1), 2, none⟩ (.int .i64 s')).setCell ⟨(B + 1), 3, none⟩ (.int .i64 t')) = W3 at *
    clear hb1 hb2 q0 q1 q2 r0 r1 r2 hbW hz1 hz2 k0 k1 k2 k3 f0 f1 f2 f3 l0 l1 l2 l3 g0 g1 g2 g3 m0 m1 m2 m3 j0 j1 j2 j3
    obtain ⟨u0, k0, k1, k2, k3, f0, f1, f2, f3⟩ := s0
    obtain ⟨u1, l0, l1, l2, l3, g0, g1, g2, g3⟩ := s1
    have s2' := s2
    obtain ⟨u2, m0, m1, m2, m3, j0, j1, j2, j3⟩ := s2'
    obtain ⟨b1, b2, b3, b4, b5, b6, b7, b8, b9, b10⟩ := hc1.bounds
    obtain ⟨e1, e2, e3, e4, e5, e6, e7, e8, e9, e10⟩ := hc2.bounds
    have s0 : RectAt W3 B p q s t := ⟨u0, k0, k1, k2, k3, f0, f1, f2, f3⟩
    have s1 : RectAt W3 (B + 1) p' q' s' t' := ⟨u1, l0, l1, l2, l3, g0, g1, g2, g3⟩
    have nb : ¬ B = B + 1 + 1 := by omega
    have nb' : ¬ B = B + 2 := by omega
    go_wp2
    go_region
    go_wp2
    go_region_held3 (fun w' => w'.cell? ⟨B, 0, none⟩ = some (.int .i64 p) ∧ w'.cell? ⟨B, 1, none⟩ = some (.int .i64 q) ∧ w'.cell? ⟨B + 1, 0, none⟩ = some (.int .i64 p') ∧ w'.cell? ⟨B + 1, 1, none⟩ = some (.int .i64 q') ∧ w'.cell? ⟨B + 1, 2, none⟩ = some (.int .i64 s') ∧ w'.cell? ⟨B + 1, 3, none⟩ = some (.int .i64 t')) (first | go_keep | (simp only [*]; done) | (refine ⟨?_, ?_, ?_, ?_, ?_, ?_⟩ <;> first | assumption | (simp [go_sem, *]; done)))
      (first
        | (go_at_call 16; refine (clamp_any _ _ _ _).mono ?_; rintro e w5 ⟨rfl, rfl⟩)
        | (go_at_call 17; refine (clean_any _ _ _ _ _).mono ?_; rintro e w4 ⟨a, b, c, d, rfl, hc3, hb3⟩; obtain ⟨v2', m0', m1', m2', m3', j0', j1', j2', j3'⟩ := s2.drew.drew.below hb3 u2; obtain ⟨v1', n0', n1', n2', n3', _, _, _, _⟩ := s1.drew.drew.below hb3 u1; obtain ⟨v0', o0', o1', o2', o3', _, _, _, _⟩ := s0.drew.drew.below hb3 u0; obtain ⟨x0', y0', y1', y2', y3', _, _, _, _⟩ := (s0.drew.drew.below hb3 u0).other (b' := B + 1 + 1) nb a b c d))
    go_wp2
    simp [bodyPost, results, Try.results35, go_sem, m0', m1', m2', m3']
    refine ⟨a, b, c, d, ⟨rfl, rfl, rfl, rfl⟩, ?_, by rw [HB.out]; exact below_put ((hW.trans (Below.refl _ _).drew.drew).trans (hb3.mono (by show B ≤ W3.heap.size; omega))) (b := B + 1 + 1) (by omega) _ _ _ _⟩
    rw [← hc1, ← hc2]
    rw [wr (p' + s') (by omega), wr (q' + t') (by omega), wr (p' + s' - mn s s') (by unfold mn; omega), wr (q' + t' - mn t t') (by unfold mn; omega)] at hc3
    simp only [mn_eq] at hc3
    simp only [into]
    exact hc3

end Go.Proofs.Ytpmggljdcbbdfaa
