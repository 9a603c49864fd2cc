/- What package rect's split does: a rectangle's first columns (across: rows), and those that are left. -/
import Derived.Test.YtpmggljdcbbdfaaWalks5
import Derived.Deep.DeepCutAuto
namespace Go.Proofs.Ytpmggljdcbbdfaa
open Go.RowKit rm
attribute [local go_sem ↓] Go.wp_at_zero Go.wp_at_succ
attribute [local go_sem ↓ 10000] run_mn run_mx

theorem boxes5 (w : World) (x y ww h : Int) :
    ∃ W : World, ((((((w.alloc (rc x y ww h)).alloc (rc 0 0 0 0)).alloc (rc 0 0 0 0)).alloc (rc x y ww h)).alloc (rc x y ww h)).drew) = W ∧
    RectAt W w.heap.size x y ww h ∧ RectAt W (w.heap.size + 1) 0 0 0 0 ∧ RectAt W (w.heap.size + 1 + 1) 0 0 0 0 ∧ RectAt W (w.heap.size + 1 + 1 + 1) x y ww h ∧ RectAt W (w.heap.size + 1 + 1 + 1 + 1) x y ww h ∧ Below w.heap.size w W :=
  ⟨_, rfl, (((((RectAt.new _ _ _ _ _ _).alloc _).alloc _).alloc _).alloc _).drew, by simpa using ((((RectAt.new (w.alloc (rc x y ww h)) 0 0 0 0 23).alloc (rc 0 0 0 0)).alloc (rc x y ww h)).alloc (rc x y ww h)).drew,
   by simpa using (((RectAt.new ((w.alloc (rc x y ww h)).alloc (rc 0 0 0 0)) 0 0 0 0 23).alloc (rc x y ww h)).alloc (rc x y ww h)).drew,
   by simpa using ((RectAt.new (((w.alloc (rc x y ww h)).alloc (rc 0 0 0 0)).alloc (rc 0 0 0 0)) x y ww h 23).alloc (rc x y ww h)).drew,
   by simpa using (RectAt.new ((((w.alloc (rc x y ww h)).alloc (rc 0 0 0 0)).alloc (rc 0 0 0 0)).alloc (rc x y ww h)) x y ww h 23).drew,
   (((((((Below.refl _ _).alloc (Nat.le_refl _) _).alloc (by simp) _).alloc (by simp; omega) _).alloc (by simp; omega) _).alloc (by simp; omega) _).drew)⟩

theorem cl_bd (n hi : Int) (h : 0 ≤ hi) : 0 ≤ cl n 0 hi ∧ cl n 0 hi ≤ hi := by unfold cl; omega

set_option maxHeartbeats 3200000 in
theorem split_any (x y ww h n : Int) (ac : Bool) (bx : -5000 ≤ x ∧ x ≤ 5000) (bY : -5000 ≤ y ∧ y ≤ 5000) (bw : 0 ≤ ww ∧ ww ≤ 200) (bh : 0 ≤ h ∧ h ≤ 200) (w : World) :
    Calls Try.prog 41 #[(.agg #[.int .i64 x, .int .i64 y, .int .i64 ww, .int .i64 h]), .int .i64 n, .bool ac] w fun e w' =>
      ∃ a b c d a' b' c' d' : Int, e = .returned (.tuple #[(.agg #[.int .i64 a, .int .i64 b, .int .i64 c, .int .i64 d]), (.agg #[.int .i64 a', .int .i64 b', .int .i64 c', .int .i64 d'])]) ∧ Is ⟨a, b, c, d⟩ (lead ⟨x, y, ww, h⟩ n ac) ∧ Is ⟨a', b', c', d'⟩ (remain ⟨x, y, ww, h⟩ n ac) ∧ Below w.heap.size w w' := by
  go_enter Try.func41, Try.ntmps41
  go_upto_region 1 with fail
  go_cut [8, 9] (fun s8 s9 W => ∃ P8 P9 : Nat, s8 = .pointer (some ⟨P8, 0, none⟩) ∧ s9 = .pointer (some ⟨P9, 0, none⟩) ∧ RectAt W w.heap.size x y ww h ∧ RectAt W (w.heap.size + 1) 0 0 0 0 ∧ RectAt W (w.heap.size + 1 + 1) 0 0 0 0 ∧
    RectAt W P8 x y ww h ∧ RectAt W P9 x y ww h ∧ Below w.heap.size w W ∧ w.heap.size + 1 + 1 < P8 ∧ w.heap.size + 1 + 1 < P9 ∧ P8 ≠ P9)
  case first =>
    go_region
    all_goals
      go_wp2_with fail
      go_meet
      obtain ⟨W, rfl, r0, r1, r2, r3, r4, hW⟩ := boxes5 w x y ww h
    · exact ⟨_, _, rfl, rfl, r0, r1, r2, r3, r4, hW, by omega, by omega, by omega⟩
    · exact ⟨_, _, rfl, rfl, r0, r1, r2, r4, r3, hW, by omega, by omega, by omega⟩
  case rest =>
    obtain ⟨P8, P9, rfl, rfl, r0, r1, r2, r3, r4, hW, hd1, hd2, hd3⟩ := hcut
    generalize wc = W at *
    obtain ⟨u0, k0, k1, k2, k3, f0, f1, f2, f3⟩ := (id r0 : RectAt _ _ _ _ _ _)
    obtain ⟨u3, l0, l1, l2, l3, g0, g1, g2, g3⟩ := (id r3 : RectAt _ _ _ _ _ _)
    obtain ⟨u4, m0, m1, m2, m3, j0, j1, j2, j3⟩ := (id r4 : RectAt _ _ _ _ _ _)
    have n1 : ¬ w.heap.size = P8 := by omega
    have n2 : ¬ w.heap.size = P9 := by omega
    have n3 : ¬ P9 = P8 := by omega
    have n4 : ¬ P8 = P9 := by omega
    go_upto_if 12 with (fail)
    go_cut [] (fun W' => ∃ a b c d a' b' c' d' : Int, RectAt W' P8 a b c d ∧ RectAt W' P9 a' b' c' d' ∧ lead ⟨x, y, ww, h⟩ n ac = clean ⟨a, b, c, d⟩ ∧ remain ⟨x, y, ww, h⟩ n ac = clean ⟨a', b', c', d'⟩ ∧
      RectAt W' (w.heap.size + 1) 0 0 0 0 ∧ RectAt W' (w.heap.size + 1 + 1) 0 0 0 0 ∧ Below w.heap.size w W')
    case first =>
      cases ac
      · go_wp2_with fail
        refine (clamp_any _ _ _ _).mono ?_
        rintro e w2 ⟨rfl, rfl⟩
        obtain ⟨c1, c2⟩ := cl_bd n ww (by omega)
        generalize hm : cl n 0 ww = m at *
        have HM := Lib.hid hm; clear hm
        go_wp2_with fail
        go_region
        go_wp2_with fail
        have q8 : RectAt ((((W.setCell ⟨P8, 2, none⟩ (.int .i64 m)).setCell ⟨P9, 0, none⟩ (.int .i64 (x + m))).setCell ⟨P9, 2, none⟩ (.int .i64 (ww - m))).drew) P8 x y m h := by
          constructor
          · simpa [World.setCell] using u3
          all_goals go_simp
        have q9 : RectAt ((((W.setCell ⟨P8, 2, none⟩ (.int .i64 m)).setCell ⟨P9, 0, none⟩ (.int .i64 (x + m))).setCell ⟨P9, 2, none⟩ (.int .i64 (ww - m))).drew) P9 (x + m) y (ww - m) h := by
          constructor
          · simpa [World.setCell] using u4
          all_goals go_simp
        have q1 : RectAt ((((W.setCell ⟨P8, 2, none⟩ (.int .i64 m)).setCell ⟨P9, 0, none⟩ (.int .i64 (x + m))).setCell ⟨P9, 2, none⟩ (.int .i64 (ww - m))).drew) (w.heap.size + 1) 0 0 0 0 := (((r1.set1 (by simp; omega) _).set1 (by simp; omega) _).set1 (by simp; omega) _).drew
        have q2 : RectAt ((((W.setCell ⟨P8, 2, none⟩ (.int .i64 m)).setCell ⟨P9, 0, none⟩ (.int .i64 (x + m))).setCell ⟨P9, 2, none⟩ (.int .i64 (ww - m))).drew) (w.heap.size + 1 + 1) 0 0 0 0 := (((r2.set1 (by simp; omega) _).set1 (by simp; omega) _).set1 (by simp; omega) _).drew
        have hW4 : Below w.heap.size w ((((W.setCell ⟨P8, 2, none⟩ (.int .i64 m)).setCell ⟨P9, 0, none⟩ (.int .i64 (x + m))).setCell ⟨P9, 2, none⟩ (.int .i64 (ww - m))).drew) := (((hW.setCell (by simp; omega) _).setCell (by simp; omega) _).setCell (by simp; omega) _).drew
        go_meet
        exact ⟨x, y, m, h, (x + m), y, (ww - m), h, q8, q9, by unfold lead; rw [if_neg (by decide)]; dsimp only; rw [HM.out], by unfold remain; rw [if_neg (by decide)]; dsimp only; rw [HM.out], q1, q2, hW4⟩
      · go_wp2_with fail
        refine (clamp_any _ _ _ _).mono ?_
        rintro e w2 ⟨rfl, rfl⟩
        obtain ⟨c1, c2⟩ := cl_bd n h (by omega)
        generalize hm : cl n 0 h = m at *
        have HM := Lib.hid hm; clear hm
        go_wp2_with fail
        go_region
        go_wp2_with fail
        have q8 : RectAt ((((W.setCell ⟨P8, 3, none⟩ (.int .i64 m)).setCell ⟨P9, 1, none⟩ (.int .i64 (y + m))).setCell ⟨P9, 3, none⟩ (.int .i64 (h - m))).drew) P8 x y ww m := by
          constructor
          · simpa [World.setCell] using u3
          all_goals go_simp
        have q9 : RectAt ((((W.setCell ⟨P8, 3, none⟩ (.int .i64 m)).setCell ⟨P9, 1, none⟩ (.int .i64 (y + m))).setCell ⟨P9, 3, none⟩ (.int .i64 (h - m))).drew) P9 x (y + m) ww (h - m) := by
          constructor
          · simpa [World.setCell] using u4
          all_goals go_simp
        have q1 : RectAt ((((W.setCell ⟨P8, 3, none⟩ (.int .i64 m)).setCell ⟨P9, 1, none⟩ (.int .i64 (y + m))).setCell ⟨P9, 3, none⟩ (.int .i64 (h - m))).drew) (w.heap.size + 1) 0 0 0 0 := (((r1.set1 (by simp; omega) _).set1 (by simp; omega) _).set1 (by simp; omega) _).drew
        have q2 : RectAt ((((W.setCell ⟨P8, 3, none⟩ (.int .i64 m)).setCell ⟨P9, 1, none⟩ (.int .i64 (y + m))).setCell ⟨P9, 3, none⟩ (.int .i64 (h - m))).drew) (w.heap.size + 1 + 1) 0 0 0 0 := (((r2.set1 (by simp; omega) _).set1 (by simp; omega) _).set1 (by simp; omega) _).drew
        have hW4 : Below w.heap.size w ((((W.setCell ⟨P8, 3, none⟩ (.int .i64 m)).setCell ⟨P9, 1, none⟩ (.int .i64 (y + m))).setCell ⟨P9, 3, none⟩ (.int .i64 (h - m))).drew) := (((hW.setCell (by simp; omega) _).setCell (by simp; omega) _).setCell (by simp; omega) _).drew
        go_meet
        exact ⟨x, y, ww, m, x, (y + m), ww, (h - m), q8, q9, by unfold lead; rw [if_pos rfl]; dsimp only; rw [HM.out], by unfold remain; rw [if_pos rfl]; dsimp only; rw [HM.out], q1, q2, hW4⟩
    case rest =>
      clear r0 r1 r2 r3 r4 hW k0 k1 k2 k3 f0 f1 f2 f3 l0 l1 l2 l3 g0 g1 g2 g3 m0 m1 m2 m3 j0 j1 j2 j3 u0 u3 u4
      obtain ⟨x8, y8, w8, h8, x9, y9, w9, h9, q8, q9, hl8, hr9, q1, q2, hW4⟩ := hcut
      generalize wc = W4 at *
      have HL8 := Lib.hid hl8; clear hl8
      have HR9 := Lib.hid hr9; clear hr9
      replace q8 := q8.drew
      replace q9 := q9.drew
      replace q1 := q1.drew
      replace q2 := q2.drew
      obtain ⟨u3, l0, l1, l2, l3, g0, g1, g2, g3⟩ := (id q8 : RectAt _ _ _ _ _ _)
      obtain ⟨u4, m0, m1, m2, m3, j0, j1, j2, j3⟩ := (id q9 : RectAt _ _ _ _ _ _)
      have n5 : ¬ P8 = w.heap.size + 1 := by omega
      have n6 : ¬ P9 = w.heap.size + 1 := by omega
      have n7 : ¬ P8 = w.heap.size + 1 + 1 := by omega
      have n8 : ¬ P9 = w.heap.size + 1 + 1 := by omega
      go_wp2_with fail
      go_region_with (first
        | (go_at_call_of 17 (Value.agg #[.int .i64 x8, .int .i64 y8, .int .i64 w8, .int .i64 h8]); refine (clean_any _ _ _ _ _).mono ?_; rintro e w1 ⟨a, b, c, d, rfl, hc1, hb1⟩; have t8 := RectAt.below q8 hb1 q8.lt; have t9 := RectAt.below q9 hb1 q9.lt; have t1 := RectAt.below q1 hb1 q1.lt; have t2 := RectAt.below q2 hb1 q2.lt; obtain ⟨u4', m0', m1', m2', m3', j0', j1', j2', j3'⟩ := (id t9 : RectAt _ _ _ _ _ _); obtain ⟨u3', l0', l1', l2', l3', g0', g1', g2', g3'⟩ := (id t1 : RectAt _ _ _ _ _ _))
        | (go_at_call 17; refine (clean_any _ _ _ _ _).mono ?_; rintro e w3 ⟨a', b', c', d', rfl, hc2, hb2⟩; have s1 := RectAt.below t1 hb2 t1.lt; have s2 := RectAt.below t2 hb2 t2.lt; obtain ⟨o4, p0, p1, p2, p3, q0', q1', q2', q3'⟩ := (id s1 : RectAt _ _ _ _ _ _); obtain ⟨o3, r0', r1', r2', r3', s0', s1', s2', s3'⟩ := (id s2 : RectAt _ _ _ _ _ _)))
      all_goals
        go_wp2
        simp [bodyPost, results, Try.results41, go_sem, p0, p1, p2, p3, r0', r1', r2', r3']
        refine ⟨a, b, c, d, a', b', c', d', ⟨⟨rfl, rfl, rfl, rfl⟩, rfl, rfl, rfl, rfl⟩, by rw [HL8.out]; exact hc1, by rw [HR9.out]; exact hc2, ?_⟩
        exact below_put (below_put (((hW4.trans (Below.refl _ _).drew).trans (hb1.mono (by show w.heap.size ≤ W4.heap.size; exact hW4.size))).trans (hb2.mono (by omega))) (b := w.heap.size + 1) (by omega) _ _ _ _) (b := w.heap.size + 1 + 1) (by omega) _ _ _ _
end Go.Proofs.Ytpmggljdcbbdfaa
