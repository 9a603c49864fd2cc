/- What package rect's Minus does. -/
import Derived.Test.YtpmggljdcbbdfaaDel
import Derived.Test.YtpmggljdcbbdfaaWalks2
namespace Go.Proofs.Ytpmggljdcbbdfaa
open Go.RowKit rm
attribute [local go_sem ↓] Go.wp_at_zero Go.wp_at_succ
attribute [local go_sem ↓ 10000] run_mn run_mx

/-- what is left of one rectangle without the other -/
def minus (a b : RR) : List RR := if meet (clean (clean a)) (clean b) = zero then fil [clean a] else fil (around (clean a) (meet (clean (clean a)) (clean b)))

theorem quad_of_rect {w : World} {g : Nat} {x y ww h : Int} (H : RectAt w g x y ww h) : Quad w g 0 ⟨x, y, ww, h⟩ := ⟨H.k0, H.k1, H.k2, H.k3, H.f0, H.f1, H.f2, H.f3⟩
theorem row_one (W : World) (x y ww h : Int) : RowL (W.alloc (rc x y ww h)) W.heap.size [⟨x, y, ww, h⟩] := by
  intro t r ht
  match t, ht with
  | 0, ht => simp at ht; subst ht; exact quad_of_rect (RectAt.new _ _ _ _ _ _)
  | t + 1, ht => simp at ht
theorem row_four (W : World) (a b c d : RR) : RowL (W.alloc (.cells #[.int .i64 a.x, .int .i64 a.y, .int .i64 a.w, .int .i64 a.h, .int .i64 b.x, .int .i64 b.y, .int .i64 b.w, .int .i64 b.h, .int .i64 c.x, .int .i64 c.y, .int .i64 c.w, .int .i64 c.h, .int .i64 d.x, .int .i64 d.y, .int .i64 d.w, .int .i64 d.h] 23)) W.heap.size [a, b, c, d] := by
  intro t r ht
  match t, ht with
  | 0, ht => simp at ht; subst ht; constructor <;> go_simp
  | 1, ht => simp at ht; subst ht; constructor <;> go_simp
  | 2, ht => simp at ht; subst ht; constructor <;> go_simp
  | 3, ht => simp at ht; subst ht; constructor <;> go_simp
  | t + 4, ht => simp at ht
theorem bd_of_is {m n : RR} (h : Is m (clean n)) : Bd m := by rw [show m = _ from h]; exact bd_clean _

set_option maxHeartbeats 1600000 in
theorem minus_any (x y ww h x' y' ww' h' : Int) (w : World) :
    Calls Try.prog 31 #[(.agg #[.int .i64 x, .int .i64 y, .int .i64 ww, .int .i64 h]), (.agg #[.int .i64 x', .int .i64 y', .int .i64 ww', .int .i64 h'])] w fun e w' =>
      ∃ g cap, e = .returned (.slice (some ⟨g, 0, none⟩) (minus ⟨x, y, ww, h⟩ ⟨x', y', ww', h'⟩).length cap) ∧ RowL w' g (minus ⟨x, y, ww, h⟩ ⟨x', y', ww', h'⟩) ∧ w.heap.size ≤ g ∧ g < w'.heap.size ∧ Below w.heap.size w w' := by
  have g1 := eqg23
  have g2 := run_eq_rr
  go_enter Try.func31, Try.ntmps31
  go_wp2_with fail
  obtain ⟨r0, r1, hbW⟩ := boxes2 w x y ww h x' y' ww' h'
  generalize ((w.alloc (rc x y ww h)).alloc (rc x' y' ww' h')) = W at *
  generalize hB : w.heap.size = B at *
  have HB := Lib.hid hB; clear hB
  refine (clean_any _ _ _ _ _).mono ?_
  rintro e w1 ⟨p, q, s, t, rfl, hc1, hb1⟩
  have hlt0 := r0.lt
  have hW1 := hbW.trans (hb1.mono (Nat.le_of_lt hlt0))
  replace r0 := r0.below hb1 r0.lt
  replace r1 := r1.below hb1 r1.lt
  have s0 := r0.put p q s t
  have s1 := r1.other (b' := B) (by omega) p q s t
  have hW := below_put hW1 (b := B) (Nat.le_refl _) p q s t
  obtain ⟨a10, a11, a12, a13, a14, a15, a16, a17, a18⟩ := (id r0 : RectAt _ _ _ _ _ _)
  obtain ⟨a20, a21, a22, a23, a24, a25, a26, a27, a28⟩ := (id r1 : RectAt _ _ _ _ _ _)
  go_wp2_with fail
  refine (meet_any _ _ _ _ _ _ _ _ _).mono ?_
  rintro e w2 ⟨mx', my', mw, mh, rfl, hM, hb2⟩
  have t0 := s0.below hb2 s0.lt
  have hsz : B < w2.heap.size := t0.lt
  have hW2 := hW.trans (hb2.mono (Nat.le_of_lt s0.lt))
  have bdA : Bd ⟨p, q, s, t⟩ := bd_of_is hc1
  have bdM : Bd ⟨mx', my', mw, mh⟩ := bd_of_is (n := _) hM
  clear a11 a12 a13 a14 a15 a16 a17 a18 a21 a22 a23 a24 a25 a26 a27 a28 r0 r1 s0 s1 hW hb1 hb2 hW1 hbW
  have t5 := RectAt.new w2 mx' my' mw mh 23
  have t2 := t0.alloc (rc mx' my' mw mh)
  have hW3 := hW2.alloc (Nat.le_of_lt hsz) (rc mx' my' mw mh)
  obtain ⟨⟨bA1, bA2⟩, ⟨bA3, bA4⟩, ⟨bA5, bA6⟩, bA7, bA8⟩ := (id bdA : Bd _)
  obtain ⟨⟨bM1, bM2⟩, ⟨bM3, bM4⟩, ⟨bM5, bM6⟩, bM7, bM8⟩ := (id bdM : Bd _)
  dsimp only at bA1 bA2 bA3 bA4 bA5 bA6 bA7 bA8 bM1 bM2 bM3 bM4 bM5 bM6 bM7 bM8
  by_cases hz : (⟨mx', my', mw, mh⟩ : RR) = zero
  · have y1 : eq4 mx' my' mw mh 0 0 0 0 = true := by simpa [eq4, zero] using hz
    have HZ := Lib.hid hz; clear hz
    obtain ⟨c0, c1, c2, c3, c4, c5, c6, c7, c8⟩ := (id t2 : RectAt _ _ _ _ _ _)
    go_wp2_with fail
    have hr9 := row_one ((w2.alloc (rc mx' my' mw mh))) p q s t
    have hF := filled_any (w2.heap.size + 1) 1 [⟨p, q, s, t⟩] ((w2.alloc (rc mx' my' mw mh)).alloc (rc p q s t)) (by simpa using hr9) (by simp) (by simp) (by simp)
    refine hF.mono ?_
    rintro e w3 ⟨rfl, hrow, hgb⟩
    have hm : minus ⟨x, y, ww, h⟩ ⟨x', y', ww', h'⟩ = fil [⟨p, q, s, t⟩] := by unfold minus; rw [← hc1, ← hM, if_pos HZ.out]
    have HM := Lib.hid hm; clear hm hF
    go_wp2_with fail
    go_ret
    rw [HM.out]
    have hs3 := hgb.size
    simp at hs3
    exact ⟨_, _, rfl, hrow, by rw [HB.out]; omega, by omega, by rw [HB.out]; exact (hW3.alloc (by simp; omega) (rc p q s t)).trans (below_of_gb hgb (by simp; omega) (by omega))⟩
  · have y1 : eq4 mx' my' mw mh 0 0 0 0 = false := by simpa [eq4, zero] using hz
    have HZ := Lib.hid hz; clear hz
    clear t0 hW2
    obtain ⟨c0, c1, c2, c3, c4, c5, c6, c7, c8⟩ := (id t2 : RectAt _ _ _ _ _ _)
    obtain ⟨e0, e1, e2, e3, e4, e5, e6, e7, e8⟩ := (id t5 : RectAt _ _ _ _ _ _)
    go_wp2_with fail
    generalize (w2.alloc (rc mx' my' mw mh)) = W3 at *
    generalize w2.heap.size = P5 at *
    have d5 : B < P5 := hsz
    obtain ⟨z1, z2, z3, z4⟩ := (id bdA : Bd _)
    refine (split_any _ _ _ _ _ _ z1 z2 z3 z4 _).mono ?_
    rintro e w4 ⟨x6, y6, w6, h6, x7, y7, w7, h7, rfl, h6', h7', hb4⟩
    have bd7 : Bd ⟨x7, y7, w7, h7⟩ := by rw [show (⟨x7, y7, w7, h7⟩ : RR) = _ from h7']; exact bd_remain _ _ _
    replace t2 := t2.below hb4 t2.lt
    replace t5 := t5.below hb4 t5.lt
    have hW4 := hW3.trans (hb4.mono (Nat.le_of_lt c0))
    clear hb4 hW3 c0 c1 c2 c3 c4 c5 c6 c7 c8 e0 e1 e2 e3 e4 e5 e6 e7 e8
    have l2 := t2.lt
    have l5 := t5.lt
    have t6 := (RectAt.new w4 x6 y6 w6 h6 23).alloc (rc x7 y7 w7 h7)
    have t7 : RectAt ((w4.alloc (rc x6 y6 w6 h6)).alloc (rc x7 y7 w7 h7)) (w4.heap.size + 1) x7 y7 w7 h7 := by simpa using RectAt.new (w4.alloc (rc x6 y6 w6 h6)) x7 y7 w7 h7 23
    replace t2 := (t2.alloc (rc x6 y6 w6 h6)).alloc (rc x7 y7 w7 h7)
    replace t5 := (t5.alloc (rc x6 y6 w6 h6)).alloc (rc x7 y7 w7 h7)
    have hW5 := (hW4.alloc (Nat.le_of_lt l2) (rc x6 y6 w6 h6)).alloc (by simp; omega) (rc x7 y7 w7 h7)
    obtain ⟨e0, e1, e2, e3, e4, e5, e6, e7, e8⟩ := (id t5 : RectAt _ _ _ _ _ _)
    clear hW4
    go_wp2_with fail
    generalize ((w4.alloc (rc x6 y6 w6 h6)).alloc (rc x7 y7 w7 h7)) = W5 at *
    generalize w4.heap.size = P6 at *
    obtain ⟨z1, z2, z3, z4⟩ := (id bd7 : Bd _)
    refine (split_any _ _ _ _ _ _ z1 z2 z3 z4 _).mono ?_
    rintro e wq ⟨x8, y8, w8, h8, x9, y9, w9, h9, rfl, h8', h9', hb6⟩
    have bd8 : Bd ⟨x8, y8, w8, h8⟩ := by rw [show (⟨x8, y8, w8, h8⟩ : RR) = _ from h8']; exact bd_lead _ _ _
    replace t2 := t2.below hb6 t2.lt
    replace t5 := t5.below hb6 t5.lt
    replace t6 := t6.below hb6 t6.lt
    replace t7 := t7.below hb6 t7.lt
    have hW6 := hW5.trans (hb6.mono (by omega))
    clear hb6 hW5 e0 e1 e2 e3 e4 e5 e6 e7 e8
    have mt2 := t2.lt
    have mt5 := t5.lt
    have mt6 := t6.lt
    have mt7 := t7.lt
    have t8 := (RectAt.new wq x8 y8 w8 h8 23).alloc (rc x9 y9 w9 h9)
    have t9 : RectAt ((wq.alloc (rc x8 y8 w8 h8)).alloc (rc x9 y9 w9 h9)) (wq.heap.size + 1) x9 y9 w9 h9 := by simpa using RectAt.new (wq.alloc (rc x8 y8 w8 h8)) x9 y9 w9 h9 23
    replace t2 := (t2.alloc (rc x8 y8 w8 h8)).alloc (rc x9 y9 w9 h9)
    replace t5 := (t5.alloc (rc x8 y8 w8 h8)).alloc (rc x9 y9 w9 h9)
    replace t6 := (t6.alloc (rc x8 y8 w8 h8)).alloc (rc x9 y9 w9 h9)
    replace t7 := (t7.alloc (rc x8 y8 w8 h8)).alloc (rc x9 y9 w9 h9)
    have hW7 := (hW6.alloc (by omega) (rc x8 y8 w8 h8)).alloc (by simp; omega) (rc x9 y9 w9 h9)
    obtain ⟨e0, e1, e2, e3, e4, e5, e6, e7, e8⟩ := (id t5 : RectAt _ _ _ _ _ _)
    obtain ⟨c0, c1, c2, c3, c4, c5, c6, c7, c8⟩ := (id t2 : RectAt _ _ _ _ _ _)
    clear hW6
    go_wp2_with fail
    generalize ((wq.alloc (rc x8 y8 w8 h8)).alloc (rc x9 y9 w9 h9)) = W7 at *
    generalize wq.heap.size = P8 at *
    obtain ⟨z1, z2, z3, z4⟩ := (id bd8 : Bd _)
    refine (split_any _ _ _ _ _ _ z1 z2 z3 z4 _).mono ?_
    rintro e w8' ⟨xa, ya, wa, ha, xb, yb, wb, hb, rfl, ha', hb', hb8⟩
    have bdb : Bd ⟨xb, yb, wb, hb⟩ := by rw [show (⟨xb, yb, wb, hb⟩ : RR) = _ from hb']; exact bd_remain _ _ _
    replace t2 := t2.below hb8 t2.lt
    replace t5 := t5.below hb8 t5.lt
    replace t6 := t6.below hb8 t6.lt
    replace t7 := t7.below hb8 t7.lt
    replace t8 := t8.below hb8 t8.lt
    replace t9 := t9.below hb8 t9.lt
    have hW8 := hW7.trans (hb8.mono (by omega))
    clear hb8 hW7 e0 e1 e2 e3 e4 e5 e6 e7 e8 c0 c1 c2 c3 c4 c5 c6 c7 c8
    have nt5 := t5.lt
    have nt6 := t6.lt
    have nt7 := t7.lt
    have nt8 := t8.lt
    have nt9 := t9.lt
    obtain ⟨c0, c1, c2, c3, c4, c5, c6, c7, c8⟩ := (id t7 : RectAt _ _ _ _ _ _)
    obtain ⟨e0, e1, e2, e3, e4, e5, e6, e7, e8⟩ := (id t5 : RectAt _ _ _ _ _ _)
    have q57 : ¬ P5 = P6 + 1 := by omega
    have q75 : ¬ P6 + 1 = P5 := by omega
    have q5 : ¬ P5 = w8'.heap.size := by omega
    have hx8 : (((((World.setCell w8' ⟨(P6 + 1), 0, none⟩ (.int .i64 xb)).setCell ⟨(P6 + 1), 1, none⟩ (.int .i64 yb)).setCell ⟨(P6 + 1), 2, none⟩ (.int .i64 wb)).setCell ⟨(P6 + 1), 3, none⟩ (.int .i64 hb))).heap.size = w8'.heap.size := by simp [World.setCell]
    have t10 : RectAt ((((((World.setCell w8' ⟨(P6 + 1), 0, none⟩ (.int .i64 xb)).setCell ⟨(P6 + 1), 1, none⟩ (.int .i64 yb)).setCell ⟨(P6 + 1), 2, none⟩ (.int .i64 wb)).setCell ⟨(P6 + 1), 3, none⟩ (.int .i64 hb))).alloc (rc xa ya wa ha)) w8'.heap.size xa ya wa ha := by have H := RectAt.new (((((World.setCell w8' ⟨(P6 + 1), 0, none⟩ (.int .i64 xb)).setCell ⟨(P6 + 1), 1, none⟩ (.int .i64 yb)).setCell ⟨(P6 + 1), 2, none⟩ (.int .i64 wb)).setCell ⟨(P6 + 1), 3, none⟩ (.int .i64 hb))) xa ya wa ha 23; rwa [hx8] at H
    replace t7 := (t7.put xb yb wb hb).alloc (rc xa ya wa ha)
    replace t5 := (t5.other (b' := P6 + 1) (by omega) xb yb wb hb).alloc (rc xa ya wa ha)
    replace t6 := (t6.other (b' := P6 + 1) (by omega) xb yb wb hb).alloc (rc xa ya wa ha)
    replace t9 := (t9.other (b' := P6 + 1) (by omega) xb yb wb hb).alloc (rc xa ya wa ha)
    have hW9 := (below_put hW8 (b := P6 + 1) (by omega) xb yb wb hb).alloc (by rw [hx8]; omega) (rc xa ya wa ha)
    have HX8 := Lib.hid hx8; clear hx8
    have hn10 : ¬ P6 + 1 = w8'.heap.size := by omega
    clear hW8 t2 t8
    go_wp2_with fail
    generalize hW9e : ((((((World.setCell w8' ⟨(P6 + 1), 0, none⟩ (.int .i64 xb)).setCell ⟨(P6 + 1), 1, none⟩ (.int .i64 yb)).setCell ⟨(P6 + 1), 2, none⟩ (.int .i64 wb)).setCell ⟨(P6 + 1), 3, none⟩ (.int .i64 hb))).alloc (rc xa ya wa ha)) = W9 at *
    clear hW9e
    generalize w8'.heap.size = P10 at *
    obtain ⟨z1, z2, z3, z4⟩ := (id bdb : Bd _)
    refine (split_any _ _ _ _ _ _ z1 z2 z3 z4 _).mono ?_
    rintro e wx ⟨xc, yc, wc', hc', xd, yd, wd, hd, rfl, hcc, hdd, hbx⟩
    replace t6 := t6.below hbx t6.lt
    replace t9 := t9.below hbx t9.lt
    replace t10 := t10.below hbx t10.lt
    have hWx := hW9.trans (hbx.mono (by have := t5.lt; omega))
    clear hbx hW9 e0 e1 e2 e3 e4 e5 e6 e7 e8 c0 c1 c2 c3 c4 c5 c6 c7 c8 t5 t7 hn10
    have t12 : RectAt ((wx.alloc (rc xc yc wc' hc')).alloc (rc xd yd wd hd)) (wx.heap.size + 1) xd yd wd hd := by simpa using RectAt.new (wx.alloc (rc xc yc wc' hc')) xd yd wd hd 23
    have hBx : B < wx.heap.size := by have := t9.lt; omega
    replace t6 := (t6.alloc (rc xc yc wc' hc')).alloc (rc xd yd wd hd)
    replace t9 := (t9.alloc (rc xc yc wc' hc')).alloc (rc xd yd wd hd)
    replace t10 := (t10.alloc (rc xc yc wc' hc')).alloc (rc xd yd wd hd)
    have hWy := (hWx.alloc (by omega) (rc xc yc wc' hc')).alloc (by simp; omega) (rc xd yd wd hd)
    obtain ⟨c0, c1, c2, c3, c4, c5, c6, c7, c8⟩ := (id t6 : RectAt _ _ _ _ _ _)
    obtain ⟨e0, e1, e2, e3, e4, e5, e6, e7, e8⟩ := (id t9 : RectAt _ _ _ _ _ _)
    obtain ⟨g0, g1', g2', g3, g4, g5, g6, g7, g8⟩ := (id t10 : RectAt _ _ _ _ _ _)
    obtain ⟨i0, i1, i2, i3, i4, i5, i6, i7, i8⟩ := (id t12 : RectAt _ _ _ _ _ _)
    clear hWx
    go_wp2_with fail
    have hr9 := row_four ((wx.alloc (rc xc yc wc' hc')).alloc (rc xd yd wd hd)) ⟨x6, y6, w6, h6⟩ ⟨xa, ya, wa, ha⟩ ⟨xd, yd, wd, hd⟩ ⟨x9, y9, w9, h9⟩
    have hF := filled_any (wx.heap.size + 1 + 1) 4 [⟨x6, y6, w6, h6⟩, ⟨xa, ya, wa, ha⟩, ⟨xd, yd, wd, hd⟩, ⟨x9, y9, w9, h9⟩] _ (by simpa using hr9) (by simp) (by simp) (by simp)
    refine hF.mono ?_
    rintro e w3 ⟨rfl, hrow, hgb⟩
    have hm : minus ⟨x, y, ww, h⟩ ⟨x', y', ww', h'⟩ = fil [⟨x6, y6, w6, h6⟩, ⟨xa, ya, wa, ha⟩, ⟨xd, yd, wd, hd⟩, ⟨x9, y9, w9, h9⟩] := by unfold minus; rw [← hc1, ← hM, if_neg HZ.out]; unfold around; dsimp only; rw [← h7', ← h6', ← h8', ← h9', ← ha', ← hb', ← hdd]
    have HM := Lib.hid hm; clear hm hF
    go_wp2_with fail
    go_ret
    rw [HM.out]
    have hs3 := hgb.size
    simp at hs3
    exact ⟨_, _, rfl, hrow, by rw [HB.out]; omega, by omega, by rw [HB.out]; exact (hWy.alloc (by simp; omega) _).trans (below_of_gb hgb (by simp; omega) (by omega))⟩
end Go.Proofs.Ytpmggljdcbbdfaa
