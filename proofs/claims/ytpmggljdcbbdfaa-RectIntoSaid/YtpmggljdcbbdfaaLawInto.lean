/- RectInto returns true for every two rectangles and every two numbers, in every memory, and leaves everything that was there as it was. No condition. -/
import Derived.Test.YtpmggljdcbbdfaaFld
import Derived.Test.YtpmggljdcbbdfaaMath4
namespace Go.Proofs.Ytpmggljdcbbdfaa
open Go.ChangeShapes Go.WideShapes Go.ChangeAt Go.RowKit rm
attribute [local go_sem ↓] Go.wp_at_zero Go.wp_at_succ
attribute [local go_sem ↓ 10000] run_mn run_mx

def farB (n : Int) : Bool := decide (n < -1000 ∨ 1000 < n)
theorem far_any (n : Int) (w : World) : Calls Try.prog 36 #[.int .i64 n] w fun e w' => e = .returned (.bool (farB n)) ∧ w = w' := by
  go_enter Try.func36, Try.ntmps36
  go_wp2
  all_goals
    go_ret
    exact ⟨ret_bool (by rw [Bool.eq_iff_iff]; simp [farB]; try omega), rfl⟩

theorem inV_iff {x y ww h x' y' ww' h' : Int} : inV x y ww h x' y' ww' h' = true ↔ meet (clean ⟨x, y, ww, h⟩) (clean ⟨x', y', ww', h'⟩) = clean ⟨x, y, ww, h⟩ := by
  unfold inV meetV cleanV
  simp

theorem wr64 (n : Int) (h : -1000000 ≤ n ∧ n ≤ 1000000) : wrap64 n = n := by simp only [wrap64]; omega
theorem near_all {x y ww h dx dy : Int} {S C : RR} (hS : shiftV x y ww h dx dy = S) (hC : cleanV x y ww h = C) (hA : Ok (clean ⟨x, y, ww, h⟩)) (g1 : farB dx = false) (g2 : farB dy = false) (g3 : farB C.x = false) (g4 : farB C.y = false) :
    (S.w != C.w) = false ∧ (S.h != C.h) = false ∧ (0 < C.w → (S.x != wrap64 (C.x + dx)) = false ∧ (S.y != wrap64 (C.y + dy)) = false) := by
  subst hS hC
  simp only [farB, decide_eq_false_iff_not] at g1 g2 g3 g4
  unfold cleanV at *
  obtain ⟨e1, e2, e3⟩ := shift_near hA dx dy (by omega) (by omega) (by omega) (by omega)
  refine ⟨by simpa [shiftV] using e1, by simpa [shiftV] using e2, fun h0 => ?_⟩
  obtain ⟨e4, e5⟩ := e3 h0
  rw [wr64 _ (by omega), wr64 _ (by omega)]
  exact ⟨by simpa [shiftV] using e4, by simpa [shiftV] using e5⟩
theorem hold_one {w w1 : World} {B1 B2 B3 : Nat} {x1 y1 w1' h1' x2 y2 w2' h2' x3 y3 w3' h3' : Int} (h : (Below w.heap.size w w1 ∧ B1 < w1.heap.size ∧ B2 < w1.heap.size ∧ B3 < w1.heap.size ∧ w1.cell? ⟨B1, 0, none⟩ = some (.int .i64 ((⟨x1, y1, w1', h1'⟩ : RR)).x) ∧ w1.cell? ⟨B1, 1, none⟩ = some (.int .i64 ((⟨x1, y1, w1', h1'⟩ : RR)).y) ∧ w1.cell? ⟨B1, 2, none⟩ = some (.int .i64 ((⟨x1, y1, w1', h1'⟩ : RR)).w) ∧ w1.cell? ⟨B1, 3, none⟩ = some (.int .i64 ((⟨x1, y1, w1', h1'⟩ : RR)).h) ∧ w1.cell? ⟨B2, 0, none⟩ = some (.int .i64 ((⟨x2, y2, w2', h2'⟩ : RR)).x) ∧ w1.cell? ⟨B2, 1, none⟩ = some (.int .i64 ((⟨x2, y2, w2', h2'⟩ : RR)).y) ∧ w1.cell? ⟨B2, 2, none⟩ = some (.int .i64 ((⟨x2, y2, w2', h2'⟩ : RR)).w) ∧ w1.cell? ⟨B2, 3, none⟩ = some (.int .i64 ((⟨x2, y2, w2', h2'⟩ : RR)).h) ∧ w1.cell? ⟨B3, 0, none⟩ = some (.int .i64 ((⟨x3, y3, w3', h3'⟩ : RR)).x) ∧ w1.cell? ⟨B3, 1, none⟩ = some (.int .i64 ((⟨x3, y3, w3', h3'⟩ : RR)).y) ∧ w1.cell? ⟨B3, 2, none⟩ = some (.int .i64 ((⟨x3, y3, w3', h3'⟩ : RR)).w) ∧ w1.cell? ⟨B3, 3, none⟩ = some (.int .i64 ((⟨x3, y3, w3', h3'⟩ : RR)).h))) : (Below w.heap.size w w1 ∧ B1 < w1.heap.size ∧ w1.cell? ⟨B1, 0, none⟩ = some (.int .i64 (x1)) ∧ w1.cell? ⟨B1, 1, none⟩ = some (.int .i64 (y1)) ∧ w1.cell? ⟨B1, 2, none⟩ = some (.int .i64 (w1')) ∧ w1.cell? ⟨B1, 3, none⟩ = some (.int .i64 (h1'))) := by
  obtain ⟨t0, t1, t2, t3, k0, k1, k2, k3, l0, l1, l2, l3, n0, n1, n2, n3⟩ := h
  exact ⟨t0, t1, k0, k1, k2, k3⟩
theorem new_two {w w1 : World} {B1 : Nat} {x1 y1 w1' h1' : Int} {p : RR} (h : (Below w.heap.size w w1 ∧ B1 < w1.heap.size ∧ w1.cell? ⟨B1, 0, none⟩ = some (.int .i64 (x1)) ∧ w1.cell? ⟨B1, 1, none⟩ = some (.int .i64 (y1)) ∧ w1.cell? ⟨B1, 2, none⟩ = some (.int .i64 (w1')) ∧ w1.cell? ⟨B1, 3, none⟩ = some (.int .i64 (h1')))) : (Below w.heap.size w (w1.alloc (rc p.x p.y p.w p.h)) ∧ B1 < (w1.alloc (rc p.x p.y p.w p.h)).heap.size ∧ w1.heap.size < (w1.alloc (rc p.x p.y p.w p.h)).heap.size ∧ (w1.alloc (rc p.x p.y p.w p.h)).cell? ⟨B1, 0, none⟩ = some (.int .i64 (x1)) ∧ (w1.alloc (rc p.x p.y p.w p.h)).cell? ⟨B1, 1, none⟩ = some (.int .i64 (y1)) ∧ (w1.alloc (rc p.x p.y p.w p.h)).cell? ⟨B1, 2, none⟩ = some (.int .i64 (w1')) ∧ (w1.alloc (rc p.x p.y p.w p.h)).cell? ⟨B1, 3, none⟩ = some (.int .i64 (h1')) ∧ (w1.alloc (rc p.x p.y p.w p.h)).cell? ⟨w1.heap.size, 0, none⟩ = some (.int .i64 (p).x) ∧ (w1.alloc (rc p.x p.y p.w p.h)).cell? ⟨w1.heap.size, 1, none⟩ = some (.int .i64 (p).y) ∧ (w1.alloc (rc p.x p.y p.w p.h)).cell? ⟨w1.heap.size, 2, none⟩ = some (.int .i64 (p).w) ∧ (w1.alloc (rc p.x p.y p.w p.h)).cell? ⟨w1.heap.size, 3, none⟩ = some (.int .i64 (p).h)) := by
  obtain ⟨t0, t1, k0, k1, k2, k3⟩ := hold1 ((Below.refl w1.heap.size w1).alloc (Nat.le_refl _) (rc p.x p.y p.w p.h)) h
  obtain ⟨t2, l0, l1, l2, l3, _, _, _, _⟩ := RectAt.new w1 p.x p.y p.w p.h 23
  exact ⟨t0, t1, t2, k0, k1, k2, k3, l0, l1, l2, l3⟩
theorem new_three {w w1 : World} {B1 B2 : Nat} {x1 y1 w1' h1' : Int} {q p : RR} (h : (Below w.heap.size w w1 ∧ B1 < w1.heap.size ∧ B2 < w1.heap.size ∧ w1.cell? ⟨B1, 0, none⟩ = some (.int .i64 (x1)) ∧ w1.cell? ⟨B1, 1, none⟩ = some (.int .i64 (y1)) ∧ w1.cell? ⟨B1, 2, none⟩ = some (.int .i64 (w1')) ∧ w1.cell? ⟨B1, 3, none⟩ = some (.int .i64 (h1')) ∧ w1.cell? ⟨B2, 0, none⟩ = some (.int .i64 (q).x) ∧ w1.cell? ⟨B2, 1, none⟩ = some (.int .i64 (q).y) ∧ w1.cell? ⟨B2, 2, none⟩ = some (.int .i64 (q).w) ∧ w1.cell? ⟨B2, 3, none⟩ = some (.int .i64 (q).h))) : (Below w.heap.size w (w1.alloc (rc p.x p.y p.w p.h)) ∧ B1 < (w1.alloc (rc p.x p.y p.w p.h)).heap.size ∧ B2 < (w1.alloc (rc p.x p.y p.w p.h)).heap.size ∧ w1.heap.size < (w1.alloc (rc p.x p.y p.w p.h)).heap.size ∧ (w1.alloc (rc p.x p.y p.w p.h)).cell? ⟨B1, 0, none⟩ = some (.int .i64 ((⟨x1, y1, w1', h1'⟩ : RR)).x) ∧ (w1.alloc (rc p.x p.y p.w p.h)).cell? ⟨B1, 1, none⟩ = some (.int .i64 ((⟨x1, y1, w1', h1'⟩ : RR)).y) ∧ (w1.alloc (rc p.x p.y p.w p.h)).cell? ⟨B1, 2, none⟩ = some (.int .i64 ((⟨x1, y1, w1', h1'⟩ : RR)).w) ∧ (w1.alloc (rc p.x p.y p.w p.h)).cell? ⟨B1, 3, none⟩ = some (.int .i64 ((⟨x1, y1, w1', h1'⟩ : RR)).h) ∧ (w1.alloc (rc p.x p.y p.w p.h)).cell? ⟨B2, 0, none⟩ = some (.int .i64 (q).x) ∧ (w1.alloc (rc p.x p.y p.w p.h)).cell? ⟨B2, 1, none⟩ = some (.int .i64 (q).y) ∧ (w1.alloc (rc p.x p.y p.w p.h)).cell? ⟨B2, 2, none⟩ = some (.int .i64 (q).w) ∧ (w1.alloc (rc p.x p.y p.w p.h)).cell? ⟨B2, 3, none⟩ = some (.int .i64 (q).h) ∧ (w1.alloc (rc p.x p.y p.w p.h)).cell? ⟨w1.heap.size, 0, none⟩ = some (.int .i64 (p).x) ∧ (w1.alloc (rc p.x p.y p.w p.h)).cell? ⟨w1.heap.size, 1, none⟩ = some (.int .i64 (p).y) ∧ (w1.alloc (rc p.x p.y p.w p.h)).cell? ⟨w1.heap.size, 2, none⟩ = some (.int .i64 (p).w) ∧ (w1.alloc (rc p.x p.y p.w p.h)).cell? ⟨w1.heap.size, 3, none⟩ = some (.int .i64 (p).h)) := by
  obtain ⟨t0, t1, t3, k0, k1, k2, k3, n0, n1, n2, n3⟩ := hold2 ((Below.refl w1.heap.size w1).alloc (Nat.le_refl _) (rc p.x p.y p.w p.h)) h
  obtain ⟨t2, l0, l1, l2, l3, _, _, _, _⟩ := RectAt.new w1 p.x p.y p.w p.h 23
  exact ⟨t0, t1, t3, t2, k0, k1, k2, k3, n0, n1, n2, n3, l0, l1, l2, l3⟩

set_option maxRecDepth 100000 in
set_option maxHeartbeats 1600000 in
theorem into_walk (x y ww h x' y' ww' h' dx dy : Int) (_ : I64 x) (_ : I64 y) (_ : I64 ww) (_ : I64 h) (_ : I64 x') (_ : I64 y') (_ : I64 ww') (_ : I64 h') (hdx : I64 dx) (hdy : I64 dy) (w : World) :
    Calls Try.prog 8 #[(.agg #[.int .i64 x, .int .i64 y, .int .i64 ww, .int .i64 h]), (.agg #[.int .i64 x', .int .i64 y', .int .i64 ww', .int .i64 h']), .int .i64 dx, .int .i64 dy] w fun e w' => e = .returned (.bool true) ∧ Below w.heap.size w w' := by
  have z1 := eqg23
  have z2 := run_eq_rr
  have z3 := run_ne_rr
  have z4 := eq4_self
  have z5 := run_field2
  have z6 := run_field3
  have oA : Ok (clean ⟨x, y, ww, h⟩) := ok_clean _
  have oB : Ok (clean ⟨x', y', ww', h'⟩) := ok_clean _
  have OA := Lib.hid oA
  have OB := Lib.hid oB
  have hI : intoV x y ww h x' y' ww' h' = into (clean ⟨x, y, ww, h⟩) (clean ⟨x', y', ww', h'⟩) := rfl
  have oI : Ok (into (clean ⟨x, y, ww, h⟩) (clean ⟨x', y', ww', h'⟩)) := ok_into _ _
  have m1 : inV (intoV x y ww h x' y' ww' h').x (intoV x y ww h x' y' ww' h').y (intoV x y ww h x' y' ww' h').w (intoV x y ww h x' y' ww' h').h x' y' ww' h' = true := by
    rw [inV_iff]
    show meet (clean (into _ _)) _ = clean (into _ _)
    rw [clean_ok oI]
    exact meet_of_in oI oB (into_in oA oB)
  have m2 : decide ((cleanV x y ww h).w < (intoV x y ww h x' y' ww' h').w) = false := decide_eq_false (by have := (into_small oA oB).1; rw [hI]; unfold cleanV; omega)
  have m3 : decide ((cleanV x y ww h).h < (intoV x y ww h x' y' ww' h').h) = false := decide_eq_false (by have := (into_small oA oB).2; rw [hI]; unfold cleanV; omega)
  have m4 : intoV (intoV x y ww h x' y' ww' h').x (intoV x y ww h x' y' ww' h').y (intoV x y ww h x' y' ww' h').w (intoV x y ww h x' y' ww' h').h x' y' ww' h' = intoV x y ww h x' y' ww' h' := by
    show into (clean (into _ _)) _ = into _ _
    rw [clean_ok oI]
    exact into_of_in oI oB (into_in oA oB)
  have m5 : inV x y ww h x' y' ww' h' = true → intoV x y ww h x' y' ww' h' = cleanV x y ww h := by
    intro hi
    rw [inV_iff] at hi
    exact into_of_in oA oB (in_of_meet oA oB hi)
  clear oI hI oA oB
  generalize hi : intoV x y ww h x' y' ww' h' = I at *
  have HI := Lib.hid hi; clear hi
  have HM5 := Lib.hid m5; clear m5
  go_enter Try.func8, Try.ntmps8
  go_wp2_with fail
  obtain ⟨r0, r1, hbW⟩ := boxes2 w x y ww h x' y' ww' h'
  generalize ((w.alloc (rc x y ww h)).alloc (rc x' y' ww' h')) = W at *
  refine (alive_any _).mono ?_
  rintro e w1 ⟨rfl, hb1⟩
  have hW := hbW.trans (hb1.mono (Nat.le_of_lt r0.lt))
  replace r0 := r0.below hb1 r0.lt
  replace r1 := r1.below hb1 r1.lt
  clear hb1 hbW
  obtain ⟨u0, k0, k1, k2, k3, _, _, _, _⟩ := (id r0 : RectAt _ _ _ _ _ _)
  obtain ⟨u1, l0, l1, l2, l3, _, _, _, _⟩ := (id r1 : RectAt _ _ _ _ _ _)
  go_wp2_with fail
  refine (into_v _ _ _ _ _ _ _ _ _).mono ?_
  rw [HI.out]
  rintro e w2 ⟨rfl, hb2⟩
  replace hW := hW.trans (hb2.mono (Nat.le_of_lt u0))
  replace r0 := r0.below hb2 r0.lt
  replace r1 := r1.below hb2 r1.lt
  clear hb2 u0 u1 k0 k1 k2 k3 l0 l1 l2 l3
  have r2 := RectAt.new w2 I.x I.y I.w I.h 23
  replace r0 := r0.alloc (rc I.x I.y I.w I.h)
  replace r1 := r1.alloc (rc I.x I.y I.w I.h)
  replace hW := hW.alloc hW.size (rc I.x I.y I.w I.h)
  have s0 := held3 hW r0 r1 r2
  clear r0 r1 r2 hW
  go_upto_region 4 with fail
  generalize w2.alloc (rc I.x I.y I.w I.h) = W2 at *
  generalize w2.heap.size = B at *
  replace s0 := hold3 (Below.refl _ _).drew s0
  obtain ⟨t0, t1, t2, t3, k0, k1, k2, k3, l0, l1, l2, l3, n0, n1, n2, n3⟩ := (id s0 : _ ∧ _)
  try dsimp only [List.append]
  go_cut [43] (fun s43 w' => s43 = .bool false ∧ (Below w.heap.size w w' ∧ w.heap.size < w'.heap.size ∧ (w.heap.size + 1) < w'.heap.size ∧ B < w'.heap.size ∧ w'.cell? ⟨w.heap.size, 0, none⟩ = some (.int .i64 ((⟨x, y, ww, h⟩ : RR)).x) ∧ w'.cell? ⟨w.heap.size, 1, none⟩ = some (.int .i64 ((⟨x, y, ww, h⟩ : RR)).y) ∧ w'.cell? ⟨w.heap.size, 2, none⟩ = some (.int .i64 ((⟨x, y, ww, h⟩ : RR)).w) ∧ w'.cell? ⟨w.heap.size, 3, none⟩ = some (.int .i64 ((⟨x, y, ww, h⟩ : RR)).h) ∧ w'.cell? ⟨(w.heap.size + 1), 0, none⟩ = some (.int .i64 ((⟨x', y', ww', h'⟩ : RR)).x) ∧ w'.cell? ⟨(w.heap.size + 1), 1, none⟩ = some (.int .i64 ((⟨x', y', ww', h'⟩ : RR)).y) ∧ w'.cell? ⟨(w.heap.size + 1), 2, none⟩ = some (.int .i64 ((⟨x', y', ww', h'⟩ : RR)).w) ∧ w'.cell? ⟨(w.heap.size + 1), 3, none⟩ = some (.int .i64 ((⟨x', y', ww', h'⟩ : RR)).h) ∧ w'.cell? ⟨B, 0, none⟩ = some (.int .i64 (I).x) ∧ w'.cell? ⟨B, 1, none⟩ = some (.int .i64 (I).y) ∧ w'.cell? ⟨B, 2, none⟩ = some (.int .i64 (I).w) ∧ w'.cell? ⟨B, 3, none⟩ = some (.int .i64 (I).h)))
  case first =>
    go_region_held3 (fun w' => (Below w.heap.size w w' ∧ w.heap.size < w'.heap.size ∧ (w.heap.size + 1) < w'.heap.size ∧ B < w'.heap.size ∧ w'.cell? ⟨w.heap.size, 0, none⟩ = some (.int .i64 ((⟨x, y, ww, h⟩ : RR)).x) ∧ w'.cell? ⟨w.heap.size, 1, none⟩ = some (.int .i64 ((⟨x, y, ww, h⟩ : RR)).y) ∧ w'.cell? ⟨w.heap.size, 2, none⟩ = some (.int .i64 ((⟨x, y, ww, h⟩ : RR)).w) ∧ w'.cell? ⟨w.heap.size, 3, none⟩ = some (.int .i64 ((⟨x, y, ww, h⟩ : RR)).h) ∧ w'.cell? ⟨(w.heap.size + 1), 0, none⟩ = some (.int .i64 ((⟨x', y', ww', h'⟩ : RR)).x) ∧ w'.cell? ⟨(w.heap.size + 1), 1, none⟩ = some (.int .i64 ((⟨x', y', ww', h'⟩ : RR)).y) ∧ w'.cell? ⟨(w.heap.size + 1), 2, none⟩ = some (.int .i64 ((⟨x', y', ww', h'⟩ : RR)).w) ∧ w'.cell? ⟨(w.heap.size + 1), 3, none⟩ = some (.int .i64 ((⟨x', y', ww', h'⟩ : RR)).h) ∧ w'.cell? ⟨B, 0, none⟩ = some (.int .i64 (I).x) ∧ w'.cell? ⟨B, 1, none⟩ = some (.int .i64 (I).y) ∧ w'.cell? ⟨B, 2, none⟩ = some (.int .i64 (I).w) ∧ w'.cell? ⟨B, 3, none⟩ = some (.int .i64 (I).h))) (first | exact s0 | assumption | exact hold3 (by assumption) (by assumption))
      (first
        | (go_at_call 34; refine (within_v _ _ _ _ _ _ _ _ _).mono ?_; rintro e wn ⟨rfl, hbn⟩)
        | (go_at_call 17; refine (clean_v _ _ _ _ _).mono ?_; rintro e wn ⟨rfl, hbn⟩)
        | (go_at_call 35; refine (into_v _ _ _ _ _ _ _ _ _).mono ?_; rw [m4]; rintro e wn ⟨rfl, hbn⟩))
    go_wp2_with fail
    go_meet
    exact ⟨rfl, by assumption⟩
  case rest =>
  obtain ⟨rfl, hs⟩ := hcut
  generalize wc = W3 at *
  clear s0 t0 t1 t2 t3 k0 k1 k2 k3 l0 l1 l2 l3 n0 n1 n2 n3 m1 m2 m3 m4
  go_upto_region 6 with fail
  replace s0 := hold3 (Below.refl _ _).drew hs
  obtain ⟨t0, t1, t2, t3, k0, k1, k2, k3, l0, l1, l2, l3, n0, n1, n2, n3⟩ := (id hs : _ ∧ _)
  go_cut [52] (fun s52 w' => s52 = .bool false ∧ (Below w.heap.size w w' ∧ w.heap.size < w'.heap.size ∧ (w.heap.size + 1) < w'.heap.size ∧ B < w'.heap.size ∧ w'.cell? ⟨w.heap.size, 0, none⟩ = some (.int .i64 ((⟨x, y, ww, h⟩ : RR)).x) ∧ w'.cell? ⟨w.heap.size, 1, none⟩ = some (.int .i64 ((⟨x, y, ww, h⟩ : RR)).y) ∧ w'.cell? ⟨w.heap.size, 2, none⟩ = some (.int .i64 ((⟨x, y, ww, h⟩ : RR)).w) ∧ w'.cell? ⟨w.heap.size, 3, none⟩ = some (.int .i64 ((⟨x, y, ww, h⟩ : RR)).h) ∧ w'.cell? ⟨(w.heap.size + 1), 0, none⟩ = some (.int .i64 ((⟨x', y', ww', h'⟩ : RR)).x) ∧ w'.cell? ⟨(w.heap.size + 1), 1, none⟩ = some (.int .i64 ((⟨x', y', ww', h'⟩ : RR)).y) ∧ w'.cell? ⟨(w.heap.size + 1), 2, none⟩ = some (.int .i64 ((⟨x', y', ww', h'⟩ : RR)).w) ∧ w'.cell? ⟨(w.heap.size + 1), 3, none⟩ = some (.int .i64 ((⟨x', y', ww', h'⟩ : RR)).h) ∧ w'.cell? ⟨B, 0, none⟩ = some (.int .i64 (I).x) ∧ w'.cell? ⟨B, 1, none⟩ = some (.int .i64 (I).y) ∧ w'.cell? ⟨B, 2, none⟩ = some (.int .i64 (I).w) ∧ w'.cell? ⟨B, 3, none⟩ = some (.int .i64 (I).h)))
  case first =>
    by_cases hin : inV x y ww h x' y' ww' h' = true
    · have f1 : (eq4 (I).x (I).y (I).w (I).h (cleanV x y ww h).x (cleanV x y ww h).y (cleanV x y ww h).w (cleanV x y ww h).h) = true := eq4_same (HM5.out hin)
      go_region_held3 (fun w' => (Below w.heap.size w w' ∧ w.heap.size < w'.heap.size ∧ (w.heap.size + 1) < w'.heap.size ∧ B < w'.heap.size ∧ w'.cell? ⟨w.heap.size, 0, none⟩ = some (.int .i64 ((⟨x, y, ww, h⟩ : RR)).x) ∧ w'.cell? ⟨w.heap.size, 1, none⟩ = some (.int .i64 ((⟨x, y, ww, h⟩ : RR)).y) ∧ w'.cell? ⟨w.heap.size, 2, none⟩ = some (.int .i64 ((⟨x, y, ww, h⟩ : RR)).w) ∧ w'.cell? ⟨w.heap.size, 3, none⟩ = some (.int .i64 ((⟨x, y, ww, h⟩ : RR)).h) ∧ w'.cell? ⟨(w.heap.size + 1), 0, none⟩ = some (.int .i64 ((⟨x', y', ww', h'⟩ : RR)).x) ∧ w'.cell? ⟨(w.heap.size + 1), 1, none⟩ = some (.int .i64 ((⟨x', y', ww', h'⟩ : RR)).y) ∧ w'.cell? ⟨(w.heap.size + 1), 2, none⟩ = some (.int .i64 ((⟨x', y', ww', h'⟩ : RR)).w) ∧ w'.cell? ⟨(w.heap.size + 1), 3, none⟩ = some (.int .i64 ((⟨x', y', ww', h'⟩ : RR)).h) ∧ w'.cell? ⟨B, 0, none⟩ = some (.int .i64 (I).x) ∧ w'.cell? ⟨B, 1, none⟩ = some (.int .i64 (I).y) ∧ w'.cell? ⟨B, 2, none⟩ = some (.int .i64 (I).w) ∧ w'.cell? ⟨B, 3, none⟩ = some (.int .i64 (I).h))) (first | exact s0 | assumption | exact hold3 (by assumption) (by assumption))
        (first
          | (go_at_call 34; refine (within_v _ _ _ _ _ _ _ _ _).mono ?_; rw [hin]; rintro e wn ⟨rfl, hbn⟩)
          | (go_at_call 17; refine (clean_v _ _ _ _ _).mono ?_; rintro e wn ⟨rfl, hbn⟩))
      go_wp2_with fail
      go_meet
      exact ⟨rfl, by assumption⟩
    · replace hin : inV x y ww h x' y' ww' h' = false := by simpa using hin
      go_region_with (first
        | (go_at_call 34; refine (within_v _ _ _ _ _ _ _ _ _).mono ?_; rw [hin]; rintro e wn ⟨rfl, hbn⟩))
      all_goals
        go_wp2_with fail
        go_meet
        exact ⟨rfl, hold3 hbn s0⟩
  case rest =>
  obtain ⟨rfl, hs⟩ := hcut
  clear s0 t0 t1 t2 t3 k0 k1 k2 k3 l0 l1 l2 l3 n0 n1 n2 n3
  generalize wc = W4 at *
  have s0 := hold_one hs
  clear hs
  obtain ⟨t0, t1, k0, k1, k2, k3⟩ := (id s0 : _ ∧ _)
  go_wp2_with fail
  refine (shift_v _ _ _ _ _ _ hdx hdy _).mono ?_
  rintro e w5 ⟨rfl, hb5⟩
  generalize hS : shiftV x y ww h dx dy = S at *
  have HS := Lib.hid hS; clear hS
  replace s0 := hold1 hb5 s0
  have s1 := new_two (p := S) s0
  clear s0 hb5 t0 t1 k0 k1 k2 k3
  go_upto_region 9 with fail
  generalize w5.alloc (rc S.x S.y S.w S.h) = W6 at *
  generalize w5.heap.size = B6 at *
  obtain ⟨t0, t1, t2, k0, k1, k2, k3, l0, l1, l2, l3⟩ := (id s1 : _ ∧ _)
  go_wp2_with fail
  refine (clean_v _ _ _ _ _).mono ?_
  rintro e w7 ⟨rfl, hb7⟩
  generalize hC : cleanV x y ww h = C at *
  have HC := Lib.hid hC; clear hC
  replace s1 := hold2 hb7 s1
  have s0 := new_three (p := C) s1
  clear s1 hb7 t0 t1 t2 k0 k1 k2 k3 l0 l1 l2 l3
  go_upto_region 10 with fail
  generalize w7.alloc (rc C.x C.y C.w C.h) = W8 at *
  generalize w7.heap.size = B8 at *
  obtain ⟨t0, t1, t2, t3, k0, k1, k2, k3, l0, l1, l2, l3, n0, n1, n2, n3⟩ := (id s0 : _ ∧ _)
  go_cut [115] (fun s115 w' => s115 = .bool false ∧ (Below w.heap.size w w' ∧ w.heap.size < w'.heap.size ∧ B6 < w'.heap.size ∧ B8 < w'.heap.size ∧ w'.cell? ⟨w.heap.size, 0, none⟩ = some (.int .i64 ((⟨x, y, ww, h⟩ : RR)).x) ∧ w'.cell? ⟨w.heap.size, 1, none⟩ = some (.int .i64 ((⟨x, y, ww, h⟩ : RR)).y) ∧ w'.cell? ⟨w.heap.size, 2, none⟩ = some (.int .i64 ((⟨x, y, ww, h⟩ : RR)).w) ∧ w'.cell? ⟨w.heap.size, 3, none⟩ = some (.int .i64 ((⟨x, y, ww, h⟩ : RR)).h) ∧ w'.cell? ⟨B6, 0, none⟩ = some (.int .i64 (S).x) ∧ w'.cell? ⟨B6, 1, none⟩ = some (.int .i64 (S).y) ∧ w'.cell? ⟨B6, 2, none⟩ = some (.int .i64 (S).w) ∧ w'.cell? ⟨B6, 3, none⟩ = some (.int .i64 (S).h) ∧ w'.cell? ⟨B8, 0, none⟩ = some (.int .i64 (C).x) ∧ w'.cell? ⟨B8, 1, none⟩ = some (.int .i64 (C).y) ∧ w'.cell? ⟨B8, 2, none⟩ = some (.int .i64 (C).w) ∧ w'.cell? ⟨B8, 3, none⟩ = some (.int .i64 (C).h)))
  case first =>
    by_cases g1 : farB dx = true
    · go_wp2_with (go_at_call 36; refine (far_any _ _).mono ?_; rintro e wn ⟨rfl, rfl⟩)
      go_meet
      exact ⟨rfl, s0⟩
    replace g1 : farB dx = false := by simpa using g1
    by_cases g2 : farB dy = true
    · go_wp2_with (go_at_call 36; refine (far_any _ _).mono ?_; rintro e wn ⟨rfl, rfl⟩)
      go_meet
      exact ⟨rfl, s0⟩
    replace g2 : farB dy = false := by simpa using g2
    by_cases g3 : farB C.x = true
    · go_wp2_with (go_at_call 36; refine (far_any _ _).mono ?_; rintro e wn ⟨rfl, rfl⟩)
      go_meet
      exact ⟨rfl, s0⟩
    replace g3 : farB C.x = false := by simpa using g3
    by_cases g4 : farB C.y = true
    · go_wp2_with (go_at_call 36; refine (far_any _ _).mono ?_; rintro e wn ⟨rfl, rfl⟩)
      go_meet
      exact ⟨rfl, s0⟩
    replace g4 : farB C.y = false := by simpa using g4
    obtain ⟨e1, e2, e3⟩ := near_all HS.out HC.out OA.out g1 g2 g3 g4
    by_cases g5 : 0 < C.w
    · obtain ⟨e4, e5⟩ := e3 g5
      replace g5 : decide (0 < C.w) = true := decide_eq_true g5
      clear e3
      go_wp2_with (go_at_call 36; refine (far_any _ _).mono ?_; rintro e wn ⟨rfl, rfl⟩)
      go_meet
      exact ⟨rfl, s0⟩
    · replace g5 : decide (0 < C.w) = false := decide_eq_false g5
      clear e3
      go_wp2_with (go_at_call 36; refine (far_any _ _).mono ?_; rintro e wn ⟨rfl, rfl⟩)
      go_meet
      exact ⟨rfl, s0⟩
  case rest =>
  obtain ⟨rfl, hs⟩ := hcut
  clear s0 t0 t1 t2 t3 k0 k1 k2 k3 l0 l1 l2 l3 n0 n1 n2 n3
  generalize wc = W9 at *
  have s0 := hold_one hs
  clear hs
  go_upto_region 12 with fail
  replace s0 := hold1 (Below.refl _ _).drew s0
  obtain ⟨t0, t1, k0, k1, k2, k3⟩ := (id s0 : _ ∧ _)
  have m6 : inV (insetV x y ww h dx).x (insetV x y ww h dx).y (insetV x y ww h dx).w (insetV x y ww h dx).h x y ww h = true := by
    rw [inV_iff]
    show meet (clean (inset _ _)) _ = clean (inset _ _)
    rw [clean_ok (ok_inset _ _)]
    exact meet_of_in (ok_inset _ _) OA.out (inset_in OA.out dx)
  go_region_held3 (fun w' => (Below w.heap.size w w' ∧ w.heap.size < w'.heap.size ∧ w'.cell? ⟨w.heap.size, 0, none⟩ = some (.int .i64 (x)) ∧ w'.cell? ⟨w.heap.size, 1, none⟩ = some (.int .i64 (y)) ∧ w'.cell? ⟨w.heap.size, 2, none⟩ = some (.int .i64 (ww)) ∧ w'.cell? ⟨w.heap.size, 3, none⟩ = some (.int .i64 (h)))) (first | exact s0 | assumption | exact hold1 (by assumption) (by assumption))
    (first
      | (go_at_call 24; refine (inset_v _ _ _ _ _ _).mono ?_; rintro e wn ⟨rfl, hbn⟩)
      | (go_at_call 34; refine (within_v _ _ _ _ _ _ _ _ _).mono ?_; rw [m6]; rintro e wn ⟨rfl, hbn⟩))
  have hE : (Below w.heap.size w wn ∧ w.heap.size < wn.heap.size ∧ wn.cell? ⟨w.heap.size, 0, none⟩ = some (.int .i64 (x)) ∧ wn.cell? ⟨w.heap.size, 1, none⟩ = some (.int .i64 (y)) ∧ wn.cell? ⟨w.heap.size, 2, none⟩ = some (.int .i64 (ww)) ∧ wn.cell? ⟨w.heap.size, 3, none⟩ = some (.int .i64 (h))) := by assumption
  go_wp2
  go_ret
  exact ⟨rfl, hE.1⟩
set_option maxRecDepth 100000 in
theorem rectInto_lifted (os : Os) (started : os.Started) (H : Type) (enc : TypeId × Value → H) :
    ReturnsInHanded {} Try.checked os 8 .any (Rows.rectIntoSpec.pre6 enc Try.prog Try.f8 Rows.rectIntoRow.domain false) (Rows.rectIntoSpec.post enc Try.prog Try.f8 false true false false) := by
  refine returnsInHanded_of_change (C := Try.checked) own started (by kernel_rfl) Try.func8
    (ChangeSpec.witness6 (enc := enc) (C := Try.checked) false ⟨#[], #[(.agg #[.int .i64 0, .int .i64 0, .int .i64 0, .int .i64 0]), (.agg #[.int .i64 0, .int .i64 0, .int .i64 0, .int .i64 0]), .int .i64 0, .int .i64 0], []⟩ 8 (by kernel_rfl) (by kernel_rfl) (by kernel_rfl) (by kernel_rfl)) ?_
  intro W base args ds gs before hval0 hW hcnd _
  have hval : ∀ (j : Nat) t v, Try.f8.params[j]? = some t → args[j]? = some v → Value.okWide Try.prog W .any base t v := hval0
  have hW' := hW
  obtain ⟨p, q, hA0, hV, rfl, hfz, hnd⟩ := hW
  have hA : DataW.TrodAll enc Try.prog W 0 (fun _ => true) true Try.f8.params.toList args.toList ds p := hA0
  obtain ⟨rfl, rfl⟩ := trodVars_none hV
  simp only [List.append_nil] at hW'
  have hlt : ∀ x ∈ p, x.block < W.heap.size := fun x hx => by simpa using hW'.lt x hx
  rw [Try.params8] at hA hval
  have hargs := fun W' (hb : Below W.heap.size W W') => args_below (enc := enc) hb _ _ _ _ (show TsOk [23, 23, 3, 3] from ⟨okRect, ⟨okRect, ⟨okInt, ⟨okInt, trivial⟩⟩⟩⟩) hlt hA
  obtain ⟨v0, vs0, d0, ds0, p0, q0, hargs0, rfl, rfl, h0, r0⟩ := trodAll_cons hA
  obtain ⟨v1, vs1, d1, ds1, p1, q1, rfl, rfl, rfl, h1, r1⟩ := trodAll_cons r0
  obtain ⟨v2, vs2, d2, ds2, p2, q2, rfl, rfl, rfl, h2, r2⟩ := trodAll_cons r1
  obtain ⟨v3, vs3, d3, ds3, p3, q3, rfl, rfl, rfl, h3, r3⟩ := trodAll_cons r2
  obtain ⟨rfl, rfl, rfl⟩ := trodAll_nil r3
  obtain rfl : args = #[v0, v1, v2, v3] := by cases args; simp_all
  obtain ⟨x0, y0, ww0, hh0, rfl, fx0, fy0, fw0, fh0⟩ := open_rect (hval 0 23 v0 rfl rfl) h0
  obtain ⟨x1, y1, ww1, hh1, rfl, fx1, fy1, fw1, fh1⟩ := open_rect (hval 1 23 v1 rfl rfl) h1
  obtain ⟨a2, rfl, rfl, rfl, w2⟩ := open_int Try.underlying3 (hval 2 3 v2 rfl rfl) h2
  obtain ⟨a3, rfl, rfl, rfl, w3⟩ := open_int Try.underlying3 (hval 3 3 v3 rfl rfl) h3
  clear hA0 hval0
  refine (into_walk x0 y0 ww0 hh0 x1 y1 ww1 hh1 a2 a3 fx0 fy0 fw0 fh0 fx1 fy1 fw1 fh1 (i64_of_wf w2) (i64_of_wf w3) W).mono fun e W' ⟨he, hb⟩ => ?_
  subst he
  exact ⟨_, rfl, _, _, _, [], _, [], hW', trodAll_mk1 (shut_bool Try.underlying4 _), hargs W' hb, rfl, hb.frame _, fun h => by cases h⟩

theorem rectInto_holds : Rows.RectIntoSaid :=
  OpenClaim.holds_of_wide 8 Try.f8 rfl rfl rfl rfl rfl rfl rfl ⟨rfl, rfl, rfl, rfl, rfl⟩ rfl rfl rfl rfl rfl (by kernel_rfl) Try.func8 (by kernel_rfl)
    (of_decide_eq_true (by kernel_rfl)) (by unfold Func.isWrapper; first | (rw [if_pos (by decide +kernel)]; kernel_rfl) | (rw [if_neg (by decide +kernel)]; exact ⟨rfl, rfl⟩))
    (fun os started H enc _ => rectInto_lifted os started H enc)

end Go.Proofs.Ytpmggljdcbbdfaa
