/- The calls of package rect once more, each with its answer named as one rectangle: the form that the laws use. -/
import Derived.Test.YtpmggljdcbbdfaaLift
import Derived.Test.YtpmggljdcbbdfaaMath3
namespace Go.Proofs.Ytpmggljdcbbdfaa
open Go.RowKit rm

def cleanV (x y ww h : Int) : RR := clean ⟨x, y, ww, h⟩
def insetV (x y ww h n : Int) : RR := inset (clean ⟨x, y, ww, h⟩) n
def shiftV (x y ww h dx dy : Int) : RR := shift (clean ⟨x, y, ww, h⟩) dx dy
def meetV (x y ww h x' y' ww' h' : Int) : RR := meet (clean ⟨x, y, ww, h⟩) (clean ⟨x', y', ww', h'⟩)
def hullV (x y ww h x' y' ww' h' : Int) : RR := hull (clean ⟨x, y, ww, h⟩) (clean ⟨x', y', ww', h'⟩)
def intoV (x y ww h x' y' ww' h' : Int) : RR := into (clean ⟨x, y, ww, h⟩) (clean ⟨x', y', ww', h'⟩)
/-- lies it within? has it no cell? how many? -/
def inV (x y ww h x' y' ww' h' : Int) : Bool := decide (meetV x y ww h x' y' ww' h' = cleanV x y ww h)
def noV (x y ww h : Int) : Bool := decide (cleanV x y ww h = zero)
def arV (x y ww h : Int) : Int := (cleanV x y ww h).w * (cleanV x y ww h).h
/-- has a rectangle, that is cleaned, a cell? has any? -/
def cell (m : RR) (px py : Int) : Bool := decide (m.x ≤ px ∧ px < m.x + m.w ∧ m.y ≤ py ∧ py < m.y + m.h)
def hasV (x y ww h px py : Int) : Bool := cell (cleanV x y ww h) px py

theorem clean_v (x y ww h : Int) (w : World) : Calls Try.prog 17 #[(.agg #[.int .i64 x, .int .i64 y, .int .i64 ww, .int .i64 h])] w fun e w' => e = .returned (.agg #[.int .i64 (cleanV x y ww h).x, .int .i64 (cleanV x y ww h).y, .int .i64 (cleanV x y ww h).w, .int .i64 (cleanV x y ww h).h]) ∧ Below w.heap.size w w' :=
  (clean_any x y ww h w).mono fun _ _ ⟨a, b, c, d, he, hc, hb⟩ => ⟨by rw [he, cleanV, ← show (⟨a, b, c, d⟩ : RR) = _ from hc], hb⟩
theorem inset_v (x y ww h n : Int) (w : World) : Calls Try.prog 24 #[(.agg #[.int .i64 x, .int .i64 y, .int .i64 ww, .int .i64 h]), .int .i64 n] w fun e w' => e = .returned (.agg #[.int .i64 (insetV x y ww h n).x, .int .i64 (insetV x y ww h n).y, .int .i64 (insetV x y ww h n).w, .int .i64 (insetV x y ww h n).h]) ∧ Below w.heap.size w w' :=
  (inset_any x y ww h n w).mono fun _ _ ⟨a, b, c, d, he, hc, hb⟩ => ⟨by rw [he, insetV, ← show (⟨a, b, c, d⟩ : RR) = _ from hc], hb⟩
theorem shift_v (x y ww h dx dy : Int) (hx : I64 dx) (hy : I64 dy) (w : World) : Calls Try.prog 22 #[(.agg #[.int .i64 x, .int .i64 y, .int .i64 ww, .int .i64 h]), .int .i64 dx, .int .i64 dy] w fun e w' => e = .returned (.agg #[.int .i64 (shiftV x y ww h dx dy).x, .int .i64 (shiftV x y ww h dx dy).y, .int .i64 (shiftV x y ww h dx dy).w, .int .i64 (shiftV x y ww h dx dy).h]) ∧ Below w.heap.size w w' :=
  (shift_any x y ww h dx dy hx hy w).mono fun _ _ ⟨a, b, c, d, he, hc, hb⟩ => ⟨by rw [he, shiftV, ← show (⟨a, b, c, d⟩ : RR) = _ from hc], hb⟩
theorem meet_v (x y ww h x' y' ww' h' : Int) (w : World) : Calls Try.prog 32 #[(.agg #[.int .i64 x, .int .i64 y, .int .i64 ww, .int .i64 h]), (.agg #[.int .i64 x', .int .i64 y', .int .i64 ww', .int .i64 h'])] w fun e w' => e = .returned (.agg #[.int .i64 (meetV x y ww h x' y' ww' h').x, .int .i64 (meetV x y ww h x' y' ww' h').y, .int .i64 (meetV x y ww h x' y' ww' h').w, .int .i64 (meetV x y ww h x' y' ww' h').h]) ∧ Below w.heap.size w w' :=
  (meet_any x y ww h x' y' ww' h' w).mono fun _ _ ⟨a, b, c, d, he, hc, hb⟩ => ⟨by rw [he, meetV, ← show (⟨a, b, c, d⟩ : RR) = _ from hc], hb⟩
theorem hull_v (x y ww h x' y' ww' h' : Int) (w : World) : Calls Try.prog 33 #[(.agg #[.int .i64 x, .int .i64 y, .int .i64 ww, .int .i64 h]), (.agg #[.int .i64 x', .int .i64 y', .int .i64 ww', .int .i64 h'])] w fun e w' => e = .returned (.agg #[.int .i64 (hullV x y ww h x' y' ww' h').x, .int .i64 (hullV x y ww h x' y' ww' h').y, .int .i64 (hullV x y ww h x' y' ww' h').w, .int .i64 (hullV x y ww h x' y' ww' h').h]) ∧ Below w.heap.size w w' :=
  (hull_any x y ww h x' y' ww' h' w).mono fun _ _ ⟨a, b, c, d, he, hc, hb⟩ => ⟨by rw [he, hullV, ← show (⟨a, b, c, d⟩ : RR) = _ from hc], hb⟩
theorem into_v (x y ww h x' y' ww' h' : Int) (w : World) : Calls Try.prog 35 #[(.agg #[.int .i64 x, .int .i64 y, .int .i64 ww, .int .i64 h]), (.agg #[.int .i64 x', .int .i64 y', .int .i64 ww', .int .i64 h'])] w fun e w' => e = .returned (.agg #[.int .i64 (intoV x y ww h x' y' ww' h').x, .int .i64 (intoV x y ww h x' y' ww' h').y, .int .i64 (intoV x y ww h x' y' ww' h').w, .int .i64 (intoV x y ww h x' y' ww' h').h]) ∧ Below w.heap.size w w' :=
  (into_any x y ww h x' y' ww' h' w).mono fun _ _ ⟨a, b, c, d, he, hc, hb⟩ => ⟨by rw [he, intoV, ← show (⟨a, b, c, d⟩ : RR) = _ from hc], hb⟩
theorem within_v (x y ww h x' y' ww' h' : Int) (w : World) : Calls Try.prog 34 #[(.agg #[.int .i64 x, .int .i64 y, .int .i64 ww, .int .i64 h]), (.agg #[.int .i64 x', .int .i64 y', .int .i64 ww', .int .i64 h'])] w fun e w' => e = .returned (.bool (inV x y ww h x' y' ww' h')) ∧ Below w.heap.size w w' :=
  (within_any x y ww h x' y' ww' h' w).mono fun e w' ⟨p, q, s, t, a, b, c, d, he, hc, hm, hb⟩ => ⟨by
    rw [he, inV, cleanV, meetV, ← show (⟨a, b, c, d⟩ : RR) = _ from hm, ← show (⟨p, q, s, t⟩ : RR) = _ from hc]
    simp [eq4], hb⟩
theorem empty_v (x y ww h : Int) (w : World) : Calls Try.prog 18 #[(.agg #[.int .i64 x, .int .i64 y, .int .i64 ww, .int .i64 h])] w fun e w' => e = .returned (.bool (noV x y ww h)) ∧ Below w.heap.size w w' :=
  (empty_any x y ww h w).mono fun e w' ⟨a, b, c, d, he, hc, hb⟩ => ⟨by
    rw [he, noV, cleanV, ← show (⟨a, b, c, d⟩ : RR) = _ from hc]
    simp [eq4, zero], hb⟩
theorem area_v (x y ww h : Int) (w : World) : Calls Try.prog 19 #[(.agg #[.int .i64 x, .int .i64 y, .int .i64 ww, .int .i64 h])] w fun e w' => e = .returned (.int .i64 (arV x y ww h)) ∧ Below w.heap.size w w' :=
  (area_any x y ww h w).mono fun e w' ⟨a, b, c, d, he, hc, hb⟩ => ⟨by
    rw [he, arV, cleanV, ← show (⟨a, b, c, d⟩ : RR) = _ from hc], hb⟩
theorem has_v (x y ww h px py : Int) (w : World) : Calls Try.prog 20 #[(.agg #[.int .i64 x, .int .i64 y, .int .i64 ww, .int .i64 h]), .int .i64 px, .int .i64 py] w fun e w' => e = .returned (.bool (hasV x y ww h px py)) ∧ Below w.heap.size w w' :=
  (has_any x y ww h px py w).mono fun e w' ⟨a, b, c, d, he, hc, hb⟩ => ⟨by
    rw [he, hasV, cell, cleanV, ← show (⟨a, b, c, d⟩ : RR) = _ from hc]
    rfl, hb⟩
theorem eq4_rr (m n : RR) : (eq4 (m).x (m).y (m).w (m).h (n).x (n).y (n).w (n).h) = decide (m = n) := by
  cases m; cases n; simp [eq4]
theorem eq4_same {m n : RR} (h : m = n) : (eq4 (m).x (m).y (m).w (m).h (n).x (n).y (n).w (n).h) = true := by rw [eq4_rr]; simp [h]
theorem eq4_zero {m : RR} (h : m = zero) : eq4 m.x m.y m.w m.h 0 0 0 0 = true := by rw [h]; rfl

theorem run_ne_rr (a b c d a' b' c' d' : Int) (w : World) :
    (binOp .neq 23 (.agg #[.int .i64 a, .int .i64 b, .int .i64 c, .int .i64 d]) (.agg #[.int .i64 a', .int .i64 b', .int .i64 c', .int .i64 d'])).run Try.prog w = .ok (.bool (!(eq4 a b c d a' b' c' d'))) w := by
  have u3 := Try.underlying3
  have a3 := Try.isAgg3
  have z3 := Try.sizeOf3
  rw [run_neq_struct, show (10000 : Nat) = 9999 + 1 from rfl, run_equalIn_agg w 9999 23 _ _ hS23 hp23]
  simp only [Program.fieldsOf, Try.underlying23]
  go_simp
  by_cases h1 : a = a' <;> by_cases h2 : b = b' <;> by_cases h3 : c = c' <;> by_cases h4 : d = d' <;> simp [eq4, h1, h2, h3, h4]

/-- what a walk holds while it calls: nothing old has changed, and a rectangle lies where it lay -/
theorem hold1 {w w1 w2 : World} {b : Nat} {x y ww h : Int} (hb : Below w1.heap.size w1 w2)
    (hS : Below w.heap.size w w1 ∧ b < w1.heap.size ∧ w1.cell? ⟨b, 0, none⟩ = some (.int .i64 x) ∧ w1.cell? ⟨b, 1, none⟩ = some (.int .i64 y) ∧ w1.cell? ⟨b, 2, none⟩ = some (.int .i64 ww) ∧ w1.cell? ⟨b, 3, none⟩ = some (.int .i64 h)) :
    Below w.heap.size w w2 ∧ b < w2.heap.size ∧ w2.cell? ⟨b, 0, none⟩ = some (.int .i64 x) ∧ w2.cell? ⟨b, 1, none⟩ = some (.int .i64 y) ∧ w2.cell? ⟨b, 2, none⟩ = some (.int .i64 ww) ∧ w2.cell? ⟨b, 3, none⟩ = some (.int .i64 h) := by
  obtain ⟨h1, h2, a0, a1, a2, a3⟩ := hS
  have hc : ∀ i, w2.cell? ⟨b, i, none⟩ = w1.cell? ⟨b, i, none⟩ := fun i => hb.cell (p := ⟨b, i, none⟩) h2
  exact ⟨h1.trans (hb.mono h1.size), Nat.lt_of_lt_of_le h2 hb.size, (hc 0).trans a0, (hc 1).trans a1, (hc 2).trans a2, (hc 3).trans a3⟩
theorem hold2 {w w1 w2 : World} {b b' : Nat} {x y ww h x' y' ww' h' : Int} (hb : Below w1.heap.size w1 w2)
    (hS : Below w.heap.size w w1 ∧ b < w1.heap.size ∧ b' < w1.heap.size ∧ w1.cell? ⟨b, 0, none⟩ = some (.int .i64 x) ∧ w1.cell? ⟨b, 1, none⟩ = some (.int .i64 y) ∧ w1.cell? ⟨b, 2, none⟩ = some (.int .i64 ww) ∧ w1.cell? ⟨b, 3, none⟩ = some (.int .i64 h) ∧ w1.cell? ⟨b', 0, none⟩ = some (.int .i64 x') ∧ w1.cell? ⟨b', 1, none⟩ = some (.int .i64 y') ∧ w1.cell? ⟨b', 2, none⟩ = some (.int .i64 ww') ∧ w1.cell? ⟨b', 3, none⟩ = some (.int .i64 h')) :
    Below w.heap.size w w2 ∧ b < w2.heap.size ∧ b' < w2.heap.size ∧ w2.cell? ⟨b, 0, none⟩ = some (.int .i64 x) ∧ w2.cell? ⟨b, 1, none⟩ = some (.int .i64 y) ∧ w2.cell? ⟨b, 2, none⟩ = some (.int .i64 ww) ∧ w2.cell? ⟨b, 3, none⟩ = some (.int .i64 h) ∧ w2.cell? ⟨b', 0, none⟩ = some (.int .i64 x') ∧ w2.cell? ⟨b', 1, none⟩ = some (.int .i64 y') ∧ w2.cell? ⟨b', 2, none⟩ = some (.int .i64 ww') ∧ w2.cell? ⟨b', 3, none⟩ = some (.int .i64 h') := by
  obtain ⟨h1, h2, h3, a0, a1, a2, a3, b0, b1, b2, b3⟩ := hS
  have hc : ∀ i, w2.cell? ⟨b, i, none⟩ = w1.cell? ⟨b, i, none⟩ := fun i => hb.cell (p := ⟨b, i, none⟩) h2
  have hd : ∀ i, w2.cell? ⟨b', i, none⟩ = w1.cell? ⟨b', i, none⟩ := fun i => hb.cell (p := ⟨b', i, none⟩) h3
  exact ⟨h1.trans (hb.mono h1.size), Nat.lt_of_lt_of_le h2 hb.size, Nat.lt_of_lt_of_le h3 hb.size, (hc 0).trans a0, (hc 1).trans a1, (hc 2).trans a2, (hc 3).trans a3, (hd 0).trans b0, (hd 1).trans b1, (hd 2).trans b2, (hd 3).trans b3⟩
end Go.Proofs.Ytpmggljdcbbdfaa
