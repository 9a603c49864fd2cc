/- RectHulls returns true for every two rectangles, in every memory, and leaves everything that was there as it was. No condition. -/
import Derived.Test.YtpmggljdcbbdfaaJoin
import Derived.Deep.RegionHeld3
namespace Go.Proofs.Ytpmggljdcbbdfaa
open Go.ChangeShapes Go.WideShapes Go.ChangeAt Go.RowKit rm
attribute [local go_sem ↓] Go.wp_at_zero Go.wp_at_succ
attribute [local go_sem ↓ 10000] run_mn run_mx

theorem below' {w1 w2 : World} {b : Nat} {x y ww h : Int} (H : RectAt w1 b x y ww h) (hb : Below w1.heap.size w1 w2) : RectAt w2 b x y ww h := H.below hb H.lt

theorem hold3al {w X : World} {B1 B2 B3 : Nat} {x1 y1 w1' h1' x2 y2 w2' h2' x3 y3 w3' h3' : Int} {o : Obj}
    (hS : (Below w.heap.size w X ∧ B1 < X.heap.size ∧ B2 < X.heap.size ∧ B3 < X.heap.size ∧ X.cell? ⟨B1, 0, none⟩ = some (.int .i64 ((⟨x1, y1, w1', h1'⟩ : RR)).x) ∧ X.cell? ⟨B1, 1, none⟩ = some (.int .i64 ((⟨x1, y1, w1', h1'⟩ : RR)).y) ∧ X.cell? ⟨B1, 2, none⟩ = some (.int .i64 ((⟨x1, y1, w1', h1'⟩ : RR)).w) ∧ X.cell? ⟨B1, 3, none⟩ = some (.int .i64 ((⟨x1, y1, w1', h1'⟩ : RR)).h) ∧ X.cell? ⟨B2, 0, none⟩ = some (.int .i64 ((⟨x2, y2, w2', h2'⟩ : RR)).x) ∧ X.cell? ⟨B2, 1, none⟩ = some (.int .i64 ((⟨x2, y2, w2', h2'⟩ : RR)).y) ∧ X.cell? ⟨B2, 2, none⟩ = some (.int .i64 ((⟨x2, y2, w2', h2'⟩ : RR)).w) ∧ X.cell? ⟨B2, 3, none⟩ = some (.int .i64 ((⟨x2, y2, w2', h2'⟩ : RR)).h) ∧ X.cell? ⟨B3, 0, none⟩ = some (.int .i64 ((⟨x3, y3, w3', h3'⟩ : RR)).x) ∧ X.cell? ⟨B3, 1, none⟩ = some (.int .i64 ((⟨x3, y3, w3', h3'⟩ : RR)).y) ∧ X.cell? ⟨B3, 2, none⟩ = some (.int .i64 ((⟨x3, y3, w3', h3'⟩ : RR)).w) ∧ X.cell? ⟨B3, 3, none⟩ = some (.int .i64 ((⟨x3, y3, w3', h3'⟩ : RR)).h))) :
    (Below w.heap.size w (World.alloc X o) ∧ B1 < (World.alloc X o).heap.size ∧ B2 < (World.alloc X o).heap.size ∧ B3 < (World.alloc X o).heap.size ∧ (World.alloc X o).cell? ⟨B1, 0, none⟩ = some (.int .i64 ((⟨x1, y1, w1', h1'⟩ : RR)).x) ∧ (World.alloc X o).cell? ⟨B1, 1, none⟩ = some (.int .i64 ((⟨x1, y1, w1', h1'⟩ : RR)).y) ∧ (World.alloc X o).cell? ⟨B1, 2, none⟩ = some (.int .i64 ((⟨x1, y1, w1', h1'⟩ : RR)).w) ∧ (World.alloc X o).cell? ⟨B1, 3, none⟩ = some (.int .i64 ((⟨x1, y1, w1', h1'⟩ : RR)).h) ∧ (World.alloc X o).cell? ⟨B2, 0, none⟩ = some (.int .i64 ((⟨x2, y2, w2', h2'⟩ : RR)).x) ∧ (World.alloc X o).cell? ⟨B2, 1, none⟩ = some (.int .i64 ((⟨x2, y2, w2', h2'⟩ : RR)).y) ∧ (World.alloc X o).cell? ⟨B2, 2, none⟩ = some (.int .i64 ((⟨x2, y2, w2', h2'⟩ : RR)).w) ∧ (World.alloc X o).cell? ⟨B2, 3, none⟩ = some (.int .i64 ((⟨x2, y2, w2', h2'⟩ : RR)).h) ∧ (World.alloc X o).cell? ⟨B3, 0, none⟩ = some (.int .i64 ((⟨x3, y3, w3', h3'⟩ : RR)).x) ∧ (World.alloc X o).cell? ⟨B3, 1, none⟩ = some (.int .i64 ((⟨x3, y3, w3', h3'⟩ : RR)).y) ∧ (World.alloc X o).cell? ⟨B3, 2, none⟩ = some (.int .i64 ((⟨x3, y3, w3', h3'⟩ : RR)).w) ∧ (World.alloc X o).cell? ⟨B3, 3, none⟩ = some (.int .i64 ((⟨x3, y3, w3', h3'⟩ : RR)).h)) := hold3 ((Below.refl _ _).alloc (Nat.le_refl _) _) hS
theorem hold3dr {w X : World} {B1 B2 B3 : Nat} {x1 y1 w1' h1' x2 y2 w2' h2' x3 y3 w3' h3' : Int}
    (hS : (Below w.heap.size w X ∧ B1 < X.heap.size ∧ B2 < X.heap.size ∧ B3 < X.heap.size ∧ X.cell? ⟨B1, 0, none⟩ = some (.int .i64 ((⟨x1, y1, w1', h1'⟩ : RR)).x) ∧ X.cell? ⟨B1, 1, none⟩ = some (.int .i64 ((⟨x1, y1, w1', h1'⟩ : RR)).y) ∧ X.cell? ⟨B1, 2, none⟩ = some (.int .i64 ((⟨x1, y1, w1', h1'⟩ : RR)).w) ∧ X.cell? ⟨B1, 3, none⟩ = some (.int .i64 ((⟨x1, y1, w1', h1'⟩ : RR)).h) ∧ X.cell? ⟨B2, 0, none⟩ = some (.int .i64 ((⟨x2, y2, w2', h2'⟩ : RR)).x) ∧ X.cell? ⟨B2, 1, none⟩ = some (.int .i64 ((⟨x2, y2, w2', h2'⟩ : RR)).y) ∧ X.cell? ⟨B2, 2, none⟩ = some (.int .i64 ((⟨x2, y2, w2', h2'⟩ : RR)).w) ∧ X.cell? ⟨B2, 3, none⟩ = some (.int .i64 ((⟨x2, y2, w2', h2'⟩ : RR)).h) ∧ X.cell? ⟨B3, 0, none⟩ = some (.int .i64 ((⟨x3, y3, w3', h3'⟩ : RR)).x) ∧ X.cell? ⟨B3, 1, none⟩ = some (.int .i64 ((⟨x3, y3, w3', h3'⟩ : RR)).y) ∧ X.cell? ⟨B3, 2, none⟩ = some (.int .i64 ((⟨x3, y3, w3', h3'⟩ : RR)).w) ∧ X.cell? ⟨B3, 3, none⟩ = some (.int .i64 ((⟨x3, y3, w3', h3'⟩ : RR)).h))) :
    (Below w.heap.size w (World.drew X) ∧ B1 < (World.drew X).heap.size ∧ B2 < (World.drew X).heap.size ∧ B3 < (World.drew X).heap.size ∧ (World.drew X).cell? ⟨B1, 0, none⟩ = some (.int .i64 ((⟨x1, y1, w1', h1'⟩ : RR)).x) ∧ (World.drew X).cell? ⟨B1, 1, none⟩ = some (.int .i64 ((⟨x1, y1, w1', h1'⟩ : RR)).y) ∧ (World.drew X).cell? ⟨B1, 2, none⟩ = some (.int .i64 ((⟨x1, y1, w1', h1'⟩ : RR)).w) ∧ (World.drew X).cell? ⟨B1, 3, none⟩ = some (.int .i64 ((⟨x1, y1, w1', h1'⟩ : RR)).h) ∧ (World.drew X).cell? ⟨B2, 0, none⟩ = some (.int .i64 ((⟨x2, y2, w2', h2'⟩ : RR)).x) ∧ (World.drew X).cell? ⟨B2, 1, none⟩ = some (.int .i64 ((⟨x2, y2, w2', h2'⟩ : RR)).y) ∧ (World.drew X).cell? ⟨B2, 2, none⟩ = some (.int .i64 ((⟨x2, y2, w2', h2'⟩ : RR)).w) ∧ (World.drew X).cell? ⟨B2, 3, none⟩ = some (.int .i64 ((⟨x2, y2, w2', h2'⟩ : RR)).h) ∧ (World.drew X).cell? ⟨B3, 0, none⟩ = some (.int .i64 ((⟨x3, y3, w3', h3'⟩ : RR)).x) ∧ (World.drew X).cell? ⟨B3, 1, none⟩ = some (.int .i64 ((⟨x3, y3, w3', h3'⟩ : RR)).y) ∧ (World.drew X).cell? ⟨B3, 2, none⟩ = some (.int .i64 ((⟨x3, y3, w3', h3'⟩ : RR)).w) ∧ (World.drew X).cell? ⟨B3, 3, none⟩ = some (.int .i64 ((⟨x3, y3, w3', h3'⟩ : RR)).h)) := hold3 (Below.refl _ _).drew hS
theorem join5 {w X : World} {B1 B2 B3 P6 P7 : Nat} {x1 y1 w1' h1' x2 y2 w2' h2' x3 y3 w3' h3' px py pw ph qx qy qw qh : Int}
    (hS : (Below w.heap.size w X ∧ B1 < X.heap.size ∧ B2 < X.heap.size ∧ B3 < X.heap.size ∧ X.cell? ⟨B1, 0, none⟩ = some (.int .i64 ((⟨x1, y1, w1', h1'⟩ : RR)).x) ∧ X.cell? ⟨B1, 1, none⟩ = some (.int .i64 ((⟨x1, y1, w1', h1'⟩ : RR)).y) ∧ X.cell? ⟨B1, 2, none⟩ = some (.int .i64 ((⟨x1, y1, w1', h1'⟩ : RR)).w) ∧ X.cell? ⟨B1, 3, none⟩ = some (.int .i64 ((⟨x1, y1, w1', h1'⟩ : RR)).h) ∧ X.cell? ⟨B2, 0, none⟩ = some (.int .i64 ((⟨x2, y2, w2', h2'⟩ : RR)).x) ∧ X.cell? ⟨B2, 1, none⟩ = some (.int .i64 ((⟨x2, y2, w2', h2'⟩ : RR)).y) ∧ X.cell? ⟨B2, 2, none⟩ = some (.int .i64 ((⟨x2, y2, w2', h2'⟩ : RR)).w) ∧ X.cell? ⟨B2, 3, none⟩ = some (.int .i64 ((⟨x2, y2, w2', h2'⟩ : RR)).h) ∧ X.cell? ⟨B3, 0, none⟩ = some (.int .i64 ((⟨x3, y3, w3', h3'⟩ : RR)).x) ∧ X.cell? ⟨B3, 1, none⟩ = some (.int .i64 ((⟨x3, y3, w3', h3'⟩ : RR)).y) ∧ X.cell? ⟨B3, 2, none⟩ = some (.int .i64 ((⟨x3, y3, w3', h3'⟩ : RR)).w) ∧ X.cell? ⟨B3, 3, none⟩ = some (.int .i64 ((⟨x3, y3, w3', h3'⟩ : RR)).h))) (l6 : P6 < X.heap.size) (l7 : P7 < X.heap.size)
    (a0 : X.cell? ⟨P6, 0, none⟩ = some (.int .i64 px)) (a1 : X.cell? ⟨P6, 1, none⟩ = some (.int .i64 py)) (a2 : X.cell? ⟨P6, 2, none⟩ = some (.int .i64 pw)) (a3 : X.cell? ⟨P6, 3, none⟩ = some (.int .i64 ph))
    (b0 : X.cell? ⟨P7, 0, none⟩ = some (.int .i64 qx)) (b1 : X.cell? ⟨P7, 1, none⟩ = some (.int .i64 qy)) (b2 : X.cell? ⟨P7, 2, none⟩ = some (.int .i64 qw)) (b3 : X.cell? ⟨P7, 3, none⟩ = some (.int .i64 qh)) :
    (Below w.heap.size w X ∧ B1 < X.heap.size ∧ B2 < X.heap.size ∧ B3 < X.heap.size ∧ P6 < X.heap.size ∧ P7 < X.heap.size ∧ X.cell? ⟨B1, 0, none⟩ = some (.int .i64 ((⟨x1, y1, w1', h1'⟩ : RR)).x) ∧ X.cell? ⟨B1, 1, none⟩ = some (.int .i64 ((⟨x1, y1, w1', h1'⟩ : RR)).y) ∧ X.cell? ⟨B1, 2, none⟩ = some (.int .i64 ((⟨x1, y1, w1', h1'⟩ : RR)).w) ∧ X.cell? ⟨B1, 3, none⟩ = some (.int .i64 ((⟨x1, y1, w1', h1'⟩ : RR)).h) ∧ X.cell? ⟨B2, 0, none⟩ = some (.int .i64 ((⟨x2, y2, w2', h2'⟩ : RR)).x) ∧ X.cell? ⟨B2, 1, none⟩ = some (.int .i64 ((⟨x2, y2, w2', h2'⟩ : RR)).y) ∧ X.cell? ⟨B2, 2, none⟩ = some (.int .i64 ((⟨x2, y2, w2', h2'⟩ : RR)).w) ∧ X.cell? ⟨B2, 3, none⟩ = some (.int .i64 ((⟨x2, y2, w2', h2'⟩ : RR)).h) ∧ X.cell? ⟨B3, 0, none⟩ = some (.int .i64 ((⟨x3, y3, w3', h3'⟩ : RR)).x) ∧ X.cell? ⟨B3, 1, none⟩ = some (.int .i64 ((⟨x3, y3, w3', h3'⟩ : RR)).y) ∧ X.cell? ⟨B3, 2, none⟩ = some (.int .i64 ((⟨x3, y3, w3', h3'⟩ : RR)).w) ∧ X.cell? ⟨B3, 3, none⟩ = some (.int .i64 ((⟨x3, y3, w3', h3'⟩ : RR)).h) ∧ X.cell? ⟨P6, 0, none⟩ = some (.int .i64 ((⟨px, py, pw, ph⟩ : RR)).x) ∧ X.cell? ⟨P6, 1, none⟩ = some (.int .i64 ((⟨px, py, pw, ph⟩ : RR)).y) ∧ X.cell? ⟨P6, 2, none⟩ = some (.int .i64 ((⟨px, py, pw, ph⟩ : RR)).w) ∧ X.cell? ⟨P6, 3, none⟩ = some (.int .i64 ((⟨px, py, pw, ph⟩ : RR)).h) ∧ X.cell? ⟨P7, 0, none⟩ = some (.int .i64 ((⟨qx, qy, qw, qh⟩ : RR)).x) ∧ X.cell? ⟨P7, 1, none⟩ = some (.int .i64 ((⟨qx, qy, qw, qh⟩ : RR)).y) ∧ X.cell? ⟨P7, 2, none⟩ = some (.int .i64 ((⟨qx, qy, qw, qh⟩ : RR)).w) ∧ X.cell? ⟨P7, 3, none⟩ = some (.int .i64 ((⟨qx, qy, qw, qh⟩ : RR)).h)) := by
  obtain ⟨h0, l1, l2, l3, c0, c1, c2, c3, d0, d1, d2, d3, e0, e1, e2, e3⟩ := hS
  exact ⟨h0, l1, l2, l3, l6, l7, c0, c1, c2, c3, d0, d1, d2, d3, e0, e1, e2, e3, a0, a1, a2, a3, b0, b1, b2, b3⟩
theorem hold3put {w X : World} {B1 B2 B3 b : Nat} {x1 y1 w1' h1' x2 y2 w2' h2' x3 y3 w3' h3' p q r t : Int}
    (hS : (Below w.heap.size w X ∧ B1 < X.heap.size ∧ B2 < X.heap.size ∧ B3 < X.heap.size ∧ X.cell? ⟨B1, 0, none⟩ = some (.int .i64 ((⟨x1, y1, w1', h1'⟩ : RR)).x) ∧ X.cell? ⟨B1, 1, none⟩ = some (.int .i64 ((⟨x1, y1, w1', h1'⟩ : RR)).y) ∧ X.cell? ⟨B1, 2, none⟩ = some (.int .i64 ((⟨x1, y1, w1', h1'⟩ : RR)).w) ∧ X.cell? ⟨B1, 3, none⟩ = some (.int .i64 ((⟨x1, y1, w1', h1'⟩ : RR)).h) ∧ X.cell? ⟨B2, 0, none⟩ = some (.int .i64 ((⟨x2, y2, w2', h2'⟩ : RR)).x) ∧ X.cell? ⟨B2, 1, none⟩ = some (.int .i64 ((⟨x2, y2, w2', h2'⟩ : RR)).y) ∧ X.cell? ⟨B2, 2, none⟩ = some (.int .i64 ((⟨x2, y2, w2', h2'⟩ : RR)).w) ∧ X.cell? ⟨B2, 3, none⟩ = some (.int .i64 ((⟨x2, y2, w2', h2'⟩ : RR)).h) ∧ X.cell? ⟨B3, 0, none⟩ = some (.int .i64 ((⟨x3, y3, w3', h3'⟩ : RR)).x) ∧ X.cell? ⟨B3, 1, none⟩ = some (.int .i64 ((⟨x3, y3, w3', h3'⟩ : RR)).y) ∧ X.cell? ⟨B3, 2, none⟩ = some (.int .i64 ((⟨x3, y3, w3', h3'⟩ : RR)).w) ∧ X.cell? ⟨B3, 3, none⟩ = some (.int .i64 ((⟨x3, y3, w3', h3'⟩ : RR)).h))) (h1 : B1 ≠ b) (h2 : B2 ≠ b) (h3 : B3 ≠ b) (hw : w.heap.size ≤ b) :
    (Below w.heap.size w ((((World.setCell X ⟨b, 0, none⟩ (.int .i64 p)).setCell ⟨b, 1, none⟩ (.int .i64 q)).setCell ⟨b, 2, none⟩ (.int .i64 r)).setCell ⟨b, 3, none⟩ (.int .i64 t)) ∧ B1 < ((((World.setCell X ⟨b, 0, none⟩ (.int .i64 p)).setCell ⟨b, 1, none⟩ (.int .i64 q)).setCell ⟨b, 2, none⟩ (.int .i64 r)).setCell ⟨b, 3, none⟩ (.int .i64 t)).heap.size ∧ B2 < ((((World.setCell X ⟨b, 0, none⟩ (.int .i64 p)).setCell ⟨b, 1, none⟩ (.int .i64 q)).setCell ⟨b, 2, none⟩ (.int .i64 r)).setCell ⟨b, 3, none⟩ (.int .i64 t)).heap.size ∧ B3 < ((((World.setCell X ⟨b, 0, none⟩ (.int .i64 p)).setCell ⟨b, 1, none⟩ (.int .i64 q)).setCell ⟨b, 2, none⟩ (.int .i64 r)).setCell ⟨b, 3, none⟩ (.int .i64 t)).heap.size ∧ ((((World.setCell X ⟨b, 0, none⟩ (.int .i64 p)).setCell ⟨b, 1, none⟩ (.int .i64 q)).setCell ⟨b, 2, none⟩ (.int .i64 r)).setCell ⟨b, 3, none⟩ (.int .i64 t)).cell? ⟨B1, 0, none⟩ = some (.int .i64 ((⟨x1, y1, w1', h1'⟩ : RR)).x) ∧ ((((World.setCell X ⟨b, 0, none⟩ (.int .i64 p)).setCell ⟨b, 1, none⟩ (.int .i64 q)).setCell ⟨b, 2, none⟩ (.int .i64 r)).setCell ⟨b, 3, none⟩ (.int .i64 t)).cell? ⟨B1, 1, none⟩ = some (.int .i64 ((⟨x1, y1, w1', h1'⟩ : RR)).y) ∧ ((((World.setCell X ⟨b, 0, none⟩ (.int .i64 p)).setCell ⟨b, 1, none⟩ (.int .i64 q)).setCell ⟨b, 2, none⟩ (.int .i64 r)).setCell ⟨b, 3, none⟩ (.int .i64 t)).cell? ⟨B1, 2, none⟩ = some (.int .i64 ((⟨x1, y1, w1', h1'⟩ : RR)).w) ∧ ((((World.setCell X ⟨b, 0, none⟩ (.int .i64 p)).setCell ⟨b, 1, none⟩ (.int .i64 q)).setCell ⟨b, 2, none⟩ (.int .i64 r)).setCell ⟨b, 3, none⟩ (.int .i64 t)).cell? ⟨B1, 3, none⟩ = some (.int .i64 ((⟨x1, y1, w1', h1'⟩ : RR)).h) ∧ ((((World.setCell X ⟨b, 0, none⟩ (.int .i64 p)).setCell ⟨b, 1, none⟩ (.int .i64 q)).setCell ⟨b, 2, none⟩ (.int .i64 r)).setCell ⟨b, 3, none⟩ (.int .i64 t)).cell? ⟨B2, 0, none⟩ = some (.int .i64 ((⟨x2, y2, w2', h2'⟩ : RR)).x) ∧ ((((World.setCell X ⟨b, 0, none⟩ (.int .i64 p)).setCell ⟨b, 1, none⟩ (.int .i64 q)).setCell ⟨b, 2, none⟩ (.int .i64 r)).setCell ⟨b, 3, none⟩ (.int .i64 t)).cell? ⟨B2, 1, none⟩ = some (.int .i64 ((⟨x2, y2, w2', h2'⟩ : RR)).y) ∧ ((((World.setCell X ⟨b, 0, none⟩ (.int .i64 p)).setCell ⟨b, 1, none⟩ (.int .i64 q)).setCell ⟨b, 2, none⟩ (.int .i64 r)).setCell ⟨b, 3, none⟩ (.int .i64 t)).cell? ⟨B2, 2, none⟩ = some (.int .i64 ((⟨x2, y2, w2', h2'⟩ : RR)).w) ∧ ((((World.setCell X ⟨b, 0, none⟩ (.int .i64 p)).setCell ⟨b, 1, none⟩ (.int .i64 q)).setCell ⟨b, 2, none⟩ (.int .i64 r)).setCell ⟨b, 3, none⟩ (.int .i64 t)).cell? ⟨B2, 3, none⟩ = some (.int .i64 ((⟨x2, y2, w2', h2'⟩ : RR)).h) ∧ ((((World.setCell X ⟨b, 0, none⟩ (.int .i64 p)).setCell ⟨b, 1, none⟩ (.int .i64 q)).setCell ⟨b, 2, none⟩ (.int .i64 r)).setCell ⟨b, 3, none⟩ (.int .i64 t)).cell? ⟨B3, 0, none⟩ = some (.int .i64 ((⟨x3, y3, w3', h3'⟩ : RR)).x) ∧ ((((World.setCell X ⟨b, 0, none⟩ (.int .i64 p)).setCell ⟨b, 1, none⟩ (.int .i64 q)).setCell ⟨b, 2, none⟩ (.int .i64 r)).setCell ⟨b, 3, none⟩ (.int .i64 t)).cell? ⟨B3, 1, none⟩ = some (.int .i64 ((⟨x3, y3, w3', h3'⟩ : RR)).y) ∧ ((((World.setCell X ⟨b, 0, none⟩ (.int .i64 p)).setCell ⟨b, 1, none⟩ (.int .i64 q)).setCell ⟨b, 2, none⟩ (.int .i64 r)).setCell ⟨b, 3, none⟩ (.int .i64 t)).cell? ⟨B3, 2, none⟩ = some (.int .i64 ((⟨x3, y3, w3', h3'⟩ : RR)).w) ∧ ((((World.setCell X ⟨b, 0, none⟩ (.int .i64 p)).setCell ⟨b, 1, none⟩ (.int .i64 q)).setCell ⟨b, 2, none⟩ (.int .i64 r)).setCell ⟨b, 3, none⟩ (.int .i64 t)).cell? ⟨B3, 3, none⟩ = some (.int .i64 ((⟨x3, y3, w3', h3'⟩ : RR)).h)) := by
  obtain ⟨h0, l1, l2, l3, a0, a1, a2, a3, b0, b1, b2, b3, c0, c1, c2, c3⟩ := hS
  have hh : ∀ c, c ≠ b → (((((World.setCell X ⟨b, 0, none⟩ (.int .i64 p)).setCell ⟨b, 1, none⟩ (.int .i64 q)).setCell ⟨b, 2, none⟩ (.int .i64 r)).setCell ⟨b, 3, none⟩ (.int .i64 t))).heap[c]? = X.heap[c]? := fun c h6 => by
    rw [Below.heap_setCell _ _ _ c h6, Below.heap_setCell _ _ _ c h6, Below.heap_setCell _ _ _ c h6, Below.heap_setCell _ _ _ c h6]
  have hs : (((((World.setCell X ⟨b, 0, none⟩ (.int .i64 p)).setCell ⟨b, 1, none⟩ (.int .i64 q)).setCell ⟨b, 2, none⟩ (.int .i64 r)).setCell ⟨b, 3, none⟩ (.int .i64 t))).heap.size = X.heap.size := by simp [World.setCell]
  have hc : ∀ c, c ≠ b → ∀ i, (((((World.setCell X ⟨b, 0, none⟩ (.int .i64 p)).setCell ⟨b, 1, none⟩ (.int .i64 q)).setCell ⟨b, 2, none⟩ (.int .i64 r)).setCell ⟨b, 3, none⟩ (.int .i64 t))).cell? ⟨c, i, none⟩ = X.cell? ⟨c, i, none⟩ := fun c h6 i => World.cell?_of_block (hh c h6)
  have e1 := hc B1 h1
  have e2 := hc B2 h2
  have e3 := hc B3 h3
  exact ⟨below_put h0 hw _ _ _ _, by rw [hs]; exact l1, by rw [hs]; exact l2, by rw [hs]; exact l3, (e1 0).trans a0, (e1 1).trans a1, (e1 2).trans a2, (e1 3).trans a3, (e2 0).trans b0, (e2 1).trans b1, (e2 2).trans b2, (e2 3).trans b3, (e3 0).trans c0, (e3 1).trans c1, (e3 2).trans c2, (e3 3).trans c3⟩

set_option maxRecDepth 100000 in
set_option maxHeartbeats 16000000 in
theorem hulls_walk (x y ww h x' y' ww' h' : Int) (_ : I64 x) (_ : I64 y) (_ : I64 ww) (_ : I64 h) (_ : I64 x') (_ : I64 y') (_ : I64 ww') (_ : I64 h') (w : World) :
    Calls Try.prog 10 #[(.agg #[.int .i64 x, .int .i64 y, .int .i64 ww, .int .i64 h]), (.agg #[.int .i64 x', .int .i64 y', .int .i64 ww', .int .i64 h'])] w fun e w' => e = .returned (.bool true) ∧ Below w.heap.size w w' := by
  have z1 := eqg23
  have z2 := run_eq_rr
  have z3 := run_ne_rr
  have z4 := eq4_self
  go_enter Try.func10, Try.ntmps10
  go_wp2_with fail
  obtain ⟨r0, r1, hbW⟩ := boxes2 w x y ww h x' y' ww' h'
  generalize ((w.alloc (rc x y ww h)).alloc (rc x' y' ww' h')) = W at *
  refine (alive_any _).mono ?_
  rintro e w1 ⟨rfl, hb1⟩
  have hW := hbW.trans (hb1.mono (Nat.le_of_lt r0.lt))
  replace r0 := r0.below hb1 r0.lt
  replace r1 := r1.below hb1 r1.lt
  have s0 : (Below w.heap.size w w1 ∧ w.heap.size < w1.heap.size ∧ (w.heap.size + 1) < w1.heap.size ∧ w1.cell? ⟨w.heap.size, 0, none⟩ = some (.int .i64 (x)) ∧ w1.cell? ⟨w.heap.size, 1, none⟩ = some (.int .i64 (y)) ∧ w1.cell? ⟨w.heap.size, 2, none⟩ = some (.int .i64 (ww)) ∧ w1.cell? ⟨w.heap.size, 3, none⟩ = some (.int .i64 (h)) ∧ w1.cell? ⟨(w.heap.size + 1), 0, none⟩ = some (.int .i64 ((⟨x', y', ww', h'⟩ : RR)).x) ∧ w1.cell? ⟨(w.heap.size + 1), 1, none⟩ = some (.int .i64 ((⟨x', y', ww', h'⟩ : RR)).y) ∧ w1.cell? ⟨(w.heap.size + 1), 2, none⟩ = some (.int .i64 ((⟨x', y', ww', h'⟩ : RR)).w) ∧ w1.cell? ⟨(w.heap.size + 1), 3, none⟩ = some (.int .i64 ((⟨x', y', ww', h'⟩ : RR)).h)) := ⟨hW, r0.lt, r1.lt, r0.k0, r0.k1, r0.k2, r0.k3, r1.k0, r1.k1, r1.k2, r1.k3⟩
  clear hb1 hbW hW r0 r1
  obtain ⟨t0, t1, t2, k0, k1, k2, k3, l0, l1, l2, l3⟩ := (id s0 : _ ∧ _)
  go_wp2_with fail
  refine (hull_v _ _ _ _ _ _ _ _ _).mono ?_
  rintro e w2 ⟨rfl, hb2⟩
  replace s0 := hold2 hb2 s0
  clear t0 t1 t2 k0 k1 k2 k3 l0 l1 l2 l3 hb2
  go_upto_region 4 with fail
  have hA : Ok (cleanV x y ww h) := ok_clean _
  have hB : Ok (cleanV x' y' ww' h') := ok_clean _
  have q1 : hullV x y ww h x' y' ww' h' = hull (cleanV x y ww h) (cleanV x' y' ww' h') := rfl
  have q2 : hullV x' y' ww' h' x y ww h = hull (cleanV x' y' ww' h') (cleanV x y ww h) := rfl
  have q3 : hullV x y ww h 0 0 0 0 = hull (cleanV x y ww h) zero := rfl
  have q4 := fun (r : RR) => show inV x y ww h r.x r.y r.w r.h = decide (meet (cleanV x y ww h) (clean r) = cleanV x y ww h) from rfl
  have q5 := fun (r : RR) => show inV x' y' ww' h' r.x r.y r.w r.h = decide (meet (cleanV x' y' ww' h') (clean r) = cleanV x' y' ww' h') from rfl
  have q6 := fun (r : RR) => show hullV r.x r.y r.w r.h r.x r.y r.w r.h = hull (clean r) (clean r) from rfl
  have q7 : cleanV x y ww h = clean ⟨x, y, ww, h⟩ := rfl
  clear q7
  generalize hullV x y ww h x' y' ww' h' = H at *
  have hP := clean_v x y ww h
  have hQ := clean_v x' y' ww' h'
  generalize cleanV x y ww h = P at *
  generalize cleanV x' y' ww' h' = Q at *
  have HP := Lib.hid hP; clear hP
  have HQ := Lib.hid hQ; clear hQ
  have HF : Hid (H = hull P Q ∧ hullV x' y' ww' h' x y ww h = H ∧ hullV x y ww h 0 0 0 0 = P ∧ hullV H.x H.y H.w H.h H.x H.y H.w H.h = H ∧
      (P.w ≠ 0 → Q.w ≠ 0 → H.w ≠ 200 → H.h ≠ 200 → inV x y ww h H.x H.y H.w H.h = true ∧ inV x' y' ww' h' H.x H.y H.w H.h = true ∧ (H.x = P.x ∨ H.x = Q.x) ∧ (H.y = P.y ∨ H.y = Q.y) ∧ (H.x + H.w = P.x + P.w ∨ H.x + H.w = Q.x + Q.w) ∧ (H.y + H.h = P.y + P.h ∨ H.y + H.h = Q.y + Q.h)) ∧ Ok H ∧ Ok P ∧ Ok Q) := by
    have oH : Ok H := by rw [q1]; exact ok_hull hA hB
    refine Lib.hid ⟨q1, by rw [q2, q1]; exact hull_comm hB hA, by rw [q3]; exact hull_zero hA, by rw [q6, clean_ok oH]; exact hull_same oH, fun g1 g2 g3 g4 => ?_, oH, hA, hB⟩
    rw [q4, q5, clean_ok oH]
    rw [q1] at g3 g4 ⊢
    obtain ⟨m1, m2, m3, m4, m5, m6⟩ := hull_sides hA hB g1 g2 g3 g4
    exact ⟨decide_eq_true m1, decide_eq_true m2, m3, m4, m5, m6⟩
  clear q1 q2 q3 q4 q5 q6 hA hB
  have s3 : (Below w.heap.size w (w2.alloc (rc H.x H.y H.w H.h)) ∧ w.heap.size < (w2.alloc (rc H.x H.y H.w H.h)).heap.size ∧ (w.heap.size + 1) < (w2.alloc (rc H.x H.y H.w H.h)).heap.size ∧ w2.heap.size < (w2.alloc (rc H.x H.y H.w H.h)).heap.size ∧ (w2.alloc (rc H.x H.y H.w H.h)).cell? ⟨w.heap.size, 0, none⟩ = some (.int .i64 ((⟨x, y, ww, h⟩ : RR)).x) ∧ (w2.alloc (rc H.x H.y H.w H.h)).cell? ⟨w.heap.size, 1, none⟩ = some (.int .i64 ((⟨x, y, ww, h⟩ : RR)).y) ∧ (w2.alloc (rc H.x H.y H.w H.h)).cell? ⟨w.heap.size, 2, none⟩ = some (.int .i64 ((⟨x, y, ww, h⟩ : RR)).w) ∧ (w2.alloc (rc H.x H.y H.w H.h)).cell? ⟨w.heap.size, 3, none⟩ = some (.int .i64 ((⟨x, y, ww, h⟩ : RR)).h) ∧ (w2.alloc (rc H.x H.y H.w H.h)).cell? ⟨(w.heap.size + 1), 0, none⟩ = some (.int .i64 ((⟨x', y', ww', h'⟩ : RR)).x) ∧ (w2.alloc (rc H.x H.y H.w H.h)).cell? ⟨(w.heap.size + 1), 1, none⟩ = some (.int .i64 ((⟨x', y', ww', h'⟩ : RR)).y) ∧ (w2.alloc (rc H.x H.y H.w H.h)).cell? ⟨(w.heap.size + 1), 2, none⟩ = some (.int .i64 ((⟨x', y', ww', h'⟩ : RR)).w) ∧ (w2.alloc (rc H.x H.y H.w H.h)).cell? ⟨(w.heap.size + 1), 3, none⟩ = some (.int .i64 ((⟨x', y', ww', h'⟩ : RR)).h) ∧ (w2.alloc (rc H.x H.y H.w H.h)).cell? ⟨w2.heap.size, 0, none⟩ = some (.int .i64 (H).x) ∧ (w2.alloc (rc H.x H.y H.w H.h)).cell? ⟨w2.heap.size, 1, none⟩ = some (.int .i64 (H).y) ∧ (w2.alloc (rc H.x H.y H.w H.h)).cell? ⟨w2.heap.size, 2, none⟩ = some (.int .i64 (H).w) ∧ (w2.alloc (rc H.x H.y H.w H.h)).cell? ⟨w2.heap.size, 3, none⟩ = some (.int .i64 (H).h)) := by
    obtain ⟨u1, u2, u3, a0, a1, a2, a3, b0, b1, b2, b3⟩ := hold2 ((Below.refl _ _).alloc (Nat.le_refl _) (rc H.x H.y H.w H.h)) s0
    obtain ⟨v0, v1, v2, v3, v4, _, _, _, _⟩ := RectAt.new w2 H.x H.y H.w H.h 23
    exact ⟨u1, u2, u3, v0, a0, a1, a2, a3, b0, b1, b2, b3, v1, v2, v3, v4⟩
  have hBlt : w.heap.size + 1 < w2.heap.size := s0.2.2.1
  have hBlt2 : w2.heap.size < (w2.alloc (rc H.x H.y H.w H.h)).heap.size := by simp
  clear s0
  generalize (w2.alloc (rc H.x H.y H.w H.h)) = W3 at *
  generalize w2.heap.size = B at *
  go_cut [6, 7] (fun s6 s7 X => ∃ P6 P7 : Nat, s6 = .pointer (some ⟨P6, 0, none⟩) ∧ s7 = .pointer (some ⟨P7, 0, none⟩) ∧ (Below w.heap.size w X ∧ w.heap.size < X.heap.size ∧ (w.heap.size + 1) < X.heap.size ∧ B < X.heap.size ∧ P6 < X.heap.size ∧ P7 < X.heap.size ∧ X.cell? ⟨w.heap.size, 0, none⟩ = some (.int .i64 ((⟨x, y, ww, h⟩ : RR)).x) ∧ X.cell? ⟨w.heap.size, 1, none⟩ = some (.int .i64 ((⟨x, y, ww, h⟩ : RR)).y) ∧ X.cell? ⟨w.heap.size, 2, none⟩ = some (.int .i64 ((⟨x, y, ww, h⟩ : RR)).w) ∧ X.cell? ⟨w.heap.size, 3, none⟩ = some (.int .i64 ((⟨x, y, ww, h⟩ : RR)).h) ∧ X.cell? ⟨(w.heap.size + 1), 0, none⟩ = some (.int .i64 ((⟨x', y', ww', h'⟩ : RR)).x) ∧ X.cell? ⟨(w.heap.size + 1), 1, none⟩ = some (.int .i64 ((⟨x', y', ww', h'⟩ : RR)).y) ∧ X.cell? ⟨(w.heap.size + 1), 2, none⟩ = some (.int .i64 ((⟨x', y', ww', h'⟩ : RR)).w) ∧ X.cell? ⟨(w.heap.size + 1), 3, none⟩ = some (.int .i64 ((⟨x', y', ww', h'⟩ : RR)).h) ∧ X.cell? ⟨B, 0, none⟩ = some (.int .i64 (H).x) ∧ X.cell? ⟨B, 1, none⟩ = some (.int .i64 (H).y) ∧ X.cell? ⟨B, 2, none⟩ = some (.int .i64 (H).w) ∧ X.cell? ⟨B, 3, none⟩ = some (.int .i64 (H).h) ∧ X.cell? ⟨P6, 0, none⟩ = some (.int .i64 (P).x) ∧ X.cell? ⟨P6, 1, none⟩ = some (.int .i64 (P).y) ∧ X.cell? ⟨P6, 2, none⟩ = some (.int .i64 (P).w) ∧ X.cell? ⟨P6, 3, none⟩ = some (.int .i64 (P).h) ∧ X.cell? ⟨P7, 0, none⟩ = some (.int .i64 (Q).x) ∧ X.cell? ⟨P7, 1, none⟩ = some (.int .i64 (Q).y) ∧ X.cell? ⟨P7, 2, none⟩ = some (.int .i64 (Q).w) ∧ X.cell? ⟨P7, 3, none⟩ = some (.int .i64 (Q).h)))
  case first =>
    have s3' := s3
    obtain ⟨_, tc1, tc2, tc3, _⟩ := (id s3' : _ ∧ _)
    replace s3 := hold3 (Below.refl _ _).drew s3
    obtain ⟨t0, t1, t2, t3, k0, k1, k2, k3, l0, l1, l2, l3, m0, m1, m2, m3⟩ := (id s3 : _ ∧ _)
    go_region_held3 (fun X => (Below w.heap.size w X ∧ w.heap.size < X.heap.size ∧ (w.heap.size + 1) < X.heap.size ∧ B < X.heap.size ∧ X.cell? ⟨w.heap.size, 0, none⟩ = some (.int .i64 ((⟨x, y, ww, h⟩ : RR)).x) ∧ X.cell? ⟨w.heap.size, 1, none⟩ = some (.int .i64 ((⟨x, y, ww, h⟩ : RR)).y) ∧ X.cell? ⟨w.heap.size, 2, none⟩ = some (.int .i64 ((⟨x, y, ww, h⟩ : RR)).w) ∧ X.cell? ⟨w.heap.size, 3, none⟩ = some (.int .i64 ((⟨x, y, ww, h⟩ : RR)).h) ∧ X.cell? ⟨(w.heap.size + 1), 0, none⟩ = some (.int .i64 ((⟨x', y', ww', h'⟩ : RR)).x) ∧ X.cell? ⟨(w.heap.size + 1), 1, none⟩ = some (.int .i64 ((⟨x', y', ww', h'⟩ : RR)).y) ∧ X.cell? ⟨(w.heap.size + 1), 2, none⟩ = some (.int .i64 ((⟨x', y', ww', h'⟩ : RR)).w) ∧ X.cell? ⟨(w.heap.size + 1), 3, none⟩ = some (.int .i64 ((⟨x', y', ww', h'⟩ : RR)).h) ∧ X.cell? ⟨B, 0, none⟩ = some (.int .i64 (H).x) ∧ X.cell? ⟨B, 1, none⟩ = some (.int .i64 (H).y) ∧ X.cell? ⟨B, 2, none⟩ = some (.int .i64 (H).w) ∧ X.cell? ⟨B, 3, none⟩ = some (.int .i64 (H).h))) (with_reducible (first | exact s3 | assumption | exact hold3 (by assumption) (by assumption) | (refine hold3put ?_ ?_ ?_ ?_ ?_; assumption; all_goals (first | exact Nat.ne_of_lt (by assumption) | exact Nat.ne_of_lt (Nat.lt_succ_of_lt (by assumption)) | exact Nat.le_of_lt (by assumption) | exact Nat.le_succ_of_le (Nat.le_of_lt (by assumption)))) | (refine hold3al ?_; assumption) | exact hold3dr (hold3al s3') | exact hold3dr (hold3al (hold3al s3')) | (refine hold3al (hold3al ?_); assumption) | (refine hold3al ?_; refine hold3put ?_ ?_ ?_ ?_ ?_; assumption; all_goals (first | exact Nat.ne_of_lt (by assumption) | exact Nat.ne_of_lt (Nat.lt_succ_of_lt (by assumption)) | exact Nat.le_of_lt (by assumption) | exact Nat.le_succ_of_le (Nat.le_of_lt (by assumption))))))
      (first
      | (go_at_call_of 17 (Value.agg #[.int .i64 x, .int .i64 y, .int .i64 ww, .int .i64 h]); refine (HP.out _).mono ?_; rintro e wa ⟨rfl, hba⟩; have sa := (by with_reducible first | exact hold3 hba s3 | exact hold3 hba (hold3dr (hold3al s3')) | exact hold3 hba (hold3dr (hold3al (hold3al s3'))) : (Below w.heap.size w wa ∧ w.heap.size < wa.heap.size ∧ (w.heap.size + 1) < wa.heap.size ∧ B < wa.heap.size ∧ wa.cell? ⟨w.heap.size, 0, none⟩ = some (.int .i64 ((⟨x, y, ww, h⟩ : RR)).x) ∧ wa.cell? ⟨w.heap.size, 1, none⟩ = some (.int .i64 ((⟨x, y, ww, h⟩ : RR)).y) ∧ wa.cell? ⟨w.heap.size, 2, none⟩ = some (.int .i64 ((⟨x, y, ww, h⟩ : RR)).w) ∧ wa.cell? ⟨w.heap.size, 3, none⟩ = some (.int .i64 ((⟨x, y, ww, h⟩ : RR)).h) ∧ wa.cell? ⟨(w.heap.size + 1), 0, none⟩ = some (.int .i64 ((⟨x', y', ww', h'⟩ : RR)).x) ∧ wa.cell? ⟨(w.heap.size + 1), 1, none⟩ = some (.int .i64 ((⟨x', y', ww', h'⟩ : RR)).y) ∧ wa.cell? ⟨(w.heap.size + 1), 2, none⟩ = some (.int .i64 ((⟨x', y', ww', h'⟩ : RR)).w) ∧ wa.cell? ⟨(w.heap.size + 1), 3, none⟩ = some (.int .i64 ((⟨x', y', ww', h'⟩ : RR)).h) ∧ wa.cell? ⟨B, 0, none⟩ = some (.int .i64 (H).x) ∧ wa.cell? ⟨B, 1, none⟩ = some (.int .i64 (H).y) ∧ wa.cell? ⟨B, 2, none⟩ = some (.int .i64 (H).w) ∧ wa.cell? ⟨B, 3, none⟩ = some (.int .i64 (H).h))); obtain ⟨_, ta1, ta2, ta3, _⟩ := (id sa : _ ∧ _); (try (with_reducible have na := below' (RectAt.drew (RectAt.new _ 0 0 0 0 23)) hba; (try simp only [alloc_two] at na); obtain ⟨ia, a0, a1, a2, a3, af0, af1, af2, af3⟩ := (id na : RectAt _ _ _ _ _ _))); (try (with_reducible have nb := below' (RectAt.drew ((RectAt.new _ 0 0 0 0 23).alloc (rc 0 0 0 0))) hba; obtain ⟨ib, b0, b1, b2, b3, bf0, bf1, bf2, bf3⟩ := (id nb : RectAt _ _ _ _ _ _))))
      | (go_at_call_of 17 (Value.agg #[.int .i64 x', .int .i64 y', .int .i64 ww', .int .i64 h']); refine (HQ.out _).mono ?_; rintro e wb ⟨rfl, hbb⟩; have sb := (by with_reducible first | exact hold3 hbb sa | exact hold3 hbb (hold3al sa) | exact hold3 hbb (hold3al (hold3al sa)) : (Below w.heap.size w wb ∧ w.heap.size < wb.heap.size ∧ (w.heap.size + 1) < wb.heap.size ∧ B < wb.heap.size ∧ wb.cell? ⟨w.heap.size, 0, none⟩ = some (.int .i64 ((⟨x, y, ww, h⟩ : RR)).x) ∧ wb.cell? ⟨w.heap.size, 1, none⟩ = some (.int .i64 ((⟨x, y, ww, h⟩ : RR)).y) ∧ wb.cell? ⟨w.heap.size, 2, none⟩ = some (.int .i64 ((⟨x, y, ww, h⟩ : RR)).w) ∧ wb.cell? ⟨w.heap.size, 3, none⟩ = some (.int .i64 ((⟨x, y, ww, h⟩ : RR)).h) ∧ wb.cell? ⟨(w.heap.size + 1), 0, none⟩ = some (.int .i64 ((⟨x', y', ww', h'⟩ : RR)).x) ∧ wb.cell? ⟨(w.heap.size + 1), 1, none⟩ = some (.int .i64 ((⟨x', y', ww', h'⟩ : RR)).y) ∧ wb.cell? ⟨(w.heap.size + 1), 2, none⟩ = some (.int .i64 ((⟨x', y', ww', h'⟩ : RR)).w) ∧ wb.cell? ⟨(w.heap.size + 1), 3, none⟩ = some (.int .i64 ((⟨x', y', ww', h'⟩ : RR)).h) ∧ wb.cell? ⟨B, 0, none⟩ = some (.int .i64 (H).x) ∧ wb.cell? ⟨B, 1, none⟩ = some (.int .i64 (H).y) ∧ wb.cell? ⟨B, 2, none⟩ = some (.int .i64 (H).w) ∧ wb.cell? ⟨B, 3, none⟩ = some (.int .i64 (H).h))); obtain ⟨_, tb1, tb2, tb3, _⟩ := (id sb : _ ∧ _); (try ((first | (with_reducible have ca := below' na hbb) | (with_reducible have ca := below' (na.alloc (rc 0 0 0 0)) hbb)); obtain ⟨ica, ca0, ca1, ca2, ca3, caf0, caf1, caf2, caf3⟩ := (id ca : RectAt _ _ _ _ _ _))); (try ((first | (with_reducible have cb := below' nb hbb) | (with_reducible have cb := below' (nb.alloc (rc 0 0 0 0)) hbb)); obtain ⟨icb, cb0, cb1, cb2, cb3, cbf0, cbf1, cbf2, cbf3⟩ := (id cb : RectAt _ _ _ _ _ _))); (try (with_reducible have da := below' (RectAt.new _ 0 0 0 0 23) hbb; (try simp only [alloc_two] at da); obtain ⟨ida, da0, da1, da2, da3, daf0, daf1, daf2, daf3⟩ := (id da : RectAt _ _ _ _ _ _))); (try (with_reducible have db := below' ((RectAt.new _ 0 0 0 0 23).alloc (rc 0 0 0 0)) hbb; obtain ⟨idb, db0, db1, db2, db3, dbf0, dbf1, dbf2, dbf3⟩ := (id db : RectAt _ _ _ _ _ _)))))
    all_goals
      go_wp2_with fail
      go_meet
      refine ⟨_, _, rfl, rfl, ?_⟩
      refine join5 ?hS ?_ ?_ ?_ ?_ ?_ ?_ ?_ ?_ ?_ ?_
      case hS => with_reducible assumption
      all_goals (first | (go_simp; done) | (go_simp; first | assumption | exact Nat.lt_succ_of_lt (by assumption)) | trace_state)
  case rest =>
    obtain ⟨P6, P7, rfl, rfl, s5⟩ := hcut
    clear s3 hBlt hBlt2 HP HQ
    generalize wc = W5 at *
    obtain ⟨f1, f2, f3, f4, f5, oH, oP, oQ⟩ := HF.out
    have p1 : (eq4 (H).x (H).y (H).w (H).h (hullV x' y' ww' h' x y ww h).x (hullV x' y' ww' h' x y ww h).y (hullV x' y' ww' h' x y ww h).w (hullV x' y' ww' h' x y ww h).h) = true := eq4_same f2.symm
    have p2 : (eq4 (hullV H.x H.y H.w H.h H.x H.y H.w H.h).x (hullV H.x H.y H.w H.h H.x H.y H.w H.h).y (hullV H.x H.y H.w H.h H.x H.y H.w H.h).w (hullV H.x H.y H.w H.h H.x H.y H.w H.h).h (H).x (H).y (H).w (H).h) = true := eq4_same f4
    have p3 : (eq4 (hullV x y ww h 0 0 0 0).x (hullV x y ww h 0 0 0 0).y (hullV x y ww h 0 0 0 0).w (hullV x y ww h 0 0 0 0).h (P).x (P).y (P).w (P).h) = true := eq4_same f3
    have F5 := Lib.hid f5
    have bb : ∀ {r : RR}, Ok r → (-5000 ≤ r.x ∧ r.x ≤ 5000) ∧ (-5000 ≤ r.y ∧ r.y ≤ 5000) ∧ (0 ≤ r.w ∧ r.w ≤ 200) ∧ (0 ≤ r.h ∧ r.h ≤ 200) := fun {r} h => by unfold Ok at h; omega
    obtain ⟨bH1, bH2, bH3, bH4⟩ := bb oH
    obtain ⟨bP1, bP2, bP3, bP4⟩ := bb oP
    obtain ⟨bQ1, bQ2, bQ3, bQ4⟩ := bb oQ
    clear f1 f2 f3 f4 f5 oH oP oQ HF bb
    go_upto_region 5 with fail
    replace s5 := hold5 (Below.refl _ _).drew s5
    obtain ⟨t0, t1, t2, t3, t4, t5, k0, k1, k2, k3, l0, l1, l2, l3, m0, m1, m2, m3, n0, n1, n2, n3, o0, o1, o2, o3⟩ := (id s5 : _ ∧ _)
    go_region_held3 (fun X => (Below w.heap.size w X ∧ w.heap.size < X.heap.size ∧ (w.heap.size + 1) < X.heap.size ∧ B < X.heap.size ∧ P6 < X.heap.size ∧ P7 < X.heap.size ∧ X.cell? ⟨w.heap.size, 0, none⟩ = some (.int .i64 ((⟨x, y, ww, h⟩ : RR)).x) ∧ X.cell? ⟨w.heap.size, 1, none⟩ = some (.int .i64 ((⟨x, y, ww, h⟩ : RR)).y) ∧ X.cell? ⟨w.heap.size, 2, none⟩ = some (.int .i64 ((⟨x, y, ww, h⟩ : RR)).w) ∧ X.cell? ⟨w.heap.size, 3, none⟩ = some (.int .i64 ((⟨x, y, ww, h⟩ : RR)).h) ∧ X.cell? ⟨(w.heap.size + 1), 0, none⟩ = some (.int .i64 ((⟨x', y', ww', h'⟩ : RR)).x) ∧ X.cell? ⟨(w.heap.size + 1), 1, none⟩ = some (.int .i64 ((⟨x', y', ww', h'⟩ : RR)).y) ∧ X.cell? ⟨(w.heap.size + 1), 2, none⟩ = some (.int .i64 ((⟨x', y', ww', h'⟩ : RR)).w) ∧ X.cell? ⟨(w.heap.size + 1), 3, none⟩ = some (.int .i64 ((⟨x', y', ww', h'⟩ : RR)).h) ∧ X.cell? ⟨B, 0, none⟩ = some (.int .i64 (H).x) ∧ X.cell? ⟨B, 1, none⟩ = some (.int .i64 (H).y) ∧ X.cell? ⟨B, 2, none⟩ = some (.int .i64 (H).w) ∧ X.cell? ⟨B, 3, none⟩ = some (.int .i64 (H).h) ∧ X.cell? ⟨P6, 0, none⟩ = some (.int .i64 (P).x) ∧ X.cell? ⟨P6, 1, none⟩ = some (.int .i64 (P).y) ∧ X.cell? ⟨P6, 2, none⟩ = some (.int .i64 (P).w) ∧ X.cell? ⟨P6, 3, none⟩ = some (.int .i64 (P).h) ∧ X.cell? ⟨P7, 0, none⟩ = some (.int .i64 (Q).x) ∧ X.cell? ⟨P7, 1, none⟩ = some (.int .i64 (Q).y) ∧ X.cell? ⟨P7, 2, none⟩ = some (.int .i64 (Q).w) ∧ X.cell? ⟨P7, 3, none⟩ = some (.int .i64 (Q).h))) (with_reducible (first | exact s5 | assumption | exact hold5 (by assumption) (by assumption)))
      (first
        | (go_at_call 33; refine (hull_v _ _ _ _ _ _ _ _ _).mono ?_; rintro e wn ⟨rfl, hbn⟩))
    have hS : (Below w.heap.size w wn ∧ w.heap.size < wn.heap.size ∧ (w.heap.size + 1) < wn.heap.size ∧ B < wn.heap.size ∧ P6 < wn.heap.size ∧ P7 < wn.heap.size ∧ wn.cell? ⟨w.heap.size, 0, none⟩ = some (.int .i64 ((⟨x, y, ww, h⟩ : RR)).x) ∧ wn.cell? ⟨w.heap.size, 1, none⟩ = some (.int .i64 ((⟨x, y, ww, h⟩ : RR)).y) ∧ wn.cell? ⟨w.heap.size, 2, none⟩ = some (.int .i64 ((⟨x, y, ww, h⟩ : RR)).w) ∧ wn.cell? ⟨w.heap.size, 3, none⟩ = some (.int .i64 ((⟨x, y, ww, h⟩ : RR)).h) ∧ wn.cell? ⟨(w.heap.size + 1), 0, none⟩ = some (.int .i64 ((⟨x', y', ww', h'⟩ : RR)).x) ∧ wn.cell? ⟨(w.heap.size + 1), 1, none⟩ = some (.int .i64 ((⟨x', y', ww', h'⟩ : RR)).y) ∧ wn.cell? ⟨(w.heap.size + 1), 2, none⟩ = some (.int .i64 ((⟨x', y', ww', h'⟩ : RR)).w) ∧ wn.cell? ⟨(w.heap.size + 1), 3, none⟩ = some (.int .i64 ((⟨x', y', ww', h'⟩ : RR)).h) ∧ wn.cell? ⟨B, 0, none⟩ = some (.int .i64 (H).x) ∧ wn.cell? ⟨B, 1, none⟩ = some (.int .i64 (H).y) ∧ wn.cell? ⟨B, 2, none⟩ = some (.int .i64 (H).w) ∧ wn.cell? ⟨B, 3, none⟩ = some (.int .i64 (H).h) ∧ wn.cell? ⟨P6, 0, none⟩ = some (.int .i64 (P).x) ∧ wn.cell? ⟨P6, 1, none⟩ = some (.int .i64 (P).y) ∧ wn.cell? ⟨P6, 2, none⟩ = some (.int .i64 (P).w) ∧ wn.cell? ⟨P6, 3, none⟩ = some (.int .i64 (P).h) ∧ wn.cell? ⟨P7, 0, none⟩ = some (.int .i64 (Q).x) ∧ wn.cell? ⟨P7, 1, none⟩ = some (.int .i64 (Q).y) ∧ wn.cell? ⟨P7, 2, none⟩ = some (.int .i64 (Q).w) ∧ wn.cell? ⟨P7, 3, none⟩ = some (.int .i64 (Q).h)) := by with_reducible assumption
    clear s5 t0 t1 t2 t3 t4 t5 k0 k1 k2 k3 l0 l1 l2 l3 m0 m1 m2 m3 n0 n1 n2 n3 o0 o1 o2 o3 hbn p1 p2 p3
    obtain ⟨t0, t1, t2, t3, t4, t5, k0, k1, k2, k3, l0, l1, l2, l3, m0, m1, m2, m3, n0, n1, n2, n3, o0, o1, o2, o3⟩ := (id hS : _ ∧ _)
    go_upto_region 7 with fail
    by_cases g1 : P.w = 0
    · replace g1 : (P.w == 0) = true := by simp [g1]
      clear F5
      go_wp2_with fail
      go_ret
      exact ⟨rfl, t0⟩
    have g1' : (P.w == 0) = false := by simp [g1]
    by_cases g2 : Q.w = 0
    · replace g2 : (Q.w == 0) = true := by simp [g2]
      clear F5 g1
      go_wp2_with fail
      go_ret
      exact ⟨rfl, t0⟩
    have g2' : (Q.w == 0) = false := by simp [g2]
    by_cases g3 : H.w = 200
    · replace g3 : (H.w == 200) = true := by simp [g3]
      clear F5 g1 g2
      go_wp2_with fail
      go_ret
      exact ⟨rfl, t0⟩
    have g3' : (H.w == 200) = false := by simp [g3]
    by_cases g4 : H.h = 200
    · replace g4 : (H.h == 200) = true := by simp [g4]
      clear F5 g1 g2 g3
      go_wp2_with fail
      go_ret
      exact ⟨rfl, t0⟩
    have g4' : (H.h == 200) = false := by simp [g4]
    obtain ⟨i1, i2, d1, d2, d3, d4⟩ := F5.out g1 g2 g3 g4
    clear F5 g1 g2 g3 g4
    have orB : ∀ {a b c : Int}, (a = b ∨ a = c) → (a == b) = true ∨ ((a == b) = false ∧ (a == c) = true) := fun {a b c} h => by
      by_cases e : a = b
      · exact .inl (by simp [e])
      · exact .inr ⟨by simp [e], by rcases h with h | h <;> simp_all⟩
    replace d1 := orB d1
    replace d2 := orB d2
    replace d3 := orB d3
    replace d4 := orB d4
    clear orB
    have I1 := Lib.hid i1; have I2 := Lib.hid i2; have HS := Lib.hid hS
    clear i1 i2 hS z1 z2 z3 z4
    go_upto_region 9 with fail
    dsimp only [List.append]
    clear g1' g2' g3' g4'
    go_wp2_with fail
    refine (within_v _ _ _ _ _ _ _ _ _).mono ?_
    rw [I1.out]
    rintro e wz ⟨rfl, hbz⟩
    have sz := hold5 hbz HS.out
    clear HS hbz t0 t1 t2 t3 t4 t5 k0 k1 k2 k3 l0 l1 l2 l3 m0 m1 m2 m3 n0 n1 n2 n3 o0 o1 o2 o3
    obtain ⟨t0, t1, t2, t3, t4, t5, k0, k1, k2, k3, l0, l1, l2, l3, m0, m1, m2, m3, n0, n1, n2, n3, o0, o1, o2, o3⟩ := (id sz : _ ∧ _)
    have HS := Lib.hid sz
    clear sz
    go_wp2_with fail
    refine (within_v _ _ _ _ _ _ _ _ _).mono ?_
    rw [I2.out]
    rintro e wy ⟨rfl, hby⟩
    have sy := hold5 hby HS.out
    clear HS hby t0 t1 t2 t3 t4 t5 k0 k1 k2 k3 l0 l1 l2 l3 m0 m1 m2 m3 n0 n1 n2 n3 o0 o1 o2 o3
    obtain ⟨t0, t1, t2, t3, t4, t5, _, _, _, _, _, _, _, _, m0, m1, m2, m3, n0, n1, n2, n3, o0, o1, o2, o3⟩ := (id sy : _ ∧ _)
    have HS := Lib.hid sy
    clear sy I1 I2
    dsimp only
    apply_assumption
    refine wpList_join 15 [63, 64, 65, 66, 67, 68, 69, 70, 71, 72, 73] [(61, .bool true), (62, .bool true), (74, .bool true), (75, .bool true)] ?_ ?_
    · simp only [List.take_succ_cons, List.take_zero]
      rcases d1 with d1 | ⟨d1, d1'⟩
      all_goals
        go_wp2_with fail
        refine ⟨rfl, [?_, ?_, ?_, ?_, ?_, ?_, ?_, ?_, ?_, ?_, ?_], rfl, ?fin⟩
        case fin => simp only [List.zip_cons_cons, List.zip_nil_right, putL, Act.put, List.setIfInBounds_toArray, List.set_cons_zero, List.set_cons_succ]; rfl
    clear d1
    intro v
    simp only [List.drop_succ_cons, List.drop_zero, zipF, putL, Act.put, List.setIfInBounds_toArray, List.set_cons_zero, List.set_cons_succ]
    refine wpList_join 14 [77, 78, 79, 80, 81, 82, 83, 84, 85, 86, 87] [(76, .bool true), (88, .bool true), (89, .bool true)] ?_ ?_
    · simp only [List.take_succ_cons, List.take_zero]
      rcases d2 with d2 | ⟨d2, d2'⟩
      all_goals
        go_wp2_with fail
        refine ⟨rfl, [?_, ?_, ?_, ?_, ?_, ?_, ?_, ?_, ?_, ?_, ?_], rfl, ?fin⟩
        case fin => simp only [List.zip_cons_cons, List.zip_nil_right, putL, Act.put, List.setIfInBounds_toArray, List.set_cons_zero, List.set_cons_succ]; rfl
    clear d2
    intro v
    simp only [List.drop_succ_cons, List.drop_zero, zipF, putL, Act.put, List.setIfInBounds_toArray, List.set_cons_zero, List.set_cons_succ]
    refine wpList_join 26 [91, 92, 93, 94, 95, 96, 97, 98, 99, 100, 101, 102, 103, 104, 105, 106, 107, 108, 109, 110, 111, 112, 113] [(90, .bool true), (114, .bool true), (115, .bool true)] ?_ ?_
    · simp only [List.take_succ_cons, List.take_zero]
      rcases d3 with d3 | ⟨d3, d3'⟩
      all_goals
        go_wp2_with fail
        refine ⟨rfl, [?_, ?_, ?_, ?_, ?_, ?_, ?_, ?_, ?_, ?_, ?_, ?_, ?_, ?_, ?_, ?_, ?_, ?_, ?_, ?_, ?_, ?_, ?_], rfl, ?fin⟩
        case fin => simp only [List.zip_cons_cons, List.zip_nil_right, putL, Act.put, List.setIfInBounds_toArray, List.set_cons_zero, List.set_cons_succ]; rfl
    clear d3
    intro v
    simp only [List.drop_succ_cons, List.drop_zero, zipF, putL, Act.put, List.setIfInBounds_toArray, List.set_cons_zero, List.set_cons_succ]
    rcases d4 with d4 | ⟨d4, d4'⟩
    all_goals
      go_wp2_with fail
      go_ret
      exact ⟨rfl, HS.out.1⟩

set_option maxRecDepth 100000 in
theorem rectHulls_lifted (os : Os) (started : os.Started) (H : Type) (enc : TypeId × Value → H) :
    ReturnsInHanded {} Try.checked os 10 .any (Rows.rectHullsSpec.pre6 enc Try.prog Try.f10 Rows.rectHullsRow.domain false) (Rows.rectHullsSpec.post enc Try.prog Try.f10 false true false false) := by
  refine returnsInHanded_of_change (C := Try.checked) own started (by kernel_rfl) Try.func10
    (ChangeSpec.witness6 (enc := enc) (C := Try.checked) false ⟨#[], #[(.agg #[.int .i64 0, .int .i64 0, .int .i64 0, .int .i64 0]), (.agg #[.int .i64 0, .int .i64 0, .int .i64 0, .int .i64 0])], []⟩ 8 (by kernel_rfl) (by kernel_rfl) (by kernel_rfl) (by kernel_rfl)) ?_
  intro W base args ds gs before hval0 hW hcnd _
  have hval : ∀ (j : Nat) t v, Try.f10.params[j]? = some t → args[j]? = some v → Value.okWide Try.prog W .any base t v := hval0
  have hW' := hW
  obtain ⟨p, q, hA0, hV, rfl, hfz, hnd⟩ := hW
  have hA : DataW.TrodAll enc Try.prog W 0 (fun _ => true) true Try.f10.params.toList args.toList ds p := hA0
  obtain ⟨rfl, rfl⟩ := trodVars_none hV
  simp only [List.append_nil] at hW'
  have hlt : ∀ x ∈ p, x.block < W.heap.size := fun x hx => by simpa using hW'.lt x hx
  rw [Try.params10] at hA hval
  have hargs := fun W' (hb : Below W.heap.size W W') => args_below (enc := enc) hb _ _ _ _ (show TsOk [23, 23] from ⟨okRect, ⟨okRect, trivial⟩⟩) hlt hA
  obtain ⟨v0, vs0, d0, ds0, p0, q0, hargs0, rfl, rfl, h0, r0⟩ := trodAll_cons hA
  obtain ⟨v1, vs1, d1, ds1, p1, q1, rfl, rfl, rfl, h1, r1⟩ := trodAll_cons r0
  obtain ⟨rfl, rfl, rfl⟩ := trodAll_nil r1
  obtain rfl : args = #[v0, v1] := by cases args; simp_all
  obtain ⟨x0, y0, ww0, hh0, rfl, fx0, fy0, fw0, fh0⟩ := open_rect (hval 0 23 v0 rfl rfl) h0
  obtain ⟨x1, y1, ww1, hh1, rfl, fx1, fy1, fw1, fh1⟩ := open_rect (hval 1 23 v1 rfl rfl) h1
  clear hA0 hval0
  refine (hulls_walk x0 y0 ww0 hh0 x1 y1 ww1 hh1 fx0 fy0 fw0 fh0 fx1 fy1 fw1 fh1 W ).mono fun e W' ⟨he, hb⟩ => ?_
  subst he
  exact ⟨_, rfl, _, _, _, [], _, [], hW', trodAll_mk1 (shut_bool Try.underlying4 _), hargs W' hb, rfl, hb.frame _, fun h => by cases h⟩

theorem rectHulls_holds : Rows.RectHullsSaid :=
  OpenClaim.holds_of_wide 10 Try.f10 rfl rfl rfl rfl rfl rfl rfl ⟨rfl, rfl, rfl, rfl, rfl⟩ rfl rfl rfl rfl rfl (by kernel_rfl) Try.func10 (by kernel_rfl)
    (of_decide_eq_true (by kernel_rfl)) (by unfold Func.isWrapper; first | (rw [if_pos (by decide +kernel)]; kernel_rfl) | (rw [if_neg (by decide +kernel)]; exact ⟨rfl, rfl⟩))
    (fun os started H enc _ => rectHulls_lifted os started H enc)

end Go.Proofs.Ytpmggljdcbbdfaa
