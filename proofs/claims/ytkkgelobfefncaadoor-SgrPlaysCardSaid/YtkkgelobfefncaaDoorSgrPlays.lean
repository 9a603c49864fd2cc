/- SgrPlays returns true at every input: any numbers make of any style what the document says. -/
import Derived.Test.YtkkgelobfefncaaDoorSgrAlive
import Derived.Test.YtkkgelobfefncaaDoorSgrRefApply
import Derived.Test.YtkkgelobfefncaaDoorSgrRefParams
namespace Go.Proofs.YtkkgelobfefncaaDoor
open Go.RowKit

theorem keep2 {wr X X' : World} {B b : Nat} {f g a f' g' a' : Int} (hb : Below X.heap.size X X') (hS : (Below wr.heap.size wr X ∧ (X.cell? ⟨B, 0, none⟩ = some (.int .i64 f) ∧ X.cell? ⟨B, 1, none⟩ = some (.int .i64 g) ∧ X.cell? ⟨B, 2, none⟩ = some (.int .i64 a)) ∧ X.cell? ⟨b, 0, none⟩ = some (.int .i64 f') ∧ X.cell? ⟨b, 1, none⟩ = some (.int .i64 g') ∧ X.cell? ⟨b, 2, none⟩ = some (.int .i64 a'))) : (Below wr.heap.size wr X' ∧ (X'.cell? ⟨B, 0, none⟩ = some (.int .i64 f) ∧ X'.cell? ⟨B, 1, none⟩ = some (.int .i64 g) ∧ X'.cell? ⟨B, 2, none⟩ = some (.int .i64 a)) ∧ X'.cell? ⟨b, 0, none⟩ = some (.int .i64 f') ∧ X'.cell? ⟨b, 1, none⟩ = some (.int .i64 g') ∧ X'.cell? ⟨b, 2, none⟩ = some (.int .i64 a')) := by
  obtain ⟨h0, ⟨h1, h2, h3⟩, h4, h5, h6⟩ := hS
  have hl : B < X.heap.size := World.block_lt_of_cell? X ⟨B, 0, none⟩ h1
  have hl' : b < X.heap.size := World.block_lt_of_cell? X ⟨b, 0, none⟩ h4
  exact ⟨h0.trans (hb.mono h0.size), ⟨(hb.cell (p := ⟨B, 0, none⟩) hl).trans h1, (hb.cell (p := ⟨B, 1, none⟩) hl).trans h2, (hb.cell (p := ⟨B, 2, none⟩) hl).trans h3⟩, (hb.cell (p := ⟨b, 0, none⟩) hl').trans h4, (hb.cell (p := ⟨b, 1, none⟩) hl').trans h5, (hb.cell (p := ⟨b, 2, none⟩) hl').trans h6⟩
theorem below_to {w wr X : World} {B : Nat} (hB : w.heap.size = B) (hw : Below B w wr) (h : Below wr.heap.size wr X) : Below w.heap.size w X := by
  subst hB; exact hw.trans (h.mono hw.size)
theorem keep2d {wr X : World} {B b : Nat} {f g a f' g' a' : Int} (q : Nat) (hS : (Below wr.heap.size wr X ∧ (X.cell? ⟨B, 0, none⟩ = some (.int .i64 f) ∧ X.cell? ⟨B, 1, none⟩ = some (.int .i64 g) ∧ X.cell? ⟨B, 2, none⟩ = some (.int .i64 a)) ∧ X.cell? ⟨b, 0, none⟩ = some (.int .i64 f') ∧ X.cell? ⟨b, 1, none⟩ = some (.int .i64 g') ∧ X.cell? ⟨b, 2, none⟩ = some (.int .i64 a'))) : (Below wr.heap.size wr (X.drewN q) ∧ ((X.drewN q).cell? ⟨B, 0, none⟩ = some (.int .i64 f) ∧ (X.drewN q).cell? ⟨B, 1, none⟩ = some (.int .i64 g) ∧ (X.drewN q).cell? ⟨B, 2, none⟩ = some (.int .i64 a)) ∧ (X.drewN q).cell? ⟨b, 0, none⟩ = some (.int .i64 f') ∧ (X.drewN q).cell? ⟨b, 1, none⟩ = some (.int .i64 g') ∧ (X.drewN q).cell? ⟨b, 2, none⟩ = some (.int .i64 a')) := ⟨below_drewN hS.1 q, hS.2⟩

set_option maxRecDepth 100000 in
set_option maxHeartbeats 1600000 in
theorem plays_any (f g a : Int) (o : Option Addr) (n cap : Nat) (zs : List Int) (w : World) (ht : Tabs w) (hx : Ints w o n cap zs) (hI : ∀ z ∈ zs, I64 z) :
    Calls Tryd.prog 3 #[.agg #[.int .i64 f, .int .i64 g, .int .i64 a], .slice o n cap] w fun e w' => e = .returned (.bool true) ∧ Below w.heap.size w w' := by
  have z1 := eqgst
  have z2 := run_eq_st
  have HT := Lib.hid ht; have HX := Lib.hid hx; have HI := Lib.hid hI
  have H0 : Hid (All w (w.alloc (stObj ⟨f, g, a⟩)) [(w.heap.size, ⟨f, g, a⟩)]) := Lib.hid (All.new (w := w) (X := w) (L := []) ⟨Below.refl _ _, by simp⟩ ⟨f, g, a⟩)
  clear ht hx hI
  go_enter Tryd.func3, Tryd.ntmps3
  go_wp2_with fail
  refine (alive_any _ (H0.out.tabs HT.out)).mono ?_
  rintro e w1 ⟨rfl, hb⟩
  have H1 := Lib.hid (H0.out.call hb)
  clear hb
  obtain ⟨k0, k1, k2, f0, f1, f2, u0⟩ := H1.out.head.cells
  go_wp2_with fail
  refine (apply_any f g a _ _ _ zs _ (HX.out.below H1.out.1) HI.out (H1.out.tabs HT.out)).mono ?_
  rintro e w2 ⟨rfl, hb⟩
  have H2 := Lib.hid (H1.out.call hb)
  have hr := sg.apply_right ⟨f, g, a⟩ zs
  have HF := Lib.hid (fun X (h : Below w.heap.size w X) => refApply_any f g a o n cap zs X (HX.out.below h))
  generalize sg.apply ⟨f, g, a⟩ zs = R at *
  have HR := Lib.hid hr
  have H2p := Lib.hid (H2.out.new R)
  clear hb hr k0 k1 k2 f0 f1 f2 u0
  obtain ⟨k0, k1, k2, f0, f1, f2, u0⟩ := (H2p.out.2 (w.heap.size, ⟨f, g, a⟩) (by simp)).cells
  go_wp2_with fail
  refine (params_any f g a _ (H2p.out.tabs HT.out)).mono ?_
  rintro e wr ⟨o4, n4, c4, rfl, hi4, hb⟩
  have H3 := Lib.hid (H2p.out.call hb)
  have HI4 := Lib.hid hi4
  clear hb hi4 k0 k1 k2 f0 f1 f2 u0
  have HRP := Lib.hid (fun X => refParams_any f g a X)
  generalize sg.params ⟨f, g, a⟩ = ps at *
  have HRL := Lib.hid (fun X => right_any f g a X)
  have HRR := Lib.hid (fun X => refRight_any f g a X)
  have HRA := Lib.hid (fun X => right_any R.fg R.bg R.at_ X)
  rw [show sg.right ⟨R.fg, R.bg, R.at_⟩ = true from HR.out] at HRA
  generalize sg.right ⟨f, g, a⟩ = r at *
  have q := eq3_self R.fg R.bg R.at_
  have HSA : Hid (∀ X o5 n5 c5, Below wr.heap.size wr X → Ints X o5 n5 c5 ps → Calls Tryd.prog 14 #[.slice o4 n4 c4, .slice o5 n5 c5] X fun e w' => e = .returned (.bool true) ∧ ∃ nq, w' = X.drewN nq) := by
    refine Lib.hid fun X o5 n5 c5 h h5 => (same_any o4 n4 c4 ps o5 n5 c5 ps X (HI4.out.below h) h5).mono ?_
    rintro e w' ⟨rfl, h⟩
    exact ⟨by rw [decide_eq_true rfl], h⟩
  obtain ⟨k0, k1, k2, f0, f1, f2, u0⟩ := (H3.out.2 (w.heap.size, ⟨f, g, a⟩) (by simp)).cells
  obtain ⟨l0, l1, l2, g0, g1, g2, u1⟩ := H3.out.head.cells
  have HBW : Hid (Below w.heap.size w wr) := Lib.hid H3.out.1
  replace HF := Lib.hid (fun X (h : Below wr.heap.size wr X) => HF.out X (HBW.out.trans (h.mono HBW.out.size)))
  clear H0 H1 H2 H2p H3
  generalize w2.heap.size = b at *
  generalize hB : w.heap.size = B at *
  have HB := Lib.hid hB; clear hB
  cases r
  all_goals
    go_wp2_with fail
    have s0 : (fun X => (Below wr.heap.size wr X ∧ (X.cell? ⟨B, 0, none⟩ = some (.int .i64 f) ∧ X.cell? ⟨B, 1, none⟩ = some (.int .i64 g) ∧ X.cell? ⟨B, 2, none⟩ = some (.int .i64 a)) ∧ X.cell? ⟨b, 0, none⟩ = some (.int .i64 R.fg) ∧ X.cell? ⟨b, 1, none⟩ = some (.int .i64 R.bg) ∧ X.cell? ⟨b, 2, none⟩ = some (.int .i64 R.at_))) wr.drew := ⟨(Below.refl _ _).drew, ⟨k0, k1, k2⟩, l0, l1, l2⟩
    go_region_held3 (fun X => (Below wr.heap.size wr X ∧ (X.cell? ⟨B, 0, none⟩ = some (.int .i64 f) ∧ X.cell? ⟨B, 1, none⟩ = some (.int .i64 g) ∧ X.cell? ⟨B, 2, none⟩ = some (.int .i64 a)) ∧ X.cell? ⟨b, 0, none⟩ = some (.int .i64 R.fg) ∧ X.cell? ⟨b, 1, none⟩ = some (.int .i64 R.bg) ∧ X.cell? ⟨b, 2, none⟩ = some (.int .i64 R.at_))) (with_reducible (first | exact s0 | assumption | exact keep2 (by assumption) (by assumption) | exact keep2d _ (by assumption)))
      (first
        | (go_at_call 11; (with_reducible refine (HF.out _ ?hs1).mono ?_); (case hs1 => first | assumption | (apply And.left; assumption)); rintro e wa ⟨rfl, hba⟩)
        | (go_at_call 12; (first
          | ((with_reducible refine (HRL.out _).mono ?_); rintro e wb ⟨rfl, hbb⟩)
          | ((with_reducible refine (HRA.out _).mono ?_); rintro e wc ⟨rfl, hbc⟩)))
        | (go_at_call 13; (with_reducible refine (HRR.out _).mono ?_); rintro e wd ⟨rfl, hbd⟩)
        | (go_at_call 15; (with_reducible refine (HRP.out _).mono ?_); rintro e we ⟨o5, n5, c5, rfl, hi5, hbe⟩)
        | (go_at_call 14; (with_reducible refine (HSA.out _ _ _ _ ?hs2 ?hs3).mono ?_); (case hs2 => first | assumption | (apply And.left; assumption)); (case hs3 => assumption); rintro e wf ⟨rfl, nq, rfl⟩))
    all_goals go_wp2_with fail
    all_goals
      go_ret
      refine ⟨rfl, below_to HB.out HBW.out ?hb⟩
      case hb => first | assumption | (apply And.left; assumption)
end Go.Proofs.YtkkgelobfefncaaDoor
