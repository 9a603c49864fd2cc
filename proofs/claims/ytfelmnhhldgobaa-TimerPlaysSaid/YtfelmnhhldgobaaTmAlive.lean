/- The document's examples of layer 17 hold: alive returns true, in every memory. -/
import Derived.Test.YtfelmnhhldgobaaTmDrop
import Derived.Laws.StructEq
namespace Go.Proofs.Ytfelmnhhldgobaa
open Go.RowKit
theorem hSDue : Try.prog.underlying 57 = some (.struct (Try.prog.fieldsOf 57)) := by kernel_rfl
theorem hpDue : Try.prog.stoodInHeld 57 = false := by kernel_rfl
theorem eqgDue : Try.prog.eqGuardType Try.prog.depth 57 = false := by kernel_rfl
theorem due_eq (a b c : Int) (w : World) : (binOp .eql 57 (.agg #[.int .i64 a, .int .i64 b, .int .i64 c]) (.agg #[.int .i64 a, .int .i64 b, .int .i64 c])).run Try.prog w = .ok (.bool true) w := by
  have u3 := Try.underlying3
  have a3 := Try.isAgg3
  have z3 := Try.sizeOf3
  have u4 := Try.underlying2
  have a4 := Try.isAgg2
  have z4 := Try.sizeOf2
  rw [run_eql_struct, show (10000 : Nat) = 9999 + 1 from rfl, run_equalIn_agg w 9999 57 _ _ hSDue hpDue]
  simp only [Program.fieldsOf, Try.underlying57]
  go_simp
namespace tm
theorem Good.zero : Good St.zero := ⟨by decide, by decide, by decide, fun _ h => by cases h⟩
theorem al1 : setR St.zero 1 5 0 = ((1, 0), ⟨0, 1, [⟨1, 1, 5, 0⟩]⟩) := by rfl
theorem al2 : setR ⟨0, 1, [⟨1, 1, 5, 0⟩]⟩ 2 3 2 = ((2, 0), ⟨0, 2, [⟨2, 2, 3, 2⟩, ⟨1, 1, 5, 0⟩]⟩) := by rfl
theorem al3 : passR ⟨0, 2, [⟨2, 2, 3, 2⟩, ⟨1, 1, 5, 0⟩]⟩ 6 = (([⟨2, 2, 3, 2⟩, ⟨1, 1, 5, 0⟩, ⟨2, 2, 5, 2⟩], 0), ⟨6, 2, [⟨2, 2, 7, 2⟩]⟩) := by rfl
theorem al4 : nextR ⟨6, 2, [⟨2, 2, 7, 2⟩]⟩ = (7, true) := by rfl
theorem al5 : stopR ⟨6, 2, [⟨2, 2, 7, 2⟩]⟩ 1 = (5, ⟨6, 2, [⟨2, 2, 7, 2⟩]⟩) := by rfl
end tm
theorem CKR.clear {w w' : World} {c : Nat} {V : Value} {now last : Int} {l : List tm.T} (r : CKR c V w w' now last l) {B : Nat} (hB : B ≤ w.heap.size) (ho : ∀ y, OwnC c V y → B ≤ y) : ∃ V', CK w' c now last V' l ∧ Below B w w' ∧ ∀ y, OwnC c V' y → B ≤ y := by
  obtain ⟨V', h, f, o⟩ := r
  exact ⟨V', h, f.to_below B hB (fun k hk x => by have := ho k x; omega), fun y hy => (o y hy).elim (ho y) fun a => Nat.le_trans hB a⟩
set_option maxRecDepth 100000 in
set_option maxHeartbeats 800000 in
theorem alive_any (w : World) : Calls Try.prog 8 #[] w fun e w' => e = .returned (.bool true) ∧ Below w.heap.size w w' := by
  have HN := Lib.hid (newC_any w)
  go_enter Try.func8, Try.ntmps8
  go_wp2_with fail
  with_reducible refine HN.out.mono ?_
  rintro e x ⟨rfl, hx⟩
  have b0 := below_one w (.cells #[.int .i64 0, .int .i64 0, .slice none 0 0] 65)
  have H0 : Hid (CS x w.heap.size (.slice none 0 0) tm.St.zero ∧ Below w.heap.size w x) := Lib.hid (hx ▸ ⟨CS.new w, b0⟩)
  have HB : Hid (w.heap.size ≤ x.heap.size) := Lib.hid H0.out.2.size
  have HC := Lib.hid (set_any w.heap.size _ tm.St.zero 1 5 0 x H0.out.1 tm.Good.zero (by decide) _ tm.al1)
  clear hx b0 HN
  go_wp2_with fail
  with_reducible refine HC.out.mono ?_
  rintro e x1 ⟨rfl, r⟩
  obtain ⟨V1, h1, bb1, o1⟩ := CKR.clear r HB.out (fun y hy => (H0.out.1.own_lt hy).1)
  have g1 := tm.Good.zero.set 1 5 0
  rw [tm.al1] at g1
  have H1 := Lib.hid (And.intro h1 (And.intro (H0.out.2.trans bb1) (And.intro o1 g1)))
  have HC := Lib.hid (set_any w.heap.size V1 _ 2 3 2 x1 h1 g1 (by decide) _ tm.al2)
  clear r h1 bb1 o1 g1 H0 HB
  go_wp2_with fail
  with_reducible refine HC.out.mono ?_
  rintro e x2 ⟨rfl, r⟩
  obtain ⟨V2, h2, bb2, o2⟩ := CKR.clear r H1.out.2.1.size H1.out.2.2.1
  have g2 := H1.out.2.2.2.set 2 3 2
  rw [tm.al2] at g2
  have H2 := Lib.hid (And.intro h2 (And.intro (H1.out.2.1.trans bb2) (And.intro o2 g2)))
  have HC := Lib.hid (pass_any w.heap.size V2 _ 6 x2 h2 g2 _ tm.al3)
  clear r h2 bb2 o2 g2 H1
  go_wp2_with fail
  with_reducible refine HC.out.mono ?_
  rintro e x3 ⟨V3, Vt, rfl, p⟩
  have b3 : Below w.heap.size x2 x3 := p.fr.to_below _ H2.out.2.1.size fun k hk y => by have := H2.out.2.2.1 k y; omega
  have o3 : ∀ y, OwnC w.heap.size V3 y → w.heap.size ≤ y := fun y hy => (p.own y hy).elim (H2.out.2.2.1 y) fun a => Nat.le_trans H2.out.2.1.size a
  obtain ⟨ot, ct, rfl⟩ : ∃ o c, Vt = .slice o 3 c := own_slice p.row
  obtain ⟨-, gt, rfl, lt, d0, d1, d2⟩ := DRow.cell p.row 0 (by decide)
  obtain ⟨-, gt', e, -, d3, d4, d5⟩ := DRow.cell p.row 1 (by decide)
  obtain rfl : gt = gt' := by injection e with e; injection e
  obtain ⟨-, gt', e, -, d6, -, -⟩ := DRow.cell p.row 2 (by decide)
  obtain rfl : gt = gt' := by injection e with e; injection e
  simp only [tm.ix, List.getD_cons_zero, List.getD_cons_succ, Nat.reduceMul, Nat.reduceAdd] at d0 d1 d2 d3 d4 d5 d6
  have H3 := Lib.hid (And.intro p.ck (And.intro (H2.out.2.1.trans b3) o3))
  have HX := Lib.hid (next_any w.heap.size V3 _ x3 p.ck _ tm.al4)
  have HW := Lib.hid (now_any w.heap.size V3 _ x3 p.ck)
  have HA := Lib.hid (all_any w.heap.size V3 _ x3 p.ck (by decide))
  have z1 := due_eq 2 2 3
  have z2 := due_eq 1 1 5
  have zg := eqgDue
  clear p b3 o3 e H2
  go_wp2_with fail
  with_reducible refine HX.out.mono ?_
  rintro e w' ⟨rfl, hw⟩
  replace hw := hw.symm
  subst hw
  go_wp2_with fail
  with_reducible refine HW.out.mono ?_
  rintro e w' ⟨rfl, hw⟩
  replace hw := hw.symm
  subst hw
  go_wp2_with fail
  with_reducible refine HA.out.mono ?_
  rintro e x4 ⟨oA, cA, LA, rfl, hp, -, -, b4⟩
  have hLA : LA.length = 1 := hp.length_eq
  rw [hLA]
  have H4 := Lib.hid (And.intro (H3.out.1.below b4) (And.intro (H3.out.2.1.trans (b4.mono H3.out.2.1.size)) H3.out.2.2))
  have HS := Lib.hid (stop_any w.heap.size V3 _ 1 x4 H4.out.1 (by decide) (by decide) _ tm.al5)
  clear b4 hp H3 HX HW HA d0 d1 d2 d3 d4 d5 d6 lt
  go_wp2_with fail
  with_reducible refine HS.out.mono ?_
  rintro e x5 ⟨rfl, r⟩
  obtain ⟨V5, h5, bb5, o5⟩ := CKR.clear r H4.out.2.1.size H4.out.2.2
  have H5 := Lib.hid (And.intro h5 (And.intro (H4.out.2.1.trans bb5) o5))
  have HD := Lib.hid (drop1_any w.heap.size V5 6 2 ⟨2, 2, 7, 2⟩ 2 x5 h5 rfl)
  clear r h5 bb5 o5 HS H4
  go_wp2_with fail
  with_reducible refine HD.out.mono ?_
  rintro e x6 ⟨rfl, r⟩
  obtain ⟨V6, -, bb6, -⟩ := CKR.clear r H5.out.2.1.size H5.out.2.2
  have HZ := Lib.hid (H5.out.2.1.trans bb6)
  clear r bb6
  go_wp2_with fail
  go_ret
  exact ⟨rfl, HZ.out⟩
end Go.Proofs.Ytfelmnhhldgobaa
