/- RectMoves returns true for every rectangle, every three numbers, every list of sizes and each way, in every memory, and leaves everything that was there as it was. No condition. -/
import Derived.Test.YtpmggljdcbbdfaaRef3
import Derived.Deep.RegionHeld3
namespace Go.Proofs.Ytpmggljdcbbdfaa
open Go.ChangeShapes Go.WideShapes Go.ChangeAt Go.RowKit rm
attribute [local go_sem ↓] Go.wp_at_zero Go.wp_at_succ
attribute [local go_sem ↓ 10000] run_mn run_mx

theorem holdZ {w w1 w2 : World} {b b' : Nat} {x y ww h x' y' ww' h' : Int} {o : Option Addr} {n cap : Nat} {zs : List Int} (hb : Below w1.heap.size w1 w2)
    (hS : SliceZ w1 o n cap zs ∧ Below w.heap.size w w1 ∧ b < w1.heap.size ∧ b' < w1.heap.size ∧ w1.cell? ⟨b, 0, none⟩ = some (.int .i64 x) ∧ w1.cell? ⟨b, 1, none⟩ = some (.int .i64 y) ∧ w1.cell? ⟨b, 2, none⟩ = some (.int .i64 ww) ∧ w1.cell? ⟨b, 3, none⟩ = some (.int .i64 h) ∧ w1.cell? ⟨b', 0, none⟩ = some (.int .i64 x') ∧ w1.cell? ⟨b', 1, none⟩ = some (.int .i64 y') ∧ w1.cell? ⟨b', 2, none⟩ = some (.int .i64 ww') ∧ w1.cell? ⟨b', 3, none⟩ = some (.int .i64 h')) :
    SliceZ w2 o n cap zs ∧ Below w.heap.size w w2 ∧ b < w2.heap.size ∧ b' < w2.heap.size ∧ w2.cell? ⟨b, 0, none⟩ = some (.int .i64 x) ∧ w2.cell? ⟨b, 1, none⟩ = some (.int .i64 y) ∧ w2.cell? ⟨b, 2, none⟩ = some (.int .i64 ww) ∧ w2.cell? ⟨b, 3, none⟩ = some (.int .i64 h) ∧ w2.cell? ⟨b', 0, none⟩ = some (.int .i64 x') ∧ w2.cell? ⟨b', 1, none⟩ = some (.int .i64 y') ∧ w2.cell? ⟨b', 2, none⟩ = some (.int .i64 ww') ∧ w2.cell? ⟨b', 3, none⟩ = some (.int .i64 h') :=
  ⟨hS.1.below hb (Nat.le_refl _), hold2 hb hS.2⟩

set_option maxRecDepth 100000 in
set_option maxHeartbeats 1600000 in
theorem moves_walk (x y ww h dx dy nn : Int) (o : Option Addr) (n cap : Nat) (zs : List Int) (ac : Bool) (_ : I64 x) (_ : I64 y) (_ : I64 ww) (_ : I64 h) (hdx : I64 dx) (hdy : I64 dy) (hnn : I64 nn) (w : World) (sz : SliceZ w o n cap zs) :
    Calls Try.prog 4 #[(.agg #[.int .i64 x, .int .i64 y, .int .i64 ww, .int .i64 h]), .int .i64 dx, .int .i64 dy, .int .i64 nn, .slice o n cap, .bool ac] w fun e w' => e = .returned (.bool true) ∧ Below w.heap.size w w' := by
  have z1 := eqg23
  have z2 := run_eq_rr
  have z4 := eq4_self
  go_enter Try.func4, Try.ntmps4
  go_wp2_with fail
  have r0 := RectAt.new w x y ww h 23
  have hB := (Below.refl w.heap.size w).alloc (Nat.le_refl _) (rc x y ww h)
  generalize (w.alloc (rc x y ww h)) = W at *
  refine (alive_any _).mono ?_
  rintro e w1 ⟨rfl, hb1⟩
  have s0 : (Below w.heap.size w w1 ∧ w.heap.size < w1.heap.size ∧ w1.cell? ⟨w.heap.size, 0, none⟩ = some (.int .i64 (x)) ∧ w1.cell? ⟨w.heap.size, 1, none⟩ = some (.int .i64 (y)) ∧ w1.cell? ⟨w.heap.size, 2, none⟩ = some (.int .i64 (ww)) ∧ w1.cell? ⟨w.heap.size, 3, none⟩ = some (.int .i64 (h))) := hold1 hb1 ⟨hB, r0.lt, r0.k0, r0.k1, r0.k2, r0.k3⟩
  clear hb1 r0 hB
  obtain ⟨t1, t2, k0, k1, k2, k3⟩ := (id s0 : _ ∧ _)
  go_wp2_with fail
  refine (refClean_any _ _ _ _ _).mono ?_
  rintro e w2 ⟨rfl, hb2⟩
  replace s0 := hold1 hb2 s0
  clear t1 t2 k0 k1 k2 k3 hb2
  obtain ⟨t1, t2, k0, k1, k2, k3⟩ := (id s0 : _ ∧ _)
  have p1 : (eq4 (shiftV x y ww h dx dy).x (shiftV x y ww h dx dy).y (shiftV x y ww h dx dy).w (shiftV x y ww h dx dy).h (shift (cleanV x y ww h) dx dy).x (shift (cleanV x y ww h) dx dy).y (shift (cleanV x y ww h) dx dy).w (shift (cleanV x y ww h) dx dy).h) = true := eq4_same rfl
  have p2 : (eq4 (insetV x y ww h nn).x (insetV x y ww h nn).y (insetV x y ww h nn).w (insetV x y ww h nn).h (inset (cleanV x y ww h) nn).x (inset (cleanV x y ww h) nn).y (inset (cleanV x y ww h) nn).w (inset (cleanV x y ww h) nn).h) = true := eq4_same rfl
  have p3 : partsV x y ww h zs ac = cutL ac (cleanV x y ww h) (zs.take 16) := rfl
  have hq : Ok (cleanV x y ww h) := ok_clean _
  have hl := partsV_length (x := x) (y := y) (ww := ww) (h := h) sz.len ac
  generalize hc : cleanV x y ww h = q at *
  clear hc
  have hl16 : min n 16 ≤ 16 := by omega
  rw [p3] at hl
  generalize hLL : cutL ac q (zs.take 16) = L at *
  have s2 : SliceZ (w2.alloc (rc q.x q.y q.w q.h)) o n cap zs ∧ (Below w.heap.size w (w2.alloc (rc q.x q.y q.w q.h)) ∧ w.heap.size < (w2.alloc (rc q.x q.y q.w q.h)).heap.size ∧ w2.heap.size < (w2.alloc (rc q.x q.y q.w q.h)).heap.size ∧ (w2.alloc (rc q.x q.y q.w q.h)).cell? ⟨w.heap.size, 0, none⟩ = some (.int .i64 (x)) ∧ (w2.alloc (rc q.x q.y q.w q.h)).cell? ⟨w.heap.size, 1, none⟩ = some (.int .i64 (y)) ∧ (w2.alloc (rc q.x q.y q.w q.h)).cell? ⟨w.heap.size, 2, none⟩ = some (.int .i64 (ww)) ∧ (w2.alloc (rc q.x q.y q.w q.h)).cell? ⟨w.heap.size, 3, none⟩ = some (.int .i64 (h)) ∧ (w2.alloc (rc q.x q.y q.w q.h)).cell? ⟨w2.heap.size, 0, none⟩ = some (.int .i64 (q).x) ∧ (w2.alloc (rc q.x q.y q.w q.h)).cell? ⟨w2.heap.size, 1, none⟩ = some (.int .i64 (q).y) ∧ (w2.alloc (rc q.x q.y q.w q.h)).cell? ⟨w2.heap.size, 2, none⟩ = some (.int .i64 (q).w) ∧ (w2.alloc (rc q.x q.y q.w q.h)).cell? ⟨w2.heap.size, 3, none⟩ = some (.int .i64 (q).h)) := by
    obtain ⟨u1, u2, u3, u4, u5, u6⟩ := hold1 ((Below.refl w2.heap.size w2).alloc (Nat.le_refl _) (rc q.x q.y q.w q.h)) s0
    obtain ⟨v0, v1, v2, v3, v4, _, _, _, _⟩ := RectAt.new w2 q.x q.y q.w q.h 23
    exact ⟨sz.below u1 (Nat.le_refl _), u1, u2, v0, u3, u4, u5, u6, v1, v2, v3, v4⟩
  clear s0 sz
  go_upto_region 4 with fail
  clear t1 t2 k0 k1 k2 k3
  generalize (w2.alloc (rc q.x q.y q.w q.h)) = W3 at *
  generalize w2.heap.size = B' at *
  replace s2 := holdZ (Below.refl _ _).drew s2
  obtain ⟨t0, t1, t2, t3, k0, k1, k2, k3, l0, l1, l2, l3⟩ := (id s2 : _ ∧ _)
  have P3 := Lib.hid p3; clear p3
  have HL := Lib.hid hl; clear hl
  have HLL := Lib.hid hLL; clear hLL
  go_region_held3 (fun w' => SliceZ w' o n cap zs ∧ (Below w.heap.size w w' ∧ w.heap.size < w'.heap.size ∧ B' < w'.heap.size ∧ w'.cell? ⟨w.heap.size, 0, none⟩ = some (.int .i64 (x)) ∧ w'.cell? ⟨w.heap.size, 1, none⟩ = some (.int .i64 (y)) ∧ w'.cell? ⟨w.heap.size, 2, none⟩ = some (.int .i64 (ww)) ∧ w'.cell? ⟨w.heap.size, 3, none⟩ = some (.int .i64 (h)) ∧ w'.cell? ⟨B', 0, none⟩ = some (.int .i64 (q).x) ∧ w'.cell? ⟨B', 1, none⟩ = some (.int .i64 (q).y) ∧ w'.cell? ⟨B', 2, none⟩ = some (.int .i64 (q).w) ∧ w'.cell? ⟨B', 3, none⟩ = some (.int .i64 (q).h))) (first | exact s2 | assumption | exact holdZ (by assumption) (by assumption))
    (first
      | (go_at_call 22; refine (shift_v _ _ _ _ _ _ hdx hdy _).mono ?_; rintro e wn ⟨rfl, hbn⟩)
      | (go_at_call 23; refine (refShift_any q hq _ _ hdx hdy _).mono ?_; rintro e wn ⟨rfl, hbn⟩)
      | (go_at_call 24; refine (inset_v _ _ _ _ _ _).mono ?_; rintro e wn ⟨rfl, hbn⟩)
      | (go_at_call 25; refine (refInset_any q hq _ hnn _).mono ?_; rintro e wn ⟨rfl, hbn⟩)
      | (go_at_call 27; refine Calls.mono (cut_v _ _ _ _ _ _ _ zs _ _ ?hz) ?_; (case hz => first | assumption | (apply And.left; assumption)); rw [P3.out]; rintro e wn ⟨o1, cap1, rfl, hrow1, hbn⟩)
      | (go_at_call 28; refine Calls.mono (refCut_v q hq _ _ _ zs _ _ ?hz) ?_; (case hz => first | assumption | (apply And.left; assumption)); rw [HLL.out]; rintro e wn ⟨o2, cap2, rfl, hrow2, hbn⟩)
      | (go_at_call 26; refine Calls.mono (refSame_any L _ _ _ _ _ _ HL.out hl16 ?h1 ?h2) ?_; (case h1 => first | assumption | exact RowO.below hrow1 hbn (Nat.le_refl _)); (case h2 => first | assumption | exact RowO.below hrow2 hbn (Nat.le_refl _)); rintro e wn ⟨rfl, hbn⟩))
  have hS : SliceZ wn o n cap zs ∧ (Below w.heap.size w wn ∧ w.heap.size < wn.heap.size ∧ B' < wn.heap.size ∧ wn.cell? ⟨w.heap.size, 0, none⟩ = some (.int .i64 (x)) ∧ wn.cell? ⟨w.heap.size, 1, none⟩ = some (.int .i64 (y)) ∧ wn.cell? ⟨w.heap.size, 2, none⟩ = some (.int .i64 (ww)) ∧ wn.cell? ⟨w.heap.size, 3, none⟩ = some (.int .i64 (h)) ∧ wn.cell? ⟨B', 0, none⟩ = some (.int .i64 (q).x) ∧ wn.cell? ⟨B', 1, none⟩ = some (.int .i64 (q).y) ∧ wn.cell? ⟨B', 2, none⟩ = some (.int .i64 (q).w) ∧ wn.cell? ⟨B', 3, none⟩ = some (.int .i64 (q).h)) := by assumption
  go_wp2
  go_ret
  exact ⟨rfl, hS.2.1⟩

set_option maxRecDepth 100000 in
theorem rectMoves_lifted (os : Os) (started : os.Started) (H : Type) (enc : TypeId × Value → H) :
    ReturnsInHanded {} Try.checked os 4 .any (Rows.rectMovesSpec.pre6 enc Try.prog Try.f4 Rows.rectMovesRow.domain false) (Rows.rectMovesSpec.post enc Try.prog Try.f4 false true false false) := by
  refine returnsInHanded_of_change (C := Try.checked) own started (by kernel_rfl) Try.func4
    (ChangeSpec.witness6 (enc := enc) (C := Try.checked) false ⟨#[], #[(.agg #[.int .i64 0, .int .i64 0, .int .i64 0, .int .i64 0]), .int .i64 0, .int .i64 0, .int .i64 0, .slice none 0 0, .bool false], []⟩ 8 (by kernel_rfl) (by kernel_rfl) (by kernel_rfl) (by kernel_rfl)) ?_
  intro W base args ds gs before hval0 hW hcnd _
  have hval : ∀ (j : Nat) t v, Try.f4.params[j]? = some t → args[j]? = some v → Value.okWide Try.prog W .any base t v := hval0
  have hW' := hW
  obtain ⟨p, q, hA0, hV, rfl, hfz, hnd⟩ := hW
  have hA : DataW.TrodAll enc Try.prog W 0 (fun _ => true) true Try.f4.params.toList args.toList ds p := hA0
  obtain ⟨rfl, rfl⟩ := trodVars_none hV
  simp only [List.append_nil] at hW'
  have hlt : ∀ x ∈ p, x.block < W.heap.size := fun x hx => by simpa using hW'.lt x hx
  rw [Try.params4] at hA hval
  have hargs := fun W' (hb : Below W.heap.size W W') => args_below (enc := enc) hb _ _ _ _ (show TsOk [23, 3, 3, 3, 32, 4] from ⟨okRect, ⟨okInt, ⟨okInt, ⟨okInt, ⟨okInts, ⟨okBool, trivial⟩⟩⟩⟩⟩⟩) hlt hA
  obtain ⟨v0, vs0, d0, ds0, p0, q0, hargs0, rfl, rfl, h0, r0⟩ := trodAll_cons hA
  obtain ⟨v1, vs1, d1, ds1, p1, q1, rfl, rfl, rfl, h1, r1⟩ := trodAll_cons r0
  obtain ⟨v2, vs2, d2, ds2, p2, q2, rfl, rfl, rfl, h2, r2⟩ := trodAll_cons r1
  obtain ⟨v3, vs3, d3, ds3, p3, q3, rfl, rfl, rfl, h3, r3⟩ := trodAll_cons r2
  obtain ⟨v4, vs4, d4, ds4, p4, q4, rfl, rfl, rfl, h4, r4⟩ := trodAll_cons r3
  obtain ⟨v5, vs5, d5, ds5, p5, q5, rfl, rfl, rfl, h5, r5⟩ := trodAll_cons r4
  obtain ⟨rfl, rfl, rfl⟩ := trodAll_nil r5
  obtain rfl : args = #[v0, v1, v2, v3, v4, v5] := by cases args; simp_all
  obtain ⟨x0, y0, ww0, hh0, rfl, fx0, fy0, fw0, fh0⟩ := open_rect (hval 0 23 v0 rfl rfl) h0
  obtain ⟨a1, rfl, rfl, rfl, w1⟩ := open_int Try.underlying3 (hval 1 3 v1 rfl rfl) h1
  obtain ⟨a2, rfl, rfl, rfl, w2⟩ := open_int Try.underlying3 (hval 2 3 v2 rfl rfl) h2
  obtain ⟨a3, rfl, rfl, rfl, w3⟩ := open_int Try.underlying3 (hval 3 3 v3 rfl rfl) h3
  obtain ⟨o4, n4, cap4, zs4, rfl, sz4⟩ := open_sliceZ (hval 4 32 v4 rfl rfl) h4
  obtain ⟨a5, rfl, rfl, rfl⟩ := open_bool Try.underlying4 (hval 5 4 v5 rfl rfl) h5
  clear hA0 hval0
  refine (moves_walk x0 y0 ww0 hh0 a1 a2 a3 o4 n4 cap4 zs4 a5 fx0 fy0 fw0 fh0 (i64_of_wf w1) (i64_of_wf w2) (i64_of_wf w3) W sz4).mono fun e W' ⟨he, hb⟩ => ?_
  subst he
  exact ⟨_, rfl, _, _, _, [], _, [], hW', trodAll_mk1 (shut_bool Try.underlying4 _), hargs W' hb, rfl, hb.frame _, fun h => by cases h⟩

theorem rectMoves_holds : Rows.RectMovesSaid :=
  OpenClaim.holds_of_wide 4 Try.f4 rfl rfl rfl rfl rfl rfl rfl ⟨rfl, rfl, rfl, rfl, rfl⟩ rfl rfl rfl rfl rfl (by kernel_rfl) Try.func4 (by kernel_rfl)
    (of_decide_eq_true (by kernel_rfl)) (by unfold Func.isWrapper; first | (rw [if_pos (by decide +kernel)]; kernel_rfl) | (rw [if_neg (by decide +kernel)]; exact ⟨rfl, rfl⟩))
    (fun os started H enc _ => rectMoves_lifted os started H enc)

end Go.Proofs.Ytpmggljdcbbdfaa
