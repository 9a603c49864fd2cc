/- RectInsets returns true for every rectangle and every two numbers, in every memory, and leaves everything that was there as it was. No condition. -/
import Derived.Test.YtpmggljdcbbdfaaCalls
namespace Go.Proofs.Ytpmggljdcbbdfaa
open Go.ChangeShapes Go.WideShapes Go.ChangeAt Go.RowKit rm
attribute [local go_sem ↓] Go.wp_at_zero Go.wp_at_succ
attribute [local go_sem ↓ 10000] run_mn run_mx

theorem ins_two (x y ww h a b : Int) : insetV (insetV x y ww h a).x (insetV x y ww h a).y (insetV x y ww h a).w (insetV x y ww h a).h b = insetV x y ww h (IntKind.i64.wrap (mn (mx a 0) 300 + mn (mx b 0) 300)) := by
  show inset (clean (inset (clean ⟨x, y, ww, h⟩) a)) b = inset (clean ⟨x, y, ww, h⟩) _
  rw [clean_ok (ok_inset _ _)]
  refine inset_inset (ok_clean _) a b _ ?_
  rw [wr _ (by unfold mn mx; omega)]
  unfold mn mx cl
  omega
theorem ok_area {c : RR} (h : Ok c) : 0 ≤ c.w * c.h ∧ c.w * c.h ≤ 40000 := by
  unfold Ok at h
  refine ⟨Int.mul_nonneg (by omega) (by omega), ?_⟩
  have : c.w * c.h ≤ 200 * 200 := Int.mul_le_mul (by omega) (by omega) (by omega) (by decide)
  omega

set_option maxRecDepth 100000 in
set_option maxHeartbeats 1600000 in
theorem insets_walk (x y ww h a b : Int) (_ : I64 x) (_ : I64 y) (_ : I64 ww) (_ : I64 h) (_ : I64 a) (_ : I64 b) (w : World) :
    Calls Try.prog 11 #[(.agg #[.int .i64 x, .int .i64 y, .int .i64 ww, .int .i64 h]), .int .i64 a, .int .i64 b] w fun e w' => e = .returned (.bool true) ∧ Below w.heap.size w w' := by
  have z1 := eqg23
  have z2 := run_eq_rr
  have z3 := run_ne_rr
  go_enter Try.func11, Try.ntmps11
  go_wp2_with fail
  have r0 := RectAt.new w x y ww h 23
  have hB := (Below.refl w.heap.size w).alloc (Nat.le_refl _) (rc x y ww h)
  generalize (w.alloc (rc x y ww h)) = W at *
  refine (alive_any _).mono ?_
  rintro e w1 ⟨rfl, hb1⟩
  have s0 : (Below w.heap.size w w1 ∧ w.heap.size < w1.heap.size ∧ w1.cell? ⟨w.heap.size, 0, none⟩ = some (.int .i64 (x)) ∧ w1.cell? ⟨w.heap.size, 1, none⟩ = some (.int .i64 (y)) ∧ w1.cell? ⟨w.heap.size, 2, none⟩ = some (.int .i64 (ww)) ∧ w1.cell? ⟨w.heap.size, 3, none⟩ = some (.int .i64 (h))) := hold1 hb1 ⟨hB, r0.lt, r0.k0, r0.k1, r0.k2, r0.k3⟩
  clear hb1 r0 hB
  replace s0 := hold1 (Below.refl _ _).drew s0
  obtain ⟨t1, t2, k0, k1, k2, k3⟩ := (id s0 : _ ∧ _)
  go_wp2_with fail
  have p1 : (eq4 (insetV (insetV x y ww h a).x (insetV x y ww h a).y (insetV x y ww h a).w (insetV x y ww h a).h b).x (insetV (insetV x y ww h a).x (insetV x y ww h a).y (insetV x y ww h a).w (insetV x y ww h a).h b).y (insetV (insetV x y ww h a).x (insetV x y ww h a).y (insetV x y ww h a).w (insetV x y ww h a).h b).w (insetV (insetV x y ww h a).x (insetV x y ww h a).y (insetV x y ww h a).w (insetV x y ww h a).h b).h (insetV x y ww h (IntKind.i64.wrap (mn (mx a 0) 300 + mn (mx b 0) 300))).x (insetV x y ww h (IntKind.i64.wrap (mn (mx a 0) 300 + mn (mx b 0) 300))).y (insetV x y ww h (IntKind.i64.wrap (mn (mx a 0) 300 + mn (mx b 0) 300))).w (insetV x y ww h (IntKind.i64.wrap (mn (mx a 0) 300 + mn (mx b 0) 300))).h) = true := eq4_same (ins_two x y ww h a b)
  have p2 : (eq4 (insetV x y ww h 0).x (insetV x y ww h 0).y (insetV x y ww h 0).w (insetV x y ww h 0).h (cleanV x y ww h).x (cleanV x y ww h).y (cleanV x y ww h).w (cleanV x y ww h).h) = true := eq4_same (inset_zero (ok_clean _))
  go_region_held3 (fun w' => (Below w.heap.size w w' ∧ w.heap.size < w'.heap.size ∧ w'.cell? ⟨w.heap.size, 0, none⟩ = some (.int .i64 (x)) ∧ w'.cell? ⟨w.heap.size, 1, none⟩ = some (.int .i64 (y)) ∧ w'.cell? ⟨w.heap.size, 2, none⟩ = some (.int .i64 (ww)) ∧ w'.cell? ⟨w.heap.size, 3, none⟩ = some (.int .i64 (h)))) (first | exact s0 | assumption | exact hold1 (by assumption) (by assumption) | exact hold1 ((Below.refl _ _).alloc (Nat.le_refl _) _) (by assumption))
    (first
      | (go_at_call 24; refine (inset_v _ _ _ _ _ _).mono ?_; rintro e wn ⟨rfl, hbn⟩)
      | (go_at_call 17; refine (clean_v _ _ _ _ _).mono ?_; rintro e wn ⟨rfl, hbn⟩))
  have hS : (Below w.heap.size w wn ∧ w.heap.size < wn.heap.size ∧ wn.cell? ⟨w.heap.size, 0, none⟩ = some (.int .i64 (x)) ∧ wn.cell? ⟨w.heap.size, 1, none⟩ = some (.int .i64 (y)) ∧ wn.cell? ⟨w.heap.size, 2, none⟩ = some (.int .i64 (ww)) ∧ wn.cell? ⟨w.heap.size, 3, none⟩ = some (.int .i64 (h))) := by assumption
  clear s0 t1 t2 k0 k1 k2 k3 hbn p1 p2
  obtain ⟨t1, t2, k0, k1, k2, k3⟩ := (id hS : _ ∧ _)
  go_wp2_with fail
  refine (clean_v _ _ _ _ _).mono ?_
  rintro e w2 ⟨rfl, hb2⟩
  replace hS := hold1 hb2 hS
  clear t1 t2 k0 k1 k2 k3 hb2
  obtain ⟨t1, t2, k0, k1, k2, k3⟩ := (id hS : _ ∧ _)
  generalize hc : cleanV x y ww h = c at *
  have s2 : (Below w.heap.size w (w2.alloc (rc c.x c.y c.w c.h)) ∧ w.heap.size < (w2.alloc (rc c.x c.y c.w c.h)).heap.size ∧ w2.heap.size < (w2.alloc (rc c.x c.y c.w c.h)).heap.size ∧ (w2.alloc (rc c.x c.y c.w c.h)).cell? ⟨w.heap.size, 0, none⟩ = some (.int .i64 (x)) ∧ (w2.alloc (rc c.x c.y c.w c.h)).cell? ⟨w.heap.size, 1, none⟩ = some (.int .i64 (y)) ∧ (w2.alloc (rc c.x c.y c.w c.h)).cell? ⟨w.heap.size, 2, none⟩ = some (.int .i64 (ww)) ∧ (w2.alloc (rc c.x c.y c.w c.h)).cell? ⟨w.heap.size, 3, none⟩ = some (.int .i64 (h)) ∧ (w2.alloc (rc c.x c.y c.w c.h)).cell? ⟨w2.heap.size, 0, none⟩ = some (.int .i64 (c).x) ∧ (w2.alloc (rc c.x c.y c.w c.h)).cell? ⟨w2.heap.size, 1, none⟩ = some (.int .i64 (c).y) ∧ (w2.alloc (rc c.x c.y c.w c.h)).cell? ⟨w2.heap.size, 2, none⟩ = some (.int .i64 (c).w) ∧ (w2.alloc (rc c.x c.y c.w c.h)).cell? ⟨w2.heap.size, 3, none⟩ = some (.int .i64 (c).h)) := by
    obtain ⟨u1, u2, u3, u4, u5, u6⟩ := hold1 ((Below.refl w2.heap.size w2).alloc (Nat.le_refl _) (rc c.x c.y c.w c.h)) hS
    obtain ⟨v0, v1, v2, v3, v4, _, _, _, _⟩ := RectAt.new w2 c.x c.y c.w c.h 23
    exact ⟨u1, u2, v0, u3, u4, u5, u6, v1, v2, v3, v4⟩
  clear hS
  by_cases hz : c.w = 0
  · have z4 : (c.w == 0) = true := by simp [hz]
    have z5 : (arV x y ww h == 0) = true := by simp [arV, hc, hz]
    have z6 : hasV x y ww h x y = false := by simp [hasV, hc, cell, hz]; omega
    have HZ := Lib.hid hz; clear hz
    go_wp2_with fail
    clear t1 t2 k0 k1 k2 k3
    generalize (w2.alloc (rc c.x c.y c.w c.h)) = W3 at *
    generalize w2.heap.size = B' at *
    obtain ⟨t1, t2, t3, k0, k1, k2, k3, l0, l1, l2, l3⟩ := (id s2 : _ ∧ _)
    refine (area_v _ _ _ _ _).mono ?_
    rintro e w4 ⟨rfl, hb4⟩
    replace s2 := hold2 hb4 s2
    clear t1 t2 t3 k0 k1 k2 k3 l0 l1 l2 l3
    obtain ⟨t1, t2, t3, k0, k1, k2, k3, l0, l1, l2, l3⟩ := (id s2 : _ ∧ _)
    go_wp2_with (go_at_call 20; refine (has_v _ _ _ _ _ _ _).mono ?_; rintro e wn ⟨rfl, hbn⟩)
    go_ret
    exact ⟨rfl, (hold2 hbn s2).1⟩
  · have z4 : (c.w == 0) = false := by simp [hz]
    have hk : Ok c := hc ▸ ok_clean _
    have HZ := Lib.hid hz; clear hz
    go_wp2_with fail
    clear t1 t2 k0 k1 k2 k3
    generalize (w2.alloc (rc c.x c.y c.w c.h)) = W3 at *
    generalize w2.heap.size = B' at *
    obtain ⟨t1, t2, t3, k0, k1, k2, k3, l0, l1, l2, l3⟩ := (id s2 : _ ∧ _)
    have q1 : (arV x y ww h == IntKind.i64.wrap (c.w * c.h)) = true := by
      obtain ⟨m1, m2⟩ := ok_area hk
      simp [arV, hc, wr (c.w * c.h) (by omega)]
    have q2 : hasV x y ww h c.x c.y = true := by
      rw [hasV, hc]; unfold Ok at hk; have := HZ.out; simp [cell]; omega
    have q3 : hasV x y ww h (IntKind.i64.wrap (IntKind.i64.wrap (c.x + c.w) - 1)) (IntKind.i64.wrap (IntKind.i64.wrap (c.y + c.h) - 1)) = true := by
      rw [hasV, hc]; unfold Ok at hk; have := HZ.out; simp [cell, IntKind.wrap_i64]; omega
    have q4 : hasV x y ww h (IntKind.i64.wrap (c.x + c.w)) c.y = false := by
      rw [hasV, hc]; unfold Ok at hk; have := HZ.out; simp [cell, IntKind.wrap_i64]; omega
    have q5 : hasV x y ww h c.x (IntKind.i64.wrap (c.y + c.h)) = false := by
      rw [hasV, hc]; unfold Ok at hk; have := HZ.out; simp [cell, IntKind.wrap_i64]; omega
    have q6 : hasV x y ww h (IntKind.i64.wrap (c.x - 1)) c.y = false := by
      rw [hasV, hc]; unfold Ok at hk; have := HZ.out; simp [cell, IntKind.wrap_i64]; omega
    clear hk
    replace s2 := hold2 (Below.refl _ _).drew s2
    dsimp only [List.append]
    go_region_held3 (fun w' => (Below w.heap.size w w' ∧ w.heap.size < w'.heap.size ∧ B' < w'.heap.size ∧ w'.cell? ⟨w.heap.size, 0, none⟩ = some (.int .i64 (x)) ∧ w'.cell? ⟨w.heap.size, 1, none⟩ = some (.int .i64 (y)) ∧ w'.cell? ⟨w.heap.size, 2, none⟩ = some (.int .i64 (ww)) ∧ w'.cell? ⟨w.heap.size, 3, none⟩ = some (.int .i64 (h)) ∧ w'.cell? ⟨B', 0, none⟩ = some (.int .i64 (c).x) ∧ w'.cell? ⟨B', 1, none⟩ = some (.int .i64 (c).y) ∧ w'.cell? ⟨B', 2, none⟩ = some (.int .i64 (c).w) ∧ w'.cell? ⟨B', 3, none⟩ = some (.int .i64 (c).h))) (first | exact s2 | assumption | exact hold2 (by assumption) (by assumption) | exact hold2 ((Below.refl _ _).alloc (Nat.le_refl _) _) (by assumption))
      (first
        | (go_at_call 19; refine (area_v _ _ _ _ _).mono ?_; rintro e wn ⟨rfl, hbn⟩)
        | (go_at_call 20; refine (has_v _ _ _ _ _ _ _).mono ?_; rintro e wn ⟨rfl, hbn⟩))
    have hS : (Below w.heap.size w wn ∧ w.heap.size < wn.heap.size ∧ B' < wn.heap.size ∧ wn.cell? ⟨w.heap.size, 0, none⟩ = some (.int .i64 (x)) ∧ wn.cell? ⟨w.heap.size, 1, none⟩ = some (.int .i64 (y)) ∧ wn.cell? ⟨w.heap.size, 2, none⟩ = some (.int .i64 (ww)) ∧ wn.cell? ⟨w.heap.size, 3, none⟩ = some (.int .i64 (h)) ∧ wn.cell? ⟨B', 0, none⟩ = some (.int .i64 (c).x) ∧ wn.cell? ⟨B', 1, none⟩ = some (.int .i64 (c).y) ∧ wn.cell? ⟨B', 2, none⟩ = some (.int .i64 (c).w) ∧ wn.cell? ⟨B', 3, none⟩ = some (.int .i64 (c).h)) := by assumption
    go_wp2
    go_ret
    exact ⟨rfl, hS.1⟩
set_option maxRecDepth 100000 in
theorem rectInsets_lifted (os : Os) (started : os.Started) (H : Type) (enc : TypeId × Value → H) :
    ReturnsInHanded {} Try.checked os 11 .any (Rows.rectInsetsSpec.pre6 enc Try.prog Try.f11 Rows.rectInsetsRow.domain false) (Rows.rectInsetsSpec.post enc Try.prog Try.f11 false true false false) := by
  refine returnsInHanded_of_change (C := Try.checked) own started (by kernel_rfl) Try.func11
    (ChangeSpec.witness6 (enc := enc) (C := Try.checked) false ⟨#[], #[(.agg #[.int .i64 0, .int .i64 0, .int .i64 0, .int .i64 0]), .int .i64 0, .int .i64 0], []⟩ 8 (by kernel_rfl) (by kernel_rfl) (by kernel_rfl) (by kernel_rfl)) ?_
  intro W base args ds gs before hval0 hW hcnd _
  have hval : ∀ (j : Nat) t v, Try.f11.params[j]? = some t → args[j]? = some v → Value.okWide Try.prog W .any base t v := hval0
  have hW' := hW
  obtain ⟨p, q, hA0, hV, rfl, hfz, hnd⟩ := hW
  have hA : DataW.TrodAll enc Try.prog W 0 (fun _ => true) true Try.f11.params.toList args.toList ds p := hA0
  obtain ⟨rfl, rfl⟩ := trodVars_none hV
  simp only [List.append_nil] at hW'
  have hlt : ∀ x ∈ p, x.block < W.heap.size := fun x hx => by simpa using hW'.lt x hx
  rw [Try.params11] at hA hval
  have hargs := fun W' (hb : Below W.heap.size W W') => args_below (enc := enc) hb _ _ _ _ (show TsOk [23, 3, 3] from ⟨okRect, ⟨okInt, ⟨okInt, trivial⟩⟩⟩) hlt hA
  obtain ⟨v0, vs0, d0, ds0, p0, q0, hargs0, rfl, rfl, h0, r0⟩ := trodAll_cons hA
  obtain ⟨v1, vs1, d1, ds1, p1, q1, rfl, rfl, rfl, h1, r1⟩ := trodAll_cons r0
  obtain ⟨v2, vs2, d2, ds2, p2, q2, rfl, rfl, rfl, h2, r2⟩ := trodAll_cons r1
  obtain ⟨rfl, rfl, rfl⟩ := trodAll_nil r2
  obtain rfl : args = #[v0, v1, v2] := by cases args; simp_all
  obtain ⟨x0, y0, ww0, hh0, rfl, fx0, fy0, fw0, fh0⟩ := open_rect (hval 0 23 v0 rfl rfl) h0
  obtain ⟨a1, rfl, rfl, rfl, w1⟩ := open_int Try.underlying3 (hval 1 3 v1 rfl rfl) h1
  obtain ⟨a2, rfl, rfl, rfl, w2⟩ := open_int Try.underlying3 (hval 2 3 v2 rfl rfl) h2
  clear hA0 hval0
  refine (insets_walk x0 y0 ww0 hh0 a1 a2 fx0 fy0 fw0 fh0 (i64_of_wf w1) (i64_of_wf w2) W).mono fun e W' ⟨he, hb⟩ => ?_
  subst he
  exact ⟨_, rfl, _, _, _, [], _, [], hW', trodAll_mk1 (shut_bool Try.underlying4 _), hargs W' hb, rfl, hb.frame _, fun h => by cases h⟩

theorem rectInsets_holds : Rows.RectInsetsSaid :=
  OpenClaim.holds_of_wide 11 Try.f11 rfl rfl rfl rfl rfl rfl rfl ⟨rfl, rfl, rfl, rfl, rfl⟩ rfl rfl rfl rfl rfl (by kernel_rfl) Try.func11 (by kernel_rfl)
    (of_decide_eq_true (by kernel_rfl)) (by unfold Func.isWrapper; first | (rw [if_pos (by decide +kernel)]; kernel_rfl) | (rw [if_neg (by decide +kernel)]; exact ⟨rfl, rfl⟩))
    (fun os started H enc _ => rectInsets_lifted os started H enc)

end Go.Proofs.Ytpmggljdcbbdfaa
