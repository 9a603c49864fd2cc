/- RectNumbers returns true for every rectangle and every three numbers, in every memory, and leaves everything that was there as it was. No condition. -/
import Derived.Test.YtpmggljdcbbdfaaRef
namespace Go.Proofs.Ytpmggljdcbbdfaa
open Go.ChangeShapes Go.WideShapes Go.ChangeAt Go.RowKit rm
attribute [local go_sem ↓] Go.wp_at_zero Go.wp_at_succ
attribute [local go_sem ↓ 10000] run_mn run_mx

theorem ok_area {c : RR} (h : Ok c) : 0 ≤ c.w * c.h ∧ c.w * c.h ≤ 40000 := by
  unfold Ok at h
  refine ⟨Int.mul_nonneg (by omega) (by omega), ?_⟩
  have : c.w * c.h ≤ 200 * 200 := Int.mul_le_mul (by omega) (by omega) (by omega) (by decide)
  omega

theorem lo_eq {a b c L : Int} (g : c < a ∧ b < c) (_ : (if b < a ∧ a ≤ c then a else b) = L) : c = cl a b c := by unfold cl; omega
theorem lo_eq' {a b c L : Int} (g : ¬ (c < a ∧ b < c)) (h : (if b < a ∧ a ≤ c then a else b) = L) : L = cl a b c := by
  subst h
  unfold cl
  split <;> omega

set_option maxRecDepth 100000 in
set_option maxHeartbeats 1600000 in
theorem numbers_walk (x y ww h a b c : Int) (_ : I64 x) (_ : I64 y) (_ : I64 ww) (_ : I64 h) (ha : I64 a) (hb : I64 b) (_ : I64 c) (w : World) :
    Calls Try.prog 3 #[(.agg #[.int .i64 x, .int .i64 y, .int .i64 ww, .int .i64 h]), .int .i64 a, .int .i64 b, .int .i64 c] w fun e w' => e = .returned (.bool true) ∧ Below w.heap.size w w' := by
  have z1 := eqg23
  have z2 := run_eq_rr
  have z4 := eq4_self
  go_enter Try.func3, Try.ntmps3
  go_wp2_with fail
  have r0 := RectAt.new w x y ww h 23
  have hB := (Below.refl w.heap.size w).alloc (Nat.le_refl _) (rc x y ww h)
  generalize (w.alloc (rc x y ww h)) = W at *
  refine (alive_any _).mono ?_
  rintro e w1 ⟨rfl, hb1⟩
  have s0 : (Below w.heap.size w w1 ∧ w.heap.size < w1.heap.size ∧ w1.cell? ⟨w.heap.size, 0, none⟩ = some (.int .i64 (x)) ∧ w1.cell? ⟨w.heap.size, 1, none⟩ = some (.int .i64 (y)) ∧ w1.cell? ⟨w.heap.size, 2, none⟩ = some (.int .i64 (ww)) ∧ w1.cell? ⟨w.heap.size, 3, none⟩ = some (.int .i64 (h))) := hold1 hb1 ⟨hB, r0.lt, r0.k0, r0.k1, r0.k2, r0.k3⟩
  clear hb1 r0 hB
  obtain ⟨t1, t2, k0, k1, k2, k3⟩ := (id s0 : _ ∧ _)
  go_wp2_with fail
  refine (refClean_any _ _ _ _ _).mono ?_
  rintro e w2 ⟨rfl, hb2⟩
  replace s0 := hold1 hb2 s0
  clear t1 t2 k0 k1 k2 k3 hb2
  obtain ⟨t1, t2, k0, k1, k2, k3⟩ := (id s0 : _ ∧ _)
  generalize hc : cleanV x y ww h = q at *
  have s2 : (Below w.heap.size w (w2.alloc (rc q.x q.y q.w q.h)) ∧ w.heap.size < (w2.alloc (rc q.x q.y q.w q.h)).heap.size ∧ w2.heap.size < (w2.alloc (rc q.x q.y q.w q.h)).heap.size ∧ (w2.alloc (rc q.x q.y q.w q.h)).cell? ⟨w.heap.size, 0, none⟩ = some (.int .i64 (x)) ∧ (w2.alloc (rc q.x q.y q.w q.h)).cell? ⟨w.heap.size, 1, none⟩ = some (.int .i64 (y)) ∧ (w2.alloc (rc q.x q.y q.w q.h)).cell? ⟨w.heap.size, 2, none⟩ = some (.int .i64 (ww)) ∧ (w2.alloc (rc q.x q.y q.w q.h)).cell? ⟨w.heap.size, 3, none⟩ = some (.int .i64 (h)) ∧ (w2.alloc (rc q.x q.y q.w q.h)).cell? ⟨w2.heap.size, 0, none⟩ = some (.int .i64 (q).x) ∧ (w2.alloc (rc q.x q.y q.w q.h)).cell? ⟨w2.heap.size, 1, none⟩ = some (.int .i64 (q).y) ∧ (w2.alloc (rc q.x q.y q.w q.h)).cell? ⟨w2.heap.size, 2, none⟩ = some (.int .i64 (q).w) ∧ (w2.alloc (rc q.x q.y q.w q.h)).cell? ⟨w2.heap.size, 3, none⟩ = some (.int .i64 (q).h)) := by
    obtain ⟨u1, u2, u3, u4, u5, u6⟩ := hold1 ((Below.refl w2.heap.size w2).alloc (Nat.le_refl _) (rc q.x q.y q.w q.h)) s0
    obtain ⟨v0, v1, v2, v3, v4, _, _, _, _⟩ := RectAt.new w2 q.x q.y q.w q.h 23
    exact ⟨u1, u2, v0, u3, u4, u5, u6, v1, v2, v3, v4⟩
  clear s0
  go_upto_region 5 with fail
  clear t1 t2 k0 k1 k2 k3
  generalize (w2.alloc (rc q.x q.y q.w q.h)) = W3 at *
  generalize w2.heap.size = B' at *
  go_cut [23] (fun s23 W' => s23 = .bool (decide (b < a ∧ a ≤ c)) ∧ W' = W3)
  case first =>
    by_cases g1 : b < a
    · by_cases g2 : a ≤ c
      · go_wp2_with fail
        go_meet
        exact ⟨by simp [g1, g2], rfl⟩
      · go_wp2_with fail
        go_meet
        exact ⟨by simp [g1, g2], rfl⟩
    · go_wp2_with fail
      go_meet
      exact ⟨congrArg Value.bool (decide_eq_false (by omega)).symm, rfl⟩
  case rest =>
  obtain ⟨rfl, rfl⟩ := hcut
  generalize wc = W3 at *
  go_upto_if 23 with fail
  go_cut [10] (fun s10 W' => s10 = .int .i64 (if b < a ∧ a ≤ c then a else b) ∧ W' = W3)
  case first =>
    by_cases g : b < a ∧ a ≤ c
    · have g' : decide (b < a ∧ a ≤ c) = true := by simp [g]
      go_wp2_with fail
      go_meet
      exact ⟨by simp [g], rfl⟩
    · have g' : decide (b < a ∧ a ≤ c) = false := by simp only [g, decide_false]
      go_wp2_with fail
      go_meet
      exact ⟨by simp only [g, if_false], rfl⟩
  case rest =>
  obtain ⟨rfl, rfl⟩ := hcut
  generalize wc = W3 at *
  generalize hL : (if b < a ∧ a ≤ c then a else b) = L at *
  have HL := Lib.hid hL; clear hL
  go_upto_region 7 with fail
  go_cut [32] (fun s32 W' => s32 = .bool (decide (c < a ∧ b < c)) ∧ W' = W3)
  case first =>
    by_cases g1 : c < a
    · by_cases g2 : b < c
      · go_wp2_with fail
        go_meet
        exact ⟨by simp [g1, g2], rfl⟩
      · go_wp2_with fail
        go_meet
        exact ⟨by simp [g1, g2], rfl⟩
    · go_wp2_with fail
      go_meet
      exact ⟨congrArg Value.bool (decide_eq_false (by omega)).symm, rfl⟩
  case rest =>
  obtain ⟨rfl, rfl⟩ := hcut
  generalize wc = W3 at *
  go_upto_if 32 with fail
  go_cut [10] (fun s10 W' => s10 = .int .i64 (cl a b c) ∧ W' = W3)
  case first =>
    by_cases g : c < a ∧ b < c
    · have g' : decide (c < a ∧ b < c) = true := by simp [g]
      go_wp2_with fail
      go_meet
      exact ⟨congrArg (Value.int .i64) (lo_eq g HL.out), rfl⟩
    · have g' : decide (c < a ∧ b < c) = false := by simp only [g, decide_false]
      go_wp2_with fail
      go_meet
      exact ⟨congrArg (Value.int .i64) (lo_eq' g HL.out), rfl⟩
  case rest =>
  obtain ⟨rfl, rfl⟩ := hcut
  generalize wc = W3 at *
  go_upto_region 9 with fail
  obtain ⟨t1, t2, t3, k0, k1, k2, k3, l0, l1, l2, l3⟩ := (id s2 : _ ∧ _)
  have hk : Ok q := hc ▸ ok_clean _
  have qb1 : -100000 ≤ q.x ∧ q.x ≤ 100000 := by unfold Ok at hk; omega
  have qb2 : -100000 ≤ q.y ∧ q.y ≤ 100000 := by unfold Ok at hk; omega
  have qb3 : -100000 ≤ q.w ∧ q.w ≤ 100000 := by unfold Ok at hk; omega
  have qb4 : -100000 ≤ q.h ∧ q.h ≤ 100000 := by unfold Ok at hk; omega
  have e1 : (noV x y ww h == (q.w == 0)) = true := by
    have : noV x y ww h = (q.w == 0) := by
      rw [noV, hc, Bool.eq_iff_iff]
      simpa using (ok_w hk).symm
    rw [this]; simp
  have e2 : (arV x y ww h == IntKind.i64.wrap (q.w * q.h)) = true := by
    obtain ⟨m1, m2⟩ := ok_area hk
    simp [arV, hc, wr (q.w * q.h) (by omega)]
  have e3 : (hasV x y ww h a b == cell ⟨q.x, q.y, q.w, q.h⟩ a b) = true := by rw [hasV, hc]; simp
  clear hk
  replace s2 := hold2 (Below.refl _ _).drew s2
  try dsimp only [List.append]
  go_region_held3 (fun w' => (Below w.heap.size w w' ∧ w.heap.size < w'.heap.size ∧ B' < w'.heap.size ∧ w'.cell? ⟨w.heap.size, 0, none⟩ = some (.int .i64 (x)) ∧ w'.cell? ⟨w.heap.size, 1, none⟩ = some (.int .i64 (y)) ∧ w'.cell? ⟨w.heap.size, 2, none⟩ = some (.int .i64 (ww)) ∧ w'.cell? ⟨w.heap.size, 3, none⟩ = some (.int .i64 (h)) ∧ w'.cell? ⟨B', 0, none⟩ = some (.int .i64 (q).x) ∧ w'.cell? ⟨B', 1, none⟩ = some (.int .i64 (q).y) ∧ w'.cell? ⟨B', 2, none⟩ = some (.int .i64 (q).w) ∧ w'.cell? ⟨B', 3, none⟩ = some (.int .i64 (q).h))) (first | exact s2 | assumption | exact hold2 (by assumption) (by assumption) | exact hold2 ((Below.refl _ _).alloc (Nat.le_refl _) _) (by assumption))
    (first
      | (go_at_call 14; refine (sum_any _ _ ha hb _).mono ?_; rintro e wn ⟨rfl, rfl⟩)
      | (go_at_call 15; refine (refSum_any _ _ ha hb _).mono ?_; rintro e wn ⟨rfl, rfl⟩)
      | (go_at_call 16; refine (clamp_any _ _ _ _).mono ?_; rintro e wn ⟨rfl, rfl⟩)
      | (go_at_call 17; refine (clean_v _ _ _ _ _).mono ?_; rw [hc]; rintro e wn ⟨rfl, hbn⟩)
      | (go_at_call 18; refine (empty_v _ _ _ _ _).mono ?_; rintro e wn ⟨rfl, hbn⟩)
      | (go_at_call 19; refine (area_v _ _ _ _ _).mono ?_; rintro e wn ⟨rfl, hbn⟩)
      | (go_at_call 20; refine (has_v _ _ _ _ _ _ _).mono ?_; rintro e wn ⟨rfl, hbn⟩)
      | (go_at_call 21; refine (refHas_any _ _ _ _ _ _ qb1 qb2 qb3 qb4 _).mono ?_; rintro e wn ⟨rfl, hbn⟩))
  have hS : (Below w.heap.size w wn ∧ w.heap.size < wn.heap.size ∧ B' < wn.heap.size ∧ wn.cell? ⟨w.heap.size, 0, none⟩ = some (.int .i64 (x)) ∧ wn.cell? ⟨w.heap.size, 1, none⟩ = some (.int .i64 (y)) ∧ wn.cell? ⟨w.heap.size, 2, none⟩ = some (.int .i64 (ww)) ∧ wn.cell? ⟨w.heap.size, 3, none⟩ = some (.int .i64 (h)) ∧ wn.cell? ⟨B', 0, none⟩ = some (.int .i64 (q).x) ∧ wn.cell? ⟨B', 1, none⟩ = some (.int .i64 (q).y) ∧ wn.cell? ⟨B', 2, none⟩ = some (.int .i64 (q).w) ∧ wn.cell? ⟨B', 3, none⟩ = some (.int .i64 (q).h)) := by assumption
  go_wp2
  go_ret
  exact ⟨rfl, hS.1⟩

set_option maxRecDepth 100000 in
theorem rectNumbers_lifted (os : Os) (started : os.Started) (H : Type) (enc : TypeId × Value → H) :
    ReturnsInHanded {} Try.checked os 3 .any (Rows.rectNumbersSpec.pre6 enc Try.prog Try.f3 Rows.rectNumbersRow.domain false) (Rows.rectNumbersSpec.post enc Try.prog Try.f3 false true false false) := by
  refine returnsInHanded_of_change (C := Try.checked) own started (by kernel_rfl) Try.func3
    (ChangeSpec.witness6 (enc := enc) (C := Try.checked) false ⟨#[], #[(.agg #[.int .i64 0, .int .i64 0, .int .i64 0, .int .i64 0]), .int .i64 0, .int .i64 0, .int .i64 0], []⟩ 8 (by kernel_rfl) (by kernel_rfl) (by kernel_rfl) (by kernel_rfl)) ?_
  intro W base args ds gs before hval0 hW hcnd _
  have hval : ∀ (j : Nat) t v, Try.f3.params[j]? = some t → args[j]? = some v → Value.okWide Try.prog W .any base t v := hval0
  have hW' := hW
  obtain ⟨p, q, hA0, hV, rfl, hfz, hnd⟩ := hW
  have hA : DataW.TrodAll enc Try.prog W 0 (fun _ => true) true Try.f3.params.toList args.toList ds p := hA0
  obtain ⟨rfl, rfl⟩ := trodVars_none hV
  simp only [List.append_nil] at hW'
  have hlt : ∀ x ∈ p, x.block < W.heap.size := fun x hx => by simpa using hW'.lt x hx
  rw [Try.params3] at hA hval
  have hargs := fun W' (hb : Below W.heap.size W W') => args_below (enc := enc) hb _ _ _ _ (show TsOk [23, 3, 3, 3] from ⟨okRect, ⟨okInt, ⟨okInt, ⟨okInt, trivial⟩⟩⟩⟩) hlt hA
  obtain ⟨v0, vs0, d0, ds0, p0, q0, hargs0, rfl, rfl, h0, r0⟩ := trodAll_cons hA
  obtain ⟨v1, vs1, d1, ds1, p1, q1, rfl, rfl, rfl, h1, r1⟩ := trodAll_cons r0
  obtain ⟨v2, vs2, d2, ds2, p2, q2, rfl, rfl, rfl, h2, r2⟩ := trodAll_cons r1
  obtain ⟨v3, vs3, d3, ds3, p3, q3, rfl, rfl, rfl, h3, r3⟩ := trodAll_cons r2
  obtain ⟨rfl, rfl, rfl⟩ := trodAll_nil r3
  obtain rfl : args = #[v0, v1, v2, v3] := by cases args; simp_all
  obtain ⟨x0, y0, ww0, hh0, rfl, fx0, fy0, fw0, fh0⟩ := open_rect (hval 0 23 v0 rfl rfl) h0
  obtain ⟨a1, rfl, rfl, rfl, w1⟩ := open_int Try.underlying3 (hval 1 3 v1 rfl rfl) h1
  obtain ⟨a2, rfl, rfl, rfl, w2⟩ := open_int Try.underlying3 (hval 2 3 v2 rfl rfl) h2
  obtain ⟨a3, rfl, rfl, rfl, w3⟩ := open_int Try.underlying3 (hval 3 3 v3 rfl rfl) h3
  clear hA0 hval0
  refine (numbers_walk x0 y0 ww0 hh0 a1 a2 a3 fx0 fy0 fw0 fh0 (i64_of_wf w1) (i64_of_wf w2) (i64_of_wf w3) W).mono fun e W' ⟨he, hb⟩ => ?_
  subst he
  exact ⟨_, rfl, _, _, _, [], _, [], hW', trodAll_mk1 (shut_bool Try.underlying4 _), hargs W' hb, rfl, hb.frame _, fun h => by cases h⟩

theorem rectNumbers_holds : Rows.RectNumbersSaid :=
  OpenClaim.holds_of_wide 3 Try.f3 rfl rfl rfl rfl rfl rfl rfl ⟨rfl, rfl, rfl, rfl, rfl⟩ rfl rfl rfl rfl rfl (by kernel_rfl) Try.func3 (by kernel_rfl)
    (of_decide_eq_true (by kernel_rfl)) (by unfold Func.isWrapper; first | (rw [if_pos (by decide +kernel)]; kernel_rfl) | (rw [if_neg (by decide +kernel)]; exact ⟨rfl, rfl⟩))
    (fun os started H enc _ => rectNumbers_lifted os started H enc)

end Go.Proofs.Ytpmggljdcbbdfaa
