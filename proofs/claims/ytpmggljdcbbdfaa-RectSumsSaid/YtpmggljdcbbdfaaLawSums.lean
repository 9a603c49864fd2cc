/- RectSums returns true for every three numbers, in every memory, and leaves everything that was there as it was. No condition. -/
import Derived.Test.YtpmggljdcbbdfaaLift
namespace Go.Proofs.Ytpmggljdcbbdfaa
open Go.ChangeShapes Go.WideShapes Go.ChangeAt Go.RowKit rm
attribute [local go_sem ↓] Go.wp_at_zero Go.wp_at_succ

theorem sat_comm (a b : Int) (ha : I64 a) (hb : I64 b) : sat a b = sat b a := by
  unfold I64 at ha hb
  unfold sat top bot
  repeat' split
  all_goals omega
theorem sat_zero (a : Int) : sat a 0 = a := by unfold sat; omega
theorem sat_mono (a b c : Int) (ha : I64 a) (h : b ≤ c) : sat a b ≤ sat a c := by
  unfold I64 at ha
  unfold sat top bot
  repeat' split
  all_goals omega
theorem sat_neg (a : Int) : sat a (-a) = 0 := by
  unfold sat top bot
  repeat' split
  all_goals omega
theorem cl_cl (a b c : Int) : cl (cl a b c) b c = cl a b c := by unfold cl; omega
theorem cl_ge (a b c : Int) : b ≤ cl a b c := by unfold cl; omega
theorem cl_le (a b c : Int) (h : b ≤ c) : cl a b c ≤ c := by unfold cl; omega

set_option maxRecDepth 100000 in
set_option maxHeartbeats 1600000 in
theorem sums_walk (a b c : Int) (ha : I64 a) (hb : I64 b) (hc : I64 c) (w : World) :
    Calls Try.prog 9 #[.int .i64 a, .int .i64 b, .int .i64 c] w fun e w' => e = .returned (.bool true) ∧ Below w.heap.size w w' := by
  have e1 : (sat a b != sat b a) = false := by rw [sat_comm a b ha hb]; simp
  have e2 : (sat a 0 != a) = false := by rw [sat_zero]; simp
  have e3 : (cl (cl a b c) b c == cl a b c) = true := by rw [cl_cl]; simp
  have e4 := cl_ge a b c
  have i1 : -9223372036854775808 ≤ a ∧ a ≤ 9223372036854775807 := ha
  have i2 : -9223372036854775808 ≤ b ∧ b ≤ 9223372036854775807 := hb
  have i3 : -9223372036854775808 ≤ c ∧ c ≤ 9223372036854775807 := hc
  by_cases hbc : b ≤ c
  · have e5 := sat_mono a b c ha hbc
    have e6 := cl_le a b c hbc
    by_cases hm : a = -9223372036854775808
    · have m1 : (a != -9223372036854775808) = false := by simp [hm]
      have HM := Lib.hid hm; clear hm
      go_enter Try.func9, Try.ntmps9
      go_wp2_with fail
      refine (alive_any _).mono ?_
      rintro e w1 ⟨rfl, hb1⟩
      go_wp2_with (first
        | (go_at_call 14; refine (sum_any _ _ (by omega) (by omega) _).mono ?_; rintro e wn ⟨rfl, rfl⟩)
        | (go_at_call 16; refine (clamp_any _ _ _ _).mono ?_; rintro e wn ⟨rfl, rfl⟩))
      go_ret
      exact ⟨rfl, hb1⟩
    · have m1 : (a != -9223372036854775808) = true := by simp [hm]
      have i4 : -9223372036854775807 ≤ a := by omega
      have e7 : (sat a (-a) != 0) = false := by rw [sat_neg a]; simp
      have HM := Lib.hid hm; clear hm
      go_enter Try.func9, Try.ntmps9
      go_wp2_with fail
      refine (alive_any _).mono ?_
      rintro e w1 ⟨rfl, hb1⟩
      go_wp2_with (first
        | (go_at_call 14; refine (sum_any _ _ (by omega) (by omega) _).mono ?_; rintro e wn ⟨rfl, rfl⟩)
        | (go_at_call 16; refine (clamp_any _ _ _ _).mono ?_; rintro e wn ⟨rfl, rfl⟩))
      go_ret
      exact ⟨rfl, hb1⟩
  · have e5 : c < b := by omega
    by_cases hm : a = -9223372036854775808
    · have m1 : (a != -9223372036854775808) = false := by simp [hm]
      have HM := Lib.hid hm; clear hm
      go_enter Try.func9, Try.ntmps9
      go_wp2_with fail
      refine (alive_any _).mono ?_
      rintro e w1 ⟨rfl, hb1⟩
      go_wp2_with (first
        | (go_at_call 14; refine (sum_any _ _ (by omega) (by omega) _).mono ?_; rintro e wn ⟨rfl, rfl⟩)
        | (go_at_call 16; refine (clamp_any _ _ _ _).mono ?_; rintro e wn ⟨rfl, rfl⟩))
      go_ret
      exact ⟨rfl, hb1⟩
    · have m1 : (a != -9223372036854775808) = true := by simp [hm]
      have i4 : -9223372036854775807 ≤ a := by omega
      have e7 : (sat a (-a) != 0) = false := by rw [sat_neg a]; simp
      have HM := Lib.hid hm; clear hm
      go_enter Try.func9, Try.ntmps9
      go_wp2_with fail
      refine (alive_any _).mono ?_
      rintro e w1 ⟨rfl, hb1⟩
      go_wp2_with (first
        | (go_at_call 14; refine (sum_any _ _ (by omega) (by omega) _).mono ?_; rintro e wn ⟨rfl, rfl⟩)
        | (go_at_call 16; refine (clamp_any _ _ _ _).mono ?_; rintro e wn ⟨rfl, rfl⟩))
      go_ret
      exact ⟨rfl, hb1⟩

set_option maxRecDepth 100000 in
theorem rectSums_lifted (os : Os) (started : os.Started) (H : Type) (enc : TypeId × Value → H) :
    ReturnsInHanded {} Try.checked os 9 .any (Rows.rectSumsSpec.pre6 enc Try.prog Try.f9 Rows.rectSumsRow.domain false) (Rows.rectSumsSpec.post enc Try.prog Try.f9 false true false false) := by
  refine returnsInHanded_of_change (C := Try.checked) own started (by kernel_rfl) Try.func9
    (ChangeSpec.witness6 (enc := enc) (C := Try.checked) false ⟨#[], #[.int .i64 0, .int .i64 0, .int .i64 0], []⟩ 8 (by kernel_rfl) (by kernel_rfl) (by kernel_rfl) (by kernel_rfl)) ?_
  intro W base args ds gs before hval0 hW hcnd _
  have hval : ∀ (j : Nat) t v, Try.f9.params[j]? = some t → args[j]? = some v → Value.okWide Try.prog W .any base t v := hval0
  have hW' := hW
  obtain ⟨p, q, hA0, hV, rfl, hfz, hnd⟩ := hW
  have hA : DataW.TrodAll enc Try.prog W 0 (fun _ => true) true Try.f9.params.toList args.toList ds p := hA0
  obtain ⟨rfl, rfl⟩ := trodVars_none hV
  simp only [List.append_nil] at hW'
  have hlt : ∀ x ∈ p, x.block < W.heap.size := fun x hx => by simpa using hW'.lt x hx
  rw [Try.params9] at hA hval
  have hargs := fun W' (hb : Below W.heap.size W W') => args_below (enc := enc) hb _ _ _ _ (show TsOk [3, 3, 3] from ⟨okInt, ⟨okInt, ⟨okInt, trivial⟩⟩⟩) hlt hA
  obtain ⟨v0, vs0, d0, ds0, p0, q0, hargs0, rfl, rfl, h0, r0⟩ := trodAll_cons hA
  obtain ⟨v1, vs1, d1, ds1, p1, q1, rfl, rfl, rfl, h1, r1⟩ := trodAll_cons r0
  obtain ⟨v2, vs2, d2, ds2, p2, q2, rfl, rfl, rfl, h2, r2⟩ := trodAll_cons r1
  obtain ⟨rfl, rfl, rfl⟩ := trodAll_nil r2
  obtain rfl : args = #[v0, v1, v2] := by cases args; simp_all
  obtain ⟨a0, rfl, rfl, rfl, w0⟩ := open_int Try.underlying3 (hval 0 3 v0 rfl rfl) h0
  obtain ⟨a1, rfl, rfl, rfl, w1⟩ := open_int Try.underlying3 (hval 1 3 v1 rfl rfl) h1
  obtain ⟨a2, rfl, rfl, rfl, w2⟩ := open_int Try.underlying3 (hval 2 3 v2 rfl rfl) h2
  clear hA0 hval0
  refine (sums_walk a0 a1 a2 (i64_of_wf w0) (i64_of_wf w1) (i64_of_wf w2) W).mono fun e W' ⟨he, hb⟩ => ?_
  subst he
  exact ⟨_, rfl, _, _, _, [], _, [], hW', trodAll_mk1 (shut_bool Try.underlying4 _), hargs W' hb, rfl, hb.frame _, fun h => by cases h⟩

theorem rectSums_holds : Rows.RectSumsSaid :=
  OpenClaim.holds_of_wide 9 Try.f9 rfl rfl rfl rfl rfl rfl rfl ⟨rfl, rfl, rfl, rfl, rfl⟩ rfl rfl rfl rfl rfl (by kernel_rfl) Try.func9 (by kernel_rfl)
    (of_decide_eq_true (by kernel_rfl)) (by unfold Func.isWrapper; first | (rw [if_pos (by decide +kernel)]; kernel_rfl) | (rw [if_neg (by decide +kernel)]; exact ⟨rfl, rfl⟩))
    (fun os started H enc _ => rectSums_lifted os started H enc)

end Go.Proofs.Ytpmggljdcbbdfaa
