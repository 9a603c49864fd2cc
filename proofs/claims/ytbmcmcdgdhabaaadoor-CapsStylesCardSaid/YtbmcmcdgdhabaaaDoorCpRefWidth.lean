/- What the document's answer for widths does. -/
import Derived.Test.YtbmcmcdgdhabaaaDoorCpWidth
import Derived.Deep.DeepCutAuto
namespace Go.Proofs.YtbmcmcdgdhabaaaDoor
open Go.RowKit

def isR (r : Int) : Bool := decide (0 ≤ r ∧ r ≤ 1114111 ∧ (r < 55296 ∨ 57343 < r))
set_option maxHeartbeats 400000 in
theorem refIsRune_any (r : Int) (w : World) : Calls Tryd.prog 18 #[.int .i32 r] w fun e w' => e = .returned (.bool (isR r)) ∧ w = w' := by
  go_enter Tryd.func18, Tryd.ntmps18
  go_wp2
  all_goals
    go_ret
    exact ⟨ret_bool (by unfold isR; rw [Bool.eq_iff_iff]; simp; try omega), rfl⟩

def lowL : List (Int × Int) := [(4352, 4447), (11904, 12350), (12353, 42191), (44032, 55203)]
def highL : List (Int × Int) := [(63744, 64255), (65072, 65135), (65280, 65376), (65504, 65510)]
def farL : List (Int × Int) := [(127744, 128591), (129280, 129535), (131072, 262141)]
theorem wide_parts (r : Int) : inAny r wideL = (inAny r lowL || inAny r highL || inAny r farL) := by
  unfold inAny wideL lowL highL farL
  simp only [List.any_cons, List.any_nil, Bool.or_false, Bool.or_assoc]

theorem narrow_iff (r : Int) : inAny r narrowL = true ↔ (-2147483648 ≤ r ∧ r ≤ 31) ∨ (127 ≤ r ∧ r ≤ 159) ∨ (768 ≤ r ∧ r ≤ 879) ∨ (8203 ≤ r ∧ r ≤ 8207) ∨ (55296 ≤ r ∧ r ≤ 57343) ∨ (65024 ≤ r ∧ r ≤ 65039) ∨ (1114112 ≤ r ∧ r ≤ 2147483647) := by simp [inAny, narrowL, inS]
theorem low_iff (r : Int) : inAny r lowL = true ↔ (4352 ≤ r ∧ r ≤ 4447) ∨ (11904 ≤ r ∧ r ≤ 12350) ∨ (12353 ≤ r ∧ r ≤ 42191) ∨ (44032 ≤ r ∧ r ≤ 55203) := by simp [inAny, lowL, inS]
theorem high_iff (r : Int) : inAny r highL = true ↔ (63744 ≤ r ∧ r ≤ 64255) ∨ (65072 ≤ r ∧ r ≤ 65135) ∨ (65280 ≤ r ∧ r ≤ 65376) ∨ (65504 ≤ r ∧ r ≤ 65510) := by simp [inAny, highL, inS]
theorem far_iff (r : Int) : inAny r farL = true ↔ (127744 ≤ r ∧ r ≤ 128591) ∨ (129280 ≤ r ∧ r ≤ 129535) ∨ (131072 ≤ r ∧ r ≤ 262141) := by simp [inAny, farL, inS]
theorem isR_iff (r : Int) : isR r = true ↔ 0 ≤ r ∧ r ≤ 1114111 ∧ (r < 55296 ∨ 57343 < r) := by simp [isR]

set_option maxRecDepth 100000 in
set_option maxHeartbeats 4000000 in
theorem refWidth_any (r : Int) (hr : -2147483648 ≤ r ∧ r ≤ 2147483647) (w : World) : Calls Tryd.prog 12 #[.int .i32 r] w fun e w' => e = .returned (.int .i64 (wd r)) ∧ w = w' := by
  have HR := Lib.hid hr; clear hr
  go_enter Tryd.func12, Tryd.ntmps12
  go_upto_region 1 with fail
  go_cut [44] (fun s44 w' => s44 = .bool (inAny r narrowL) ∧ w' = w)
  case first =>
    go_wp2_with fail
    refine (refIsRune_any _ _).mono ?_
    rintro e w2 ⟨rfl, rfl⟩
    cases hi : isR r
    all_goals
      have HI := Lib.hid hi; clear hi
      go_wp2_with fail
    all_goals
      have hi := HI.out
      have hr := HR.out
      clear HI HR
      go_meet
      refine ⟨congrArg Value.bool ?_, rfl⟩
      rw [Bool.eq_iff_iff, narrow_iff]
      simp only [Bool.eq_false_iff, ne_eq, isR_iff] at hi
      simp only [Bool.or_eq_true, decide_eq_true_eq, true_iff]
      omega
  case rest =>
  obtain ⟨rfl, rfl⟩ := hcut
  cases h1 : inAny r narrowL
  · have H1 := Lib.hid h1; clear h1
    have HH : Hid (inAny r lowL = false → inAny r highL = false → inAny r farL = false → wd r = 1) := Lib.hid (fun a b c => by unfold wd; rw [wide_parts, a, b, c, H1.out]; rfl)
    have HW : Hid (inAny r lowL = true ∨ inAny r highL = true ∨ inAny r farL = true → wd r = 2) := Lib.hid (fun h => by
      unfold wd
      rw [H1.out, wide_parts]
      rcases h with h | h | h <;> rw [h] <;> simp)
    go_upto_region 3 with fail
    go_cut [3] (fun s3 w' => s3 = .bool (inAny r lowL) ∧ w' = wc)
    case first =>
      go_wp2_with fail
      all_goals
        go_meet
        refine ⟨congrArg Value.bool ?_, rfl⟩
        rw [Bool.eq_iff_iff, low_iff]
        simp only [Bool.or_eq_true, decide_eq_true_eq, true_iff, Bool.false_eq_true, false_iff]
        omega
    case rest =>
    obtain ⟨rfl, rfl⟩ := hcut
    go_upto_region 4 with fail
    go_cut [4] (fun s4 w' => s4 = .bool (inAny r highL) ∧ w' = wc)
    case first =>
      go_wp2_with fail
      all_goals
        go_meet
        refine ⟨congrArg Value.bool ?_, rfl⟩
        rw [Bool.eq_iff_iff, high_iff]
        simp only [Bool.or_eq_true, decide_eq_true_eq, true_iff, Bool.false_eq_true, false_iff]
        omega
    case rest =>
    obtain ⟨rfl, rfl⟩ := hcut
    go_upto_region 5 with fail
    go_cut [5] (fun s5 w' => s5 = .bool (inAny r farL) ∧ w' = wc)
    case first =>
      go_wp2_with fail
      all_goals
        go_meet
        refine ⟨congrArg Value.bool ?_, rfl⟩
        rw [Bool.eq_iff_iff, far_iff]
        simp only [Bool.or_eq_true, decide_eq_true_eq, true_iff, Bool.false_eq_true, false_iff]
        omega
    case rest =>
    obtain ⟨rfl, rfl⟩ := hcut
    generalize inAny r lowL = b1 at *
    generalize inAny r highL = b2 at *
    generalize inAny r farL = b3 at *
    cases b1 <;> cases b2 <;> cases b3
    all_goals
      first | (have HE := Lib.hid (HH.out rfl rfl rfl); go_wp2_with fail; go_ret; exact ⟨ret_int HE.out.symm, rfl⟩) | (have HE := Lib.hid (HW.out (by simp)); go_wp2_with fail; go_ret; exact ⟨ret_int HE.out.symm, rfl⟩)
  · have H1 := Lib.hid h1; clear h1
    go_wp2_with fail
    go_ret
    exact ⟨ret_int (by unfold wd; rw [H1.out]; rfl), rfl⟩
end Go.Proofs.YtbmcmcdgdhabaaaDoor
