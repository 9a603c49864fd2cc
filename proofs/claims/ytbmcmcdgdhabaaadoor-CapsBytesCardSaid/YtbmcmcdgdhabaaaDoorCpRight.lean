/- sgr.Right. -/
import Derived.Test.YtbmcmcdgdhabaaaDoorSgrMath
import Derived.Test.YtbmcmcdgdhabaaaDoorMdMem
namespace Go.Proofs.YtbmcmcdgdhabaaaDoor.S5
open Go.RowKit
theorem ret_int {k : IntKind} {a b : Int} (h : a = b) : Ending.returned (.int k a) = .returned (.int k b) := by rw [h]
theorem rightColour_any (c : Int) (w : World) :
    Calls Tryd.prog 31 #[.int .i64 c] w fun e w' => e = .returned (.bool (sg.rightC c)) ∧ w = w' := by
  go_enter Tryd.func31, Tryd.ntmps31
  go_wp2
  all_goals
    go_ret
    exact ⟨ret_bool (by rw [Bool.eq_iff_iff]; simp [sg.rightC]; try omega), rfl⟩

theorem right_any (f b a : Int) (w : World) :
    Calls Tryd.prog 22 #[.agg #[.int .i64 f, .int .i64 b, .int .i64 a]] w fun e w' => e = .returned (.bool (sg.right ⟨f, b, a⟩)) ∧ Below w.heap.size w w' := by
  have HD : Hid (sg.right ⟨f, b, a⟩ = (sg.rightC f && sg.rightC b && decide (0 ≤ a) && decide (a ≤ 31))) := Lib.hid rfl
  generalize sg.right ⟨f, b, a⟩ = R at *
  go_enter Tryd.func22, Tryd.ntmps22
  go_wp2_with fail
  refine (rightColour_any _ _).mono ?_
  rintro e w1 ⟨rfl, rfl⟩
  generalize sg.rightC f = p at *
  cases p
  · go_wp2_with fail
    go_ret
    exact ⟨ret_bool (by rw [HD.out]; simp), (Below.refl _ _).alloc (Nat.le_refl _) _⟩
  · go_wp2_with fail
    refine (rightColour_any _ _).mono ?_
    rintro e w1 ⟨rfl, rfl⟩
    generalize sg.rightC b = q at *
    cases q
    · go_wp2_with fail
      go_ret
      exact ⟨ret_bool (by rw [HD.out]; simp), (Below.refl _ _).alloc (Nat.le_refl _) _⟩
    · go_wp2
      all_goals
        go_ret
        exact ⟨ret_bool (by rw [HD.out, Bool.eq_iff_iff]; simp; try omega), (Below.refl _ _).alloc (Nat.le_refl _) _⟩
end Go.Proofs.YtbmcmcdgdhabaaaDoor.S5
