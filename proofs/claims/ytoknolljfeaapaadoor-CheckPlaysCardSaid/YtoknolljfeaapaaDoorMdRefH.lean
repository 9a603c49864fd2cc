/- The document's Has. -/
import Derived.Test.YtoknolljfeaapaaDoorMdWrite
namespace Go.Proofs.YtoknolljfeaapaaDoor
open Go.RowKit
theorem rhas_any (op : Int) (w : World) : Calls Tryd.prog 68 #[.int .i64 op] w fun e w' => e = .returned (.bool (md.has op)) ∧ w' = w := by
  have HD : Hid (md.has op = decide (op = 1 ∨ op = 5 ∨ op = 6 ∨ op = 24 ∨ op = 25 ∨ op = 26 ∨ op = 28)) := Lib.hid rfl
  generalize md.has op = R at *
  have h8 : op = 1 ∨ op = 5 ∨ op = 6 ∨ op = 24 ∨ op = 25 ∨ op = 26 ∨ op = 28 ∨ (op ≠ 1 ∧ op ≠ 5 ∧ op ≠ 6 ∧ op ≠ 24 ∧ op ≠ 25 ∧ op ≠ 26 ∧ op ≠ 28) := by omega
  rcases h8 with rfl | rfl | rfl | rfl | rfl | rfl | rfl | ⟨g0, g1, g2, g3, g4, g5, g6⟩
  case inr.inr.inr.inr.inr.inr.inr =>
    have e0 : (op == 1) = false := by simpa using g0
    have e1 : (op == 5) = false := by simpa using g1
    have e2 : (op == 6) = false := by simpa using g2
    have e3 : (op == 24) = false := by simpa using g3
    have e4 : (op == 25) = false := by simpa using g4
    have e5 : (op == 26) = false := by simpa using g5
    have e6 : (op == 28) = false := by simpa using g6
    go_enter Tryd.func68, Tryd.ntmps68
    go_wp2
    go_ret
    exact ⟨ret_bool (by rw [HD.out]; simp [g0, g1, g2, g3, g4, g5, g6]), rfl⟩
  all_goals
    go_enter Tryd.func68, Tryd.ntmps68
    go_wp2
    go_ret
    exact ⟨ret_bool (by rw [HD.out]; rfl), rfl⟩
end Go.Proofs.YtoknolljfeaapaaDoor
