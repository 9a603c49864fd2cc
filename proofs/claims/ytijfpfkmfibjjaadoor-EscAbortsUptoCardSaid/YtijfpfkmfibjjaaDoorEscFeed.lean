/- steps, Idle, Feed. -/
import Derived.Test.YtijfpfkmfibjjaaDoorEscGround
namespace Go.Proofs.YtijfpfkmfibjjaaDoor
open Go.RowKit

theorem idle_any (p : Nat) (s : es.St) (cur : Array Value) (w : World) (h : PsAt w p s cur) :
    Calls Tryd.prog 14 #[.pointer (some ⟨p, 0, none⟩)] w fun e w' => e = .returned (.bool (es.idle s)) ∧ w = w' := by
  have c0 : w.cell? ⟨p, 0, none⟩ = some (.int .i64 s.state) := (h.c 0).trans h.is.st
  have HW := Lib.hid (waits_any p 1 s.wait cur 33 w h.rd)
  clear h
  by_cases h0 : s.state = 0
  · have b1 : ((s.state : Int) == 0) = true := by simp [h0]
    go_enter Tryd.func14, Tryd.ntmps14
    go_wp2_with fail
    refine HW.out.mono ?_
    rintro e w1 ⟨rfl, rfl⟩
    go_wp2_with fail
    go_ret
    refine ⟨ret_bool ?_, rfl⟩
    unfold es.idle
    by_cases h1 : s.wait.length = 0 <;> simp [h0, h1]
    all_goals omega
  · have b1 : ((s.state : Int) == 0) = false := by simp; omega
    have e : es.idle s = false := by unfold es.idle; simp [h0]
    rw [e]
    go_enter Tryd.func14, Tryd.ntmps14
    go_wp2_with fail
    go_ret
    exact ⟨rfl, rfl⟩
/-- what a state does with a byte -/
def stepOf (n : Nat) : FuncId := if n = 1 then 28 else if n = 2 then 29 else if n = 3 then 30 else if n = 4 then 31 else 32
theorem steps_any (n : Nat) (w : World) (hn : n ≤ 4) : Calls Tryd.prog 21 #[.int .i64 n] w fun e w' => e = .returned (.func (.func (stepOf n)) #[] #[]) ∧ w = w' := by
  obtain rfl | rfl | rfl | rfl | rfl : n = 0 ∨ n = 1 ∨ n = 2 ∨ n = 3 ∨ n = 4 := by omega
  all_goals
    go_enter Tryd.func21, Tryd.ntmps21
    go_wp2_with fail
    go_ret
    exact ⟨rfl, rfl⟩
end Go.Proofs.YtijfpfkmfibjjaaDoor
