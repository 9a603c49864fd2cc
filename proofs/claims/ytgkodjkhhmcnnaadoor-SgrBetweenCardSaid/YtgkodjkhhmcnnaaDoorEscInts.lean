/- SameInts. -/
import Derived.Test.YtgkodjkhhmcnnaaDoorEscSame
namespace Go.Proofs.YtgkodjkhhmcnnaaDoor
open Go.RowKit
set_option maxHeartbeats 800000 in
theorem same_ints (o : Option Addr) (n cap : Nat) (xs : List Int) (o' : Option Addr) (n' cap' : Nat) (ys : List Int) (w : World) (hx : Nums .i64 w o n cap xs) (hy : Nums .i64 w o' n' cap' ys) :
    Calls Tryd.prog 17 #[.slice o n cap, .slice o' n' cap'] w fun e w' => e = .returned (.bool (decide (xs = ys))) ∧ ∃ nq, w' = w.drewN nq := by
  have hm : cap ≤ 9223372036854775807 := hx.max
  have hm' : cap' ≤ 9223372036854775807 := hy.max
  have hle := hx.le
  have hle' := hy.le
  by_cases hn : n = n'
  · subst hn
    have HX := Lib.hid hx; have HY := Lib.hid hy
    clear hx hy
    go_enter Tryd.func17, Tryd.ntmps17
    go_wp2_with fail
    go_loopg [5] n (fun gg s5 wr => ∃ k j : Nat, s5 = .int .i64 k ∧ k ≤ n ∧ n - k ≤ gg ∧ Hid (∀ i, i < k → xs.getD i 0 = ys.getD i 0) ∧ Hid (wr = w.drewN j))
    case atStart => exact ⟨0, 0, rfl, Nat.zero_le _, by omega, Lib.hid (fun i hi => by omega), Lib.hid rfl⟩
    case round =>
      obtain ⟨k, j, rfl, hk, hgg, hall, hw⟩ := hrel
      by_cases hlt : k < n
      · obtain ⟨b, off, rfl, hb, k0⟩ := (show Nums .i64 wr _ _ _ _ from hw.out ▸ HX.out.drewN j).cell hlt
        obtain ⟨b', off', rfl, hb', k0'⟩ := (show Nums .i64 wr _ _ _ _ from hw.out ▸ HY.out.drewN j).cell hlt
        have hst := fun h => same_step (k := k) hall.out h
        have hne : xs.getD k 0 ≠ ys.getD k 0 → decide (xs = ys) = false := fun h => decide_eq_false (fun e => h (by rw [e]))
        generalize xs.getD k 0 = x at *
        generalize ys.getD k 0 = y at *
        have HS := Lib.hid hst; have HN := Lib.hid hne
        clear hst hne
        have hki : ((k : Int) < (n : Int)) := by omega
        by_cases e : x = y
        · have HSS := Lib.hid (HS.out e)
          have e1 : (x == y) = true := by simpa using e
          have e2 : (x != y) = false := by simpa using e
          clear e
          go_wp2_with fail
          go_quiet (fail)
          go_wp2_with fail
          go_roundg (n - (k + 1))
          case measure => omega
          case rel => exact ⟨k + 1, j + nq, by go_num, by omega, Nat.le_refl _, HSS, Lib.hid (by rw [hw.out, World.drewN_drewN])⟩
        · have HNN := Lib.hid (HN.out e)
          have e1 : (x == y) = false := by simpa using e
          have e2 : (x != y) = true := by simpa using e
          clear e
          go_wp2_with fail
          go_quiet (fail)
          go_wp2_with fail
          go_ret
          exact ⟨ret_bool HNN.out.symm, j + nq, by rw [hw.out, World.drewN_drewN]⟩
      · obtain rfl : k = n := by omega
        have HD := Lib.hid (show decide (xs = ys) = true from decide_eq_true (same_all HX.out.len HY.out.len hall.out))
        go_wp2_with fail
        go_ret
        exact ⟨ret_bool HD.out.symm, j, hw.out⟩
  · have HD := Lib.hid (show decide (xs = ys) = false from decide_eq_false (fun e => hn (by rw [← hx.len, ← hy.len, e])))
    have hi : ((n : Int) != (n' : Int)) = true := by simp; omega
    have hi2 : ((n : Int) == (n' : Int)) = false := by simp; omega
    clear hx hy
    go_enter Tryd.func17, Tryd.ntmps17
    go_wp2_with fail
    go_ret
    exact ⟨ret_bool HD.out.symm, 0, rfl⟩

end Go.Proofs.YtgkodjkhhmcnnaaDoor
