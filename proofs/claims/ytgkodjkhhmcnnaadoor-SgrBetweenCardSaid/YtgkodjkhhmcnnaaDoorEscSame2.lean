/- Same, of the same acts. -/
import Derived.Test.YtgkodjkhhmcnnaaDoorEscInts
namespace Go.Proofs.YtgkodjkhhmcnnaaDoor
open Go.RowKit

theorem below_two (W : World) (o o' : Obj) : Below W.heap.size W ((W.alloc o).alloc o') := (below_one W o).trans ((below_one (W.alloc o) o').mono (by simp))
set_option maxRecDepth 100000 in
set_option maxHeartbeats 3200000 in
theorem same_acts (o : Option Addr) (cap : Nat) (l : List es.Act) (o' : Option Addr) (cap' : Nat) (n : Nat) (w : World) (hx : ActsIn w o n cap l) (hy : ActsIn w o' n cap' l) :
    Calls Tryd.prog 8 #[.slice o n cap, .slice o' n cap'] w fun e w' => e = .returned (.bool true) ∧ Below w.heap.size w w' := by
  have hm : cap ≤ 9223372036854775807 := hx.max
  have hm' : cap' ≤ 9223372036854775807 := hy.max
  have hle := hx.le
  have hle' := hy.le
  have HX := Lib.hid hx; have HY := Lib.hid hy
  clear hx hy
  go_enter Tryd.func8, Tryd.ntmps8
  go_wp2_with fail
  go_loopg [5] n (fun gg s5 wr => ∃ k : Nat, s5 = .int .i64 k ∧ k ≤ n ∧ n - k ≤ gg ∧ Hid (Below w.heap.size w wr))
  case atStart => exact ⟨0, rfl, Nat.zero_le _, by omega, Lib.hid (Below.refl _ _)⟩
  case round =>
    obtain ⟨k, rfl, hk, hgg, HB⟩ := hrel
    by_cases hlt : k < n
    · obtain ⟨b, po, pc, rfl, hb, h7, hn⟩ := (HX.out.below HB.out).at_ k hlt
      obtain ⟨b', po', pc', rfl, hb', h7', hn'⟩ := (HY.out.below HB.out).at_ k hlt
      generalize l.getD k es.act0 = a at *
      obtain ⟨c0, c1, c2, c3, c4, c5, c6⟩ := cells7 h7
      obtain ⟨d0, d1, d2, d3, d4, d5, d6⟩ := cells7 h7'
      have HN := Lib.hid hn; have HN' := Lib.hid hn'
      have hbel := HB.out
      have hs1 : w.heap.size ≤ wr.heap.size := hbel.size
      have HNB : Hid (∀ X, Below wr.heap.size wr X → Nums .i64 X po a.params.length pc a.params ∧ Nums .i64 X po' a.params.length pc' a.params) := Lib.hid (fun X hb => ⟨hn.below hb, hn'.below hb⟩)
      have HS : Hid (∀ X, Below wr.heap.size wr X → Calls Tryd.prog 17 #[.slice po a.params.length pc, .slice po' a.params.length pc'] X fun e w' => e = .returned (.bool true) ∧ ∃ nq, w' = X.drewN nq) := Lib.hid (fun X hb => by
        have := same_ints po _ pc a.params po' _ pc' a.params X (hn.below hb) (hn'.below hb)
        rwa [show decide (a.params = a.params) = true by simp] at this)
      have HT : Hid (∀ X, Below wr.heap.size wr X → Calls Tryd.prog 17 #[.slice po' a.params.length pc', .slice po a.params.length pc] X fun e w' => e = .returned (.bool true) ∧ ∃ nq, w' = X.drewN nq) := Lib.hid (fun X hb => by
        have := same_ints po' _ pc' a.params po _ pc a.params X (hn'.below hb) (hn.below hb)
        rwa [show decide (a.params = a.params) = true by simp] at this)
      clear h7 h7' hn hn' hbel HNB
      have hki : (k : Int) < (n : Int) := by omega
      go_wp2_with fail
      go_region_with fail
      all_goals
        go_wp2_with fail
        refine (HS.out _ (by first | exact ((below_two wr _ _).drew) | exact (below_two wr _ _))).mono ?_
        rintro e w2 ⟨rfl, nq, hw2⟩
        have HB2 : Hid (Below wr.heap.size wr w2) := Lib.hid (hw2 ▸ below_drewN (below_two wr _ _).drew nq)
        clear hw2
        go_wp2_with fail
        go_roundg (n - (k + 1))
        case measure => omega
        case rel => exact ⟨k + 1, by go_num, by omega, Nat.le_refl _, Lib.hid (HB.out.trans (HB2.out.mono hs1))⟩
    · obtain rfl : k = n := by omega
      go_wp2_with fail
      go_ret
      exact ⟨rfl, HB.out⟩
end Go.Proofs.YtgkodjkhhmcnnaaDoor
