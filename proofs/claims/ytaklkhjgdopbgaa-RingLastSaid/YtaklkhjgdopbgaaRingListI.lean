/- What Push does to a ring that has the last ones of a list, at the element type int. -/
import Derived.Test.YtaklkhjgdopbgaaRingAllI
namespace Go.Proofs.Ytaklkhjgdopbgaa
namespace rI
open Go.RowKit

theorem push_more (b : Nat) (pv : Value) (M : List Value) (most g0 : Nat) (z : Int) (w : World) (h : Is w b pv (rg.lastOf M most) most (g0 + (M.length - most))) (hlt : M.length < most) :
    Calls Try.prog 11 #[.pointer (some ⟨b, 0, none⟩), (Value.int .i64 z)] w fun e w' => e = .returned (.tuple #[(Value.int .i64 0), .bool false]) ∧ RingTo 63 3 Fm (Value.int .i64 0) w w' b pv (rg.lastOf (M ++ [(Value.int .i64 z)]) most) most (g0 + ((M ++ [(Value.int .i64 z)]).length - most)) := by
  obtain ⟨e1, e2⟩ := rg.lastOf_room (M := M) (Value.int .i64 z) hlt
  rw [e1] at h
  rw [e2, show (M ++ [(Value.int .i64 z)]).length - most = M.length - most by simp; omega]
  exact push_room b pv M most _ z w h hlt

theorem push_over (b : Nat) (pv : Value) (M : List Value) (most g0 : Nat) (z : Int) (w : World) (h : Is w b pv (rg.lastOf M most) most (g0 + (M.length - most))) (hle : most ≤ M.length) (hg : g0 + M.length < 4611686018427387904) :
    Calls Try.prog 11 #[.pointer (some ⟨b, 0, none⟩), (Value.int .i64 z)] w fun e w' => e = .returned (.tuple #[(M ++ [(Value.int .i64 z)]).getD (M.length - most) (Value.int .i64 0), .bool true]) ∧ RingTo 63 3 Fm (Value.int .i64 0) w w' b pv (rg.lastOf (M ++ [(Value.int .i64 z)]) most) most (g0 + ((M ++ [(Value.int .i64 z)]).length - most)) := by
  rw [show g0 + ((M ++ [(Value.int .i64 z)]).length - most) = g0 + (M.length - most) + 1 by simp; omega]
  by_cases h0 : most = 0
  · subst h0
    rw [rg.lastOf_none, rg.getD_none]
    rw [rg.lastOf_none] at h
    exact push_none b pv [] _ z w h (by omega)
  · obtain ⟨e1, e2⟩ := rg.lastOf_full (M := M) (Value.int .i64 z) (Value.int .i64 0) hle (by omega)
    rw [e1, ← e2]
    exact push_full b pv _ most _ z w h (by rw [rg.length_lastOf]; omega) (by omega) (by omega)
end rI
end Go.Proofs.Ytaklkhjgdopbgaa
