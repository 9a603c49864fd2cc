/- What Push does to a ring that has the last ones of a list, at the element type string. -/
import Derived.Test.YtaklkhjgdopbgaaRingAllS
namespace Go.Proofs.Ytaklkhjgdopbgaa
namespace rS
open Go.RowKit

theorem push_more (b : Nat) (pv : Value) (M : List Value) (most g0 : Nat) (z : ByteArray) (w : World) (h : Is w b pv (rg.lastOf M most) most (g0 + (M.length - most))) (hlt : M.length < most) :
    Calls Try.prog 23 #[.pointer (some ⟨b, 0, none⟩), (Value.string z)] w fun e w' => e = .returned (.tuple #[(Value.string ByteArray.empty), .bool false]) ∧ RingTo 68 9 Fm (Value.string ByteArray.empty) w w' b pv (rg.lastOf (M ++ [(Value.string z)]) most) most (g0 + ((M ++ [(Value.string z)]).length - most)) := by
  obtain ⟨e1, e2⟩ := rg.lastOf_room (M := M) (Value.string z) hlt
  rw [e1] at h
  rw [e2, show (M ++ [(Value.string z)]).length - most = M.length - most by simp; omega]
  exact push_room b pv M most _ z w h hlt

theorem push_over (b : Nat) (pv : Value) (M : List Value) (most g0 : Nat) (z : ByteArray) (w : World) (h : Is w b pv (rg.lastOf M most) most (g0 + (M.length - most))) (hle : most ≤ M.length) (hg : g0 + M.length < 4611686018427387904) :
    Calls Try.prog 23 #[.pointer (some ⟨b, 0, none⟩), (Value.string z)] w fun e w' => e = .returned (.tuple #[(M ++ [(Value.string z)]).getD (M.length - most) (Value.string ByteArray.empty), .bool true]) ∧ RingTo 68 9 Fm (Value.string ByteArray.empty) w w' b pv (rg.lastOf (M ++ [(Value.string z)]) most) most (g0 + ((M ++ [(Value.string z)]).length - most)) := by
  rw [show g0 + ((M ++ [(Value.string z)]).length - most) = g0 + (M.length - most) + 1 by simp; omega]
  by_cases h0 : most = 0
  · subst h0
    rw [rg.lastOf_none, rg.getD_none]
    rw [rg.lastOf_none] at h
    exact push_none b pv [] _ z w h (by omega)
  · obtain ⟨e1, e2⟩ := rg.lastOf_full (M := M) (Value.string z) (Value.string ByteArray.empty) hle (by omega)
    rw [e1, ← e2]
    exact push_full b pv _ most _ z w h (by rw [rg.length_lastOf]; omega) (by omega) (by omega)
end rS
end Go.Proofs.Ytaklkhjgdopbgaa
