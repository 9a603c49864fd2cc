/- What Push does to a ring that has the last ones of a list, at the element type []int. -/
import Derived.Test.YtaklkhjgdopbgaaRingAllL
namespace Go.Proofs.Ytaklkhjgdopbgaa
namespace rL
open Go.RowKit

theorem push_more (b : Nat) (pv : Value) (M : List Value) (most g0 : Nat) (zo : Option Addr) (zn zc : Nat) (w : World) (h : Is w b pv (rg.lastOf M most) most (g0 + (M.length - most))) (hlt : M.length < most) :
    Calls Try.prog 29 #[.pointer (some ⟨b, 0, none⟩), (Value.slice zo zn zc)] w fun e w' => e = .returned (.tuple #[(Value.slice none 0 0), .bool false]) ∧ RingTo 71 26 Fm (Value.slice none 0 0) w w' b pv (rg.lastOf (M ++ [(Value.slice zo zn zc)]) most) most (g0 + ((M ++ [(Value.slice zo zn zc)]).length - most)) := by
  obtain ⟨e1, e2⟩ := rg.lastOf_room (M := M) (Value.slice zo zn zc) hlt
  rw [e1] at h
  rw [e2, show (M ++ [(Value.slice zo zn zc)]).length - most = M.length - most by simp; omega]
  exact push_room b pv M most _ zo zn zc w h hlt

theorem push_over (b : Nat) (pv : Value) (M : List Value) (most g0 : Nat) (zo : Option Addr) (zn zc : Nat) (w : World) (h : Is w b pv (rg.lastOf M most) most (g0 + (M.length - most))) (hle : most ≤ M.length) (hg : g0 + M.length < 4611686018427387904) :
    Calls Try.prog 29 #[.pointer (some ⟨b, 0, none⟩), (Value.slice zo zn zc)] w fun e w' => e = .returned (.tuple #[(M ++ [(Value.slice zo zn zc)]).getD (M.length - most) (Value.slice none 0 0), .bool true]) ∧ RingTo 71 26 Fm (Value.slice none 0 0) w w' b pv (rg.lastOf (M ++ [(Value.slice zo zn zc)]) most) most (g0 + ((M ++ [(Value.slice zo zn zc)]).length - most)) := by
  rw [show g0 + ((M ++ [(Value.slice zo zn zc)]).length - most) = g0 + (M.length - most) + 1 by simp; omega]
  by_cases h0 : most = 0
  · subst h0
    rw [rg.lastOf_none, rg.getD_none]
    rw [rg.lastOf_none] at h
    exact push_none b pv [] _ zo zn zc w h (by omega)
  · obtain ⟨e1, e2⟩ := rg.lastOf_full (M := M) (Value.slice zo zn zc) (Value.slice none 0 0) hle (by omega)
    rw [e1, ← e2]
    exact push_full b pv _ most _ zo zn zc w h (by rw [rg.length_lastOf]; omega) (by omega) (by omega)
end rL
end Go.Proofs.Ytaklkhjgdopbgaa
