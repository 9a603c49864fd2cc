/- decodeRuneSlow: the rune with which bytes begin, and how many bytes it takes. -/
import Derived.Test.YtgkodjkhhmcnnaaDoorGlFull
namespace Go.Proofs.YtgkodjkhhmcnnaaDoor
open Go.RowKit Go.Lib

set_option maxRecDepth 100000 in
set_option maxHeartbeats 4000000 in
theorem decodeSlow_any (o : Option Addr) (n cap : Nat) (l : List UInt8) (w : World) (hx : Bts w o n cap l) (hn0 : 0 < n) (ht : UTabs w) :
    Calls Tryd.prog 95 #[.slice o n cap] w fun e w' => e = .returned (.tuple #[.int .i32 (gl.dec l).1, .int .i64 (gl.dec l).2]) ∧ Below w.heap.size w w' := by
  have hn := hx.size
  have hdec : gl.dec l = decodeN n (gl.b l 0) (gl.b l 1) (gl.b l 2) (gl.b l 3) := by unfold gl.dec; rw [hn, if_neg (by omega)]
  rw [hdec]
  obtain ⟨b, off, rfl, hb, hk⟩ := hx.byte (by omega)
  have k0 : w.cell? ⟨b, off, none⟩ = some (.int .u8 (gl.b l 0)) := hk 0 (by omega)
  have q1 : 1 < n → w.cell? ⟨b, off + 1, none⟩ = some (.int .u8 (gl.b l 1)) := fun h => hk 1 h
  have q2 : 2 < n → w.cell? ⟨b, off + 2, none⟩ = some (.int .u8 (gl.b l 2)) := fun h => hk 2 h
  have q3 : 3 < n → w.cell? ⟨b, off + 3, none⟩ = some (.int .u8 (gl.b l 3)) := fun h => hk 3 h
  have l0 := gl.b_lt l 0; have l1 := gl.b_lt l 1; have l2 := gl.b_lt l 2; have l3 := gl.b_lt l 3
  have hc0 := ht.1 (gl.b l 0) l0
  have ha := ht.2
  clear hk hx ht hn hdec
  generalize gl.b l 0 = x0 at *
  generalize gl.b l 1 = x1 at *
  generalize gl.b l 2 = x2 at *
  generalize gl.b l 3 = x3 at *
  have hz0 : (0 : Int) < (n : Int) := by omega
  have hz0' : ¬ ((n : Int) < 1) := by omega
  have hres : firstT x0 < 240 → decodeN n x0 x1 x2 x3 = slowN n x0 x1 x2 x3 (firstT x0 % 8) (accLo (firstT x0 / 16)) (accHi (firstT x0 / 16)) :=
    fun h => (Lib.slow_eq _ _ _ _ _ (by omega) (by omega) (by omega) (by omega) h).symm
  rcases Lib.firstT_cases x0 with hX | hX | hX | hX | hX | hX | hX | hX | hX
  · rw [Lib.ascii_eq _ _ _ _ _ hX]
    rw [hX] at hc0
    clear hres ha hX q1 q2 q3
    go_enter Tryd.func95, Tryd.ntmps95
    go_wp2
    rw [Utf8W.mask240, Utf8W.keep_byte ⟨x0, l0⟩]
    go_ret2
    exact ⟨rfl, Below.refl _ _⟩
  · rw [Lib.bad_eq _ _ _ _ _ (by omega) hX]
    rw [hX] at hc0
    clear hres ha hX q1 q2 q3
    go_enter Tryd.func95, Tryd.ntmps95
    go_wp2
    rw [Utf8W.mask241, Utf8W.drop_byte ⟨x0, l0⟩]
    go_ret2
    exact ⟨rfl, Below.refl _ _⟩
  all_goals replace hres := hres (by omega)
  · rw [hX] at hc0 hres
    have ha0 := (ha 0 (by omega)).1
    have ha1 := (ha 0 (by omega)).2
    simp only [accLo, accHi, Nat.reduceMul, Nat.reduceAdd, Nat.reduceEqDiff, if_true, if_false, Nat.reduceMod, Nat.reduceDiv] at ha0 ha1 hres
    rw [hres]
    clear hres ha hX
    by_cases hs : n < 2
    · have hnz : (n : Int) < 2 := by omega
      clear q1 q2 q3
      go_enter Tryd.func95, Tryd.ntmps95
      go_wp2
      all_goals (go_ret2; refine ⟨?_, (Below.refl _ _).alloc (Nat.le_refl _) _⟩; utf8_leaf)
    · have hz1 : (1 : Int) < (n : Int) := by omega
      have k1 := q1 (by omega)
      clear q1 q2 q3
      go_enter Tryd.func95, Tryd.ntmps95
      go_wp2
      all_goals (go_ret2; refine ⟨?_, (Below.refl _ _).alloc (Nat.le_refl _) _⟩; utf8_leaf)
  · rw [hX] at hc0 hres
    have ha0 := (ha 1 (by omega)).1
    have ha1 := (ha 1 (by omega)).2
    simp only [accLo, accHi, Nat.reduceMul, Nat.reduceAdd, Nat.reduceEqDiff, if_true, if_false, Nat.reduceMod, Nat.reduceDiv] at ha0 ha1 hres
    rw [hres]
    clear hres ha hX
    by_cases hs : n < 3
    · have hnz : (n : Int) < 3 := by omega
      clear q1 q2 q3
      go_enter Tryd.func95, Tryd.ntmps95
      go_wp2
      all_goals (go_ret2; refine ⟨?_, (Below.refl _ _).alloc (Nat.le_refl _) _⟩; utf8_leaf)
    · have hz1 : (1 : Int) < (n : Int) := by omega
      have hz2 : (2 : Int) < (n : Int) := by omega
      have k1 := q1 (by omega)
      have k2 := q2 (by omega)
      clear q1 q2 q3
      go_enter Tryd.func95, Tryd.ntmps95
      go_wp2
      all_goals (go_ret2; refine ⟨?_, (Below.refl _ _).alloc (Nat.le_refl _) _⟩; utf8_leaf)
  · rw [hX] at hc0 hres
    have ha0 := (ha 0 (by omega)).1
    have ha1 := (ha 0 (by omega)).2
    simp only [accLo, accHi, Nat.reduceMul, Nat.reduceAdd, Nat.reduceEqDiff, if_true, if_false, Nat.reduceMod, Nat.reduceDiv] at ha0 ha1 hres
    rw [hres]
    clear hres ha hX
    by_cases hs : n < 3
    · have hnz : (n : Int) < 3 := by omega
      clear q1 q2 q3
      go_enter Tryd.func95, Tryd.ntmps95
      go_wp2
      all_goals (go_ret2; refine ⟨?_, (Below.refl _ _).alloc (Nat.le_refl _) _⟩; utf8_leaf)
    · have hz1 : (1 : Int) < (n : Int) := by omega
      have hz2 : (2 : Int) < (n : Int) := by omega
      have k1 := q1 (by omega)
      have k2 := q2 (by omega)
      clear q1 q2 q3
      go_enter Tryd.func95, Tryd.ntmps95
      go_wp2
      all_goals (go_ret2; refine ⟨?_, (Below.refl _ _).alloc (Nat.le_refl _) _⟩; utf8_leaf)
  · rw [hX] at hc0 hres
    have ha0 := (ha 2 (by omega)).1
    have ha1 := (ha 2 (by omega)).2
    simp only [accLo, accHi, Nat.reduceMul, Nat.reduceAdd, Nat.reduceEqDiff, if_true, if_false, Nat.reduceMod, Nat.reduceDiv] at ha0 ha1 hres
    rw [hres]
    clear hres ha hX
    by_cases hs : n < 3
    · have hnz : (n : Int) < 3 := by omega
      clear q1 q2 q3
      go_enter Tryd.func95, Tryd.ntmps95
      go_wp2
      all_goals (go_ret2; refine ⟨?_, (Below.refl _ _).alloc (Nat.le_refl _) _⟩; utf8_leaf)
    · have hz1 : (1 : Int) < (n : Int) := by omega
      have hz2 : (2 : Int) < (n : Int) := by omega
      have k1 := q1 (by omega)
      have k2 := q2 (by omega)
      clear q1 q2 q3
      go_enter Tryd.func95, Tryd.ntmps95
      go_wp2
      all_goals (go_ret2; refine ⟨?_, (Below.refl _ _).alloc (Nat.le_refl _) _⟩; utf8_leaf)
  · rw [hX] at hc0 hres
    have ha0 := (ha 3 (by omega)).1
    have ha1 := (ha 3 (by omega)).2
    simp only [accLo, accHi, Nat.reduceMul, Nat.reduceAdd, Nat.reduceEqDiff, if_true, if_false, Nat.reduceMod, Nat.reduceDiv] at ha0 ha1 hres
    rw [hres]
    clear hres ha hX
    by_cases hs : n < 4
    · have hnz : (n : Int) < 4 := by omega
      clear q1 q2 q3
      go_enter Tryd.func95, Tryd.ntmps95
      go_wp2
      all_goals (go_ret2; refine ⟨?_, (Below.refl _ _).alloc (Nat.le_refl _) _⟩; utf8_leaf)
    · have hz1 : (1 : Int) < (n : Int) := by omega
      have hz2 : (2 : Int) < (n : Int) := by omega
      have hz3 : (3 : Int) < (n : Int) := by omega
      have k1 := q1 (by omega)
      have k2 := q2 (by omega)
      have k3 := q3 (by omega)
      clear q1 q2 q3
      go_enter Tryd.func95, Tryd.ntmps95
      go_wp2
      all_goals (go_ret2; refine ⟨?_, (Below.refl _ _).alloc (Nat.le_refl _) _⟩; utf8_leaf)
  · rw [hX] at hc0 hres
    have ha0 := (ha 0 (by omega)).1
    have ha1 := (ha 0 (by omega)).2
    simp only [accLo, accHi, Nat.reduceMul, Nat.reduceAdd, Nat.reduceEqDiff, if_true, if_false, Nat.reduceMod, Nat.reduceDiv] at ha0 ha1 hres
    rw [hres]
    clear hres ha hX
    by_cases hs : n < 4
    · have hnz : (n : Int) < 4 := by omega
      clear q1 q2 q3
      go_enter Tryd.func95, Tryd.ntmps95
      go_wp2
      all_goals (go_ret2; refine ⟨?_, (Below.refl _ _).alloc (Nat.le_refl _) _⟩; utf8_leaf)
    · have hz1 : (1 : Int) < (n : Int) := by omega
      have hz2 : (2 : Int) < (n : Int) := by omega
      have hz3 : (3 : Int) < (n : Int) := by omega
      have k1 := q1 (by omega)
      have k2 := q2 (by omega)
      have k3 := q3 (by omega)
      clear q1 q2 q3
      go_enter Tryd.func95, Tryd.ntmps95
      go_wp2
      all_goals (go_ret2; refine ⟨?_, (Below.refl _ _).alloc (Nat.le_refl _) _⟩; utf8_leaf)
  · rw [hX] at hc0 hres
    have ha0 := (ha 4 (by omega)).1
    have ha1 := (ha 4 (by omega)).2
    simp only [accLo, accHi, Nat.reduceMul, Nat.reduceAdd, Nat.reduceEqDiff, if_true, if_false, Nat.reduceMod, Nat.reduceDiv] at ha0 ha1 hres
    rw [hres]
    clear hres ha hX
    by_cases hs : n < 4
    · have hnz : (n : Int) < 4 := by omega
      clear q1 q2 q3
      go_enter Tryd.func95, Tryd.ntmps95
      go_wp2
      all_goals (go_ret2; refine ⟨?_, (Below.refl _ _).alloc (Nat.le_refl _) _⟩; utf8_leaf)
    · have hz1 : (1 : Int) < (n : Int) := by omega
      have hz2 : (2 : Int) < (n : Int) := by omega
      have hz3 : (3 : Int) < (n : Int) := by omega
      have k1 := q1 (by omega)
      have k2 := q2 (by omega)
      have k3 := q3 (by omega)
      clear q1 q2 q3
      go_enter Tryd.func95, Tryd.ntmps95
      go_wp2
      all_goals (go_ret2; refine ⟨?_, (Below.refl _ _).alloc (Nat.le_refl _) _⟩; utf8_leaf)
end Go.Proofs.YtgkodjkhhmcnnaaDoor
