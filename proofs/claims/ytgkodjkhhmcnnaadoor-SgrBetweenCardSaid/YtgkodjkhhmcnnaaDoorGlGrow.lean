/- slices.Grow of nil, at bytes. -/
import Derived.Test.YtgkodjkhhmcnnaaDoorGlRead
import Derived.Lib.AppendZerosOnto
import Derived.Lib.AppendZeros
namespace Go.Proofs.YtgkodjkhhmcnnaaDoor
open Go.RowKit

theorem own_made {w : World} {B : Nat} (cap : Nat) (cur : Array Value) (hB : B ≤ w.heap.size) (hm : cap ≤ maxLen) (hs : cur.size = cap) (T : TypeId) (K : IntKind) :
    Own (w.alloc (.cells cur T)) B T K (some ⟨w.heap.size, 0, none⟩) 0 cap [] :=
  ⟨World.ownsRow_made w cur cap hB hm (by omega)⟩
set_option maxRecDepth 100000 in
set_option maxHeartbeats 1600000 in
theorem grow_any (m : Nat) (w : World) (hl : m ≤ 4398046511104) :
    Calls Tryd.prog 88 #[.slice none 0 0, .int .i64 m] w fun e w' => ∃ o cap, e = .returned (.slice o 0 cap) ∧ Own w' w.heap.size 5 .u8 o 0 cap [] ∧ Below w.heap.size w w' := by
  by_cases h0 : m = 0
  · subst h0
    go_enter Tryd.func88, Tryd.ntmps88
    go_wp2_with fail
    go_ret
    exact ⟨none, 0, rfl, Own.nil _ _ _ _, Below.refl _ _⟩
  · obtain ⟨i0, hi, hz0, hz1, hz2⟩ := info_parts infoB
    have hm0 : (0 : Int) < (m : Int) := by omega
    have hml : (m : Int) ≤ 4398046511104 := by omega
    have hold : (Builtin.firstCells i0.size 0 (.slice none 0 0)).run Tryd.prog w.drew = .ok ([] : List Value).toArray w.drew := run_firstCells_none w.drew i0.size 0 0 0
    have hrz : ∀ ty, (Builtin.append_ #[34, 3] ty #[.slice none 0 0, .int .i64 m]).run Tryd.prog w = .ok (.slice (some ⟨w.heap.size, 0, none⟩) (0 + m) (grownCap w (0 + m) 0 5)) (w.drew.alloc (.cells (([] : List Value).toArray ++ Builtin.zeroCells (Value.int .u8 0).cells m ++ Builtin.zeroCells (Value.int .u8 0).cells (grownCap w (0 + m) 0 5 - (0 + m))) 5)) := fun ty =>
      Lib.run_append_grow_zeros w 34 3 ty 5 i0 (Value.int .u8 0) .i64 .i64 Tryd.underlying34 Tryd.underlying3 hi hz0 none 0 0 [] hold m (by omega) (by omega) (by omega) (by omega) (by rw [hz2]; omega)
        (by have : (0 + m) * i0.bytes ≤ 140737488355328 := by rw [hz2]; omega
            exact growslice_fits (by omega) this)
    have hGn : 0 + m ≤ grownCap w (0 + m) 0 5 := grownCap_ge w _ _ _
    have hGm := grownCap_le_maxLen w (0 + m) 0 5 (by unfold maxLen; omega)
    have hcs : (([] : List Value).toArray ++ Builtin.zeroCells (Value.int .u8 0).cells m ++ Builtin.zeroCells (Value.int .u8 0).cells (grownCap w (0 + m) 0 5 - (0 + m))).size = grownCap w (0 + m) 0 5 := by
      have hsz : (Value.int .u8 0).cells.size = 1 := rfl
      have hGn' := hGn
      rw [Nat.zero_add] at hGn'
      simp [Builtin.zeroCells, hsz]
      omega
    have hown := own_made (w := w.drew) (B := w.heap.size) (grownCap w (0 + m) 0 5) (([] : List Value).toArray ++ Builtin.zeroCells (Value.int .u8 0).cells m ++ Builtin.zeroCells (Value.int .u8 0).cells (grownCap w (0 + m) 0 5 - (0 + m))) (Nat.le_refl _) hGm hcs 5 .u8
    generalize grownCap w (0 + m) 0 5 = G at *
    have HO := Lib.hid hown
    generalize ([] : List Value).toArray ++ Builtin.zeroCells (Value.int .u8 0).cells m ++ Builtin.zeroCells (Value.int .u8 0).cells (G - (0 + m)) = cells at *
    rw [Nat.zero_add] at hGn hrz
    have hG63 : G ≤ 9223372036854775807 := by unfold maxLen at hGm; omega
    clear hold hown hGm hcs
    go_enter Tryd.func88, Tryd.ntmps88
    go_wp2_with (at_builtin; refine Lib.wpList_append_run _ rfl _ _ _ _ rfl _ _ rfl rfl _ _ (hrz _) ?_)
    go_ret
    exact ⟨_, G, rfl, HO.out, ((Below.refl _ _).alloc (Nat.le_refl _) _).drew⟩
end Go.Proofs.YtgkodjkhhmcnnaaDoor
