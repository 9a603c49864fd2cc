/- slices.Clone of numbers. -/
import Derived.Test.YtijfpfkmfibjjaaDoorEscMake
import Derived.Lib.SliceRun
namespace Go.Proofs.YtijfpfkmfibjjaaDoor
open Go.RowKit

theorem infoI : (Tryd.prog.info? 3).map (fun i => (i.zero, i.size, i.bytes)) = some (some (Value.int .i64 0), 1, 8) := by kernel_rfl
theorem own_empty (w : World) : (w.alloc (.cells #[] 3)).ownsRow w.heap.size 3 1 (.slice (some ⟨w.heap.size, 0, none⟩) 0 0) 0 (cs .i64 []) :=
  ⟨rfl, .inr ⟨w.heap.size, 0, #[], rfl, Nat.le_refl _, heap_alloc_new _ _, Nat.le_refl _, by unfold maxLen; omega, rfl, rfl⟩⟩
set_option maxRecDepth 100000 in
set_option maxHeartbeats 1600000 in
theorem clone_any (p off k cap : Nat) (zs : List Int) (w : World) (hz : Nums .i64 w (some ⟨p, off, none⟩) k cap zs) (hk : k ≤ 17) :
    Calls Tryd.prog 59 #[.slice (some ⟨p, off, none⟩) k cap] w fun e w' => ∃ o c, e = .returned (.slice o k c) ∧ Own w' w.heap.size 3 .i64 o k c zs ∧ Below w.heap.size w w' := by
  obtain ⟨i0, hi, hz0, hz1, hz2⟩ := info_parts infoI
  have hb1 : Below w.heap.size w (w.alloc (.cells #[] 3)) := (Below.refl _ _).alloc (Nat.le_refl _) _
  have HN := Lib.hid (hz.below hb1)
  have HO := Lib.hid (own_empty w)
  have HB := Lib.hid hb1
  have hq := Lib.run_eql_slice_nil (P := Tryd.prog) w 43 3 (some ⟨p, off, none⟩) k cap 0 0 Tryd.underlying43
  clear hz hb1
  go_enter Tryd.func59, Tryd.ntmps59
  go_wp2_with (at_builtin; refine wpList_append_nums (K := .i64) rfl _ _ 43 rfl w.heap.size 3 i0 (Value.int .i64 0) 8 Tryd.underlying43 hi hz0 hz1 hz2 (by decide) rfl (.slice (some ⟨w.heap.size, 0, none⟩) 0 0) 0 [] rfl HO.out (some ⟨p, off, none⟩) k cap zs rfl HN.out (by omega) (by simp) (fun v' w' r1 r2 r3 => ?_); have HR := Lib.hid (And.intro r1 (HB.out.grown r2 (by simp) (fun g hg => by simp [Value.ownBlock] at hg; omega))); clear r1 r2 r3)
  go_ret
  obtain ⟨o, c, rfl, hO⟩ := Own.of (K := .i64) (show _ from HR.out.1)
  rw [Nat.zero_add] at hO ⊢
  exact ⟨o, c, rfl, hO, HR.out.2⟩
end Go.Proofs.YtijfpfkmfibjjaaDoor
