/- command. -/
import Derived.Test.YtijfpfkmfibjjaaDoorEscSeq4
import Derived.Laws.Tables
namespace Go.Proofs.YtijfpfkmfibjjaaDoor
open Go.RowKit

theorem zero_cells : Tryd.zeroCells33 = zeroC := by kernel_rfl
theorem one_cells : zeroC.all (·.oneCell') = true := by decide +kernel
theorem esc_cells : escC.all (·.oneCell') = true := by decide +kernel
theorem run_zero (p : Nat) (s : es.St) (cur : Array Value) (w : World) (h : PsAt w p s cur) :
    (storeCells ⟨p, 0, none⟩ Tryd.zeroCells33.toList).run Tryd.prog w = .ok () (w.setRow p zeroC) := by
  have := run_storeCells_from (P := Tryd.prog) p 33 zeroC.toList 0 cur w h.at_ (by rw [Array.length_toList, zeroC_size, h.is.size]) (fun v hv => (Array.all_eq_true_iff_forall_mem.1 one_cells) v (by simpa using hv))
  rw [zero_cells]
  simpa using this
theorem escC_size : escC.size = 284 := by unfold escC; rw [Array.size_setIfInBounds]; exact zeroC_size
theorem run_esc (p : Nat) (s : es.St) (cur : Array Value) (w : World) (h : PsAt w p s cur) :
    (storeCells ⟨p, 0, none⟩ (Tryd.zeroCells33.toList.set 0 (.int .i64 1))).run Tryd.prog w = .ok () (w.setRow p escC) := by
  have := run_storeCells_from (P := Tryd.prog) p 33 escC.toList 0 cur w h.at_ (by rw [Array.length_toList, escC_size, h.is.size]) (fun v hv => (Array.all_eq_true_iff_forall_mem.1 esc_cells) v (by simpa using hv))
  rw [zero_cells, show zeroC.toList.set 0 (.int .i64 1) = escC.toList by unfold escC; rw [Array.toList_setIfInBounds]]
  simpa using this
theorem row_at {w : World} {p : Nat} {s s' : es.St} {cur c : Array Value} (h : PsAt w p s cur) (hc : PsIs c s') : PsAt (w.setRow p c) p s' c := ⟨setRow_heap w p cur c _ _ h.at_, hc⟩
theorem Kept.setRow {a w : World} {S : Nat → Prop} (h : Kept a w S) {p : Nat} (hp : p < a.heap.size → S p) (c : Array Value) : Kept a (w.setRow p c) S :=
  ⟨h.os, h.tape, h.output, by rw [setRow_size]; exact h.size, fun k hk hn => by rw [setRow_other w p k c (fun e => hn (e ▸ hp (e ▸ hk)))]; exact h.block k hk hn⟩
theorem cmd_try (p : Nat) (s : es.St) (cur : Array Value) (v : Value) (w : World) (h : PsAt w p s cur) :
    Calls Tryd.prog 43 #[.pointer (some ⟨p, 0, none⟩), v, .int .u8 24] w fun e w' => e = .returned v ∧ (∃ cur', PsAt w' p {} cur') ∧ Kept w w' (· = p) := by
  have hz := run_zero p s cur w h
  go_enter Tryd.func43, Tryd.ntmps43
  go_wp2_with fail
  go_ret
  exact ⟨rfl, ⟨_, row_at h zero_is⟩, (Kept.refl w (· = p)).setRow (fun _ => rfl) _⟩
end Go.Proofs.YtijfpfkmfibjjaaDoor
