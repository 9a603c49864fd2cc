/- esc, str, csi: the acts that a sequence makes. -/
import Derived.Test.YtijfpfkmfibjjaaDoorEscPrints
namespace Go.Proofs.YtijfpfkmfibjjaaDoor
open Go.RowKit

set_option maxRecDepth 100000 in
set_option maxHeartbeats 1600000 in
theorem mkEsc_any (p : Nat) (s : es.St) (cur : Array Value) (b : UInt8) (w : World) (h : PsAt w p s cur) :
    Calls Tryd.prog 47 #[.pointer (some ⟨p, 5, none⟩), .int .u8 b.toNat] w fun e w' => e = .returned (actV (es.esc s b) none 0) ∧ Below w.heap.size w w' := by
  have c8 : w.cell? ⟨p, 8, none⟩ = some (.string ⟨s.inter.toArray⟩) := (h.c 8).trans h.is.inter
  have hp := h.lt
  clear h
  go_enter Tryd.func47, Tryd.ntmps47
  go_wp2_with fail
  refine bodyPost_ret (results_cell_row rfl _ _ w.heap.size 45 _ (0, 0) _ rfl (heap_alloc_new _ _) Tryd.underlying45 rfl (by kernel_rfl)) rfl ?_
  exact ⟨rfl, (Below.refl _ _).alloc (Nat.le_refl _) _⟩
theorem Bts.of_cells {w : World} {p off : Nat} {l : List UInt8} {cap : Nat} (hc : ∀ k, k < l.length → w.cell? ⟨p, off + k, none⟩ = some (.int .u8 (gl.b l k))) :
    (convert 34 9 (.slice (some ⟨p, off, none⟩) l.length cap)).run Tryd.prog w = .ok (.string ⟨l.toArray⟩) w :=
  run_convert_bytes_back (P := Tryd.prog) w 34 9 5 ⟨p, off, none⟩ cap l Tryd.underlying34 Tryd.underlying5 Tryd.underlying9 (fun j hj => by
    rw [show (⟨p, off, none⟩ : Addr).add j = ⟨p, off + j, none⟩ by unfold Addr.add; split <;> simp_all, hc j hj]
    simp [gl.b, List.getD, hj])
set_option maxRecDepth 100000 in
set_option maxHeartbeats 1600000 in
theorem mkStr_any (p : Nat) (s : es.St) (cur : Array Value) (w : World) (h : PsAt w p s cur) :
    Calls Tryd.prog 50 #[.pointer (some ⟨p, 5, none⟩)] w fun e w' => e = .returned (actV (es.str s) none 0) ∧ Below w.heap.size w w' := by
  have c7 : w.cell? ⟨p, 7, none⟩ = some (.int .u8 s.final) := (h.c 7).trans h.is.final
  have c9 : w.cell? ⟨p, 283, none⟩ = some (.int .i64 (s.text.length : Nat)) := (h.c 283).trans h.is.len
  have hp := h.lt
  have hl := h.is.txtl
  have hconv := fun cap X (hb : Below w.heap.size w X) => Bts.of_cells (w := X) (p := p) (off := 27) (l := s.text) (cap := cap) (fun k hk => by rw [hb.cell (p := ⟨p, 27 + k, none⟩) hp]; exact (h.c _).trans (h.is.txt k hk))
  have HC := Lib.hid hconv
  have hb1 : Below w.heap.size w (w.alloc (.cells #[.int .i64 0, .int .i32 0, .int .u8 0, .int .u8 0, .string ⟨#[]⟩, .slice none 0 0, .string ⟨#[]⟩] 45)).drew := ((Below.refl _ _).alloc (Nat.le_refl _) _).drew
  have kc := HC.out 256 _ hb1
  have hl0 : (0 : Int) ≤ (s.text.length : Int) := by omega
  have hl1 : (s.text.length : Int) ≤ 256 := by omega
  clear h hconv hb1
  go_enter Tryd.func50, Tryd.ntmps50
  go_wp2_with fail
  go_region_with fail
  all_goals go_wp2_with fail
  all_goals refine bodyPost_ret (results_cell_row rfl _ _ w.heap.size 45 _ (0, 0) _ rfl (heap_alloc_new w _) Tryd.underlying45 rfl (by kernel_rfl)) rfl ?_
  all_goals exact ⟨rfl, ((Below.refl _ _).alloc (Nat.le_refl _) _).drew⟩
end Go.Proofs.YtijfpfkmfibjjaaDoor
