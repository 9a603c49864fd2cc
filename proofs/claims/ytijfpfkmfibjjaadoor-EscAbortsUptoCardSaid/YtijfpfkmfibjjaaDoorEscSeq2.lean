/- addText, addInter. -/
import Derived.Test.YtijfpfkmfibjjaaDoorEscSeq
namespace Go.Proofs.YtijfpfkmfibjjaaDoor
open Go.RowKit

theorem addText_any (p : Nat) (s : es.St) (cur : Array Value) (b : UInt8) (w : World) (h : PsAt w p s cur) :
    Calls Tryd.prog 51 #[.pointer (some ⟨p, 5, none⟩), .int .u8 b.toNat] w fun e w' => e = .returned (.tuple #[]) ∧ (∃ cur', PsAt w' p (es.addText s b) cur') ∧ Kept w w' (· = p) := by
  have c0 : w.cell? ⟨p, 283, none⟩ = some (.int .i64 (s.text.length : Nat)) := (h.c 283).trans h.is.len
  have hl := h.is.txtl
  by_cases hc : s.text.length < 256
  · have hs : ∃ cur', PsAt ((w.setCell ⟨p, 27 + s.text.length, none⟩ (.int .u8 b.toNat)).setCell ⟨p, 283, none⟩ (.int .i64 ((s.text.length : Int) + 1))) p (es.addText s b) cur' := by
      unfold es.addText
      rw [if_pos hc]
      exact ⟨_, h.set2 (27 + s.text.length) 283 (.int .u8 b.toNat) (.int .i64 ((s.text.length : Int) + 1)) (h.is.addTxt b hc)⟩
    have hk := ((Kept.refl w (· = p)).setCell (p := ⟨p, 27 + s.text.length, none⟩) (fun _ => rfl) (.int .u8 b.toNat)).setCell (p := ⟨p, 283, none⟩) (fun _ => rfl) (.int .i64 ((s.text.length : Int) + 1))
    have HH := Lib.hid (And.intro hs hk)
    obtain ⟨u, hu⟩ := h.is.txtc s.text.length hc
    have c1 : w.cell? ⟨p, 27 + s.text.length, none⟩ = some (.int .u8 u) := (h.c _).trans hu
    have f1 := h.f (27 + s.text.length)
    have c2 : (w.setCell ⟨p, 27 + s.text.length, none⟩ (.int .u8 b.toNat)).cell? ⟨p, 283, none⟩ = some (.int .i64 (s.text.length : Nat)) := by
      rw [cell_of_heap (heap_setCell_same w p (27 + s.text.length) cur _ _ h.at_), gi _ _ _ _ (by omega)]; exact h.is.len
    have f2 : (w.setCell ⟨p, 27 + s.text.length, none⟩ (.int .u8 b.toNat)).frozen? ⟨p, 283, none⟩ = false := by simp [World.frozen?, heap_setCell_same w p (27 + s.text.length) cur _ _ h.at_]
    clear hs hk hu h
    generalize es.addText s b = s' at *
    generalize s.text.length = l at *
    have hci : (l : Int) < 256 := by omega
    have hc0 : (0 : Int) ≤ (l : Int) := by omega
    have hw1 : IntKind.i64.wrap ((l : Int) + 1) = (l : Int) + 1 := by rw [IntKind.wrap_i64]; omega
    go_enter Tryd.func51, Tryd.ntmps51
    go_wp2_with fail
    go_region
    all_goals go_wp2_with fail
    all_goals go_end0
    all_goals exact ⟨rfl, HH.out.1.imp fun _ h => h.drew, HH.out.2.drew⟩
  · have HH : Hid (PsAt w p (es.addText s b) cur) := Lib.hid (by unfold es.addText; rw [if_neg hc]; exact h)
    clear h
    generalize es.addText s b = s' at *
    generalize s.text.length = l at *
    have hci : decide ((l : Int) < 256) = false := decide_eq_false (by omega)
    go_enter Tryd.func51, Tryd.ntmps51
    go_wp2_with fail
    go_end0
    exact ⟨rfl, ⟨_, HH.out⟩, Kept.refl _ _⟩
theorem str_one (w : World) (b : UInt8) : (convert 34 9 (.slice (some ⟨w.heap.size, 0, none⟩) 1 1)).run Tryd.prog (w.alloc (.cells #[.int .u8 b.toNat] 5)).drew = .ok (.string ⟨#[b]⟩) (w.alloc (.cells #[.int .u8 b.toNat] 5)).drew :=
  run_convert_bytes_back (P := Tryd.prog) (w.alloc (.cells #[.int .u8 b.toNat] 5)).drew 34 9 5 ⟨w.heap.size, 0, none⟩ 1 [b] Tryd.underlying34 Tryd.underlying5 Tryd.underlying9 (fun j hj => by
    obtain rfl : j = 0 := by simpa using hj
    rw [addr_add0]
    exact cell_of_heap (heap_alloc_new w _))
set_option maxRecDepth 100000 in
set_option maxHeartbeats 1600000 in
theorem addInter_any (p : Nat) (s : es.St) (cur : Array Value) (b : UInt8) (w : World) (h : PsAt w p s cur) (hil : s.inter.length ≤ 2) :
    Calls Tryd.prog 44 #[.pointer (some ⟨p, 5, none⟩), .int .u8 b.toNat] w fun e w' => e = .returned (.tuple #[]) ∧ (∃ cur', PsAt w' p (es.addInter s b) cur') ∧ Kept w w' (· = p) := by
  have c0 : w.cell? ⟨p, 8, none⟩ = some (.string ⟨s.inter.toArray⟩) := (h.c 8).trans h.is.inter
  have c1 : w.cell? ⟨p, 5, none⟩ = some (.bool s.spoiled) := (h.c 5).trans h.is.spoiled
  have f0 := h.f 8
  have f1 := h.f 5
  by_cases hc : s.inter.length = 2
  · have hs : ∃ cur', PsAt (w.setCell ⟨p, 5, none⟩ (.bool true)) p (es.addInter s b) cur' := by
      unfold es.addInter
      rw [if_pos hc]
      exact ⟨_, h.set 5 (.bool true) h.is.setSpoiled⟩
    have HH := Lib.hid (And.intro hs ((Kept.refl w (· = p)).setCell (p := ⟨p, 5, none⟩) (fun _ => rfl) (.bool true)))
    clear hs h
    go_enter Tryd.func44, Tryd.ntmps44
    go_wp2_with fail
    refine bodyPost_ret (results_none rfl _ _ _) rfl ?_
    exact ⟨rfl, HH.out.1, HH.out.2⟩
  · have hci : ((s.inter.length : Int) == 2) = false := by simp; omega
    have hp := h.lt
    have kc := str_one w b
    have kb : ¬ 9223372036854775807 < s.inter.length + 1 := by omega
    have kb' : s.inter.length < 9223372036854775807 := by omega
    have HH : Hid ((∃ cur', PsAt ((w.setCell ⟨p, 8, none⟩ (.string (⟨s.inter.toArray⟩ ++ ⟨#[b]⟩))).alloc (.cells #[.int .u8 b.toNat] 5)).drew p (es.addInter s b) cur') ∧ Kept w ((w.setCell ⟨p, 8, none⟩ (.string (⟨s.inter.toArray⟩ ++ ⟨#[b]⟩))).alloc (.cells #[.int .u8 b.toNat] 5)).drew (· = p)) := Lib.hid (by
      refine ⟨?_, (((Kept.refl w (· = p)).setCell (p := ⟨p, 8, none⟩) (fun _ => rfl) _).alloc _).drew⟩
      unfold es.addInter
      rw [if_neg hc, show (ByteArray.mk s.inter.toArray ++ ByteArray.mk #[b]) = ByteArray.mk (s.inter ++ [b]).toArray from ByteArray.mk_append_mk s.inter [b]]
      exact ⟨_, ((h.set 8 _ (h.is.setInter _)).alloc _).drew⟩)
    clear h
    go_enter Tryd.func44, Tryd.ntmps44
    go_wp2_with fail
    go_region_with fail
    all_goals go_wp2_with fail
    all_goals go_end0
    all_goals exact ⟨rfl, HH.out⟩
end Go.Proofs.YtijfpfkmfibjjaaDoor
