/- Rest of a Reader. -/
import Derived.Test.YtgkodjkhhmcnnaaDoorGlRest
namespace Go.Proofs.YtgkodjkhhmcnnaaDoor
open Go.RowKit

/-- no byte waits any more -/
theorem RdAt.none {w : World} {p off : Nat} {l : List UInt8} {cur : Array Value} {t : TypeId} (h : RdAt w p off l cur t) : RdAt (w.setCell ⟨p, off + 3, Option.none⟩ (.int .i64 0)) p off [] (cur.setIfInBounds (off + 3) (.int .i64 0)) t := by
  have hf := h.fits
  refine ⟨heap_setCell_same w p (off + 3) cur t _ h.at_, by simp; omega, by simp, ?_, ?_⟩
  · obtain ⟨q, hq, hl, hc⟩ := h.bytes
    refine ⟨q, hq, by simp, fun k hk => ?_⟩
    rw [Array.getElem?_setIfInBounds, if_neg (by omega)]
    exact hc k hk
  · rw [Array.getElem?_setIfInBounds, if_pos rfl, if_pos (by omega)]
    rfl
set_option maxRecDepth 100000 in
set_option maxHeartbeats 1600000 in
theorem rest_any (p off : Nat) (l : List UInt8) (cur : Array Value) (t : TypeId) (w : World) (hr : RdAt w p off l cur t) :
    Calls Tryd.prog 66 #[.pointer (some ⟨p, off, none⟩)] w fun e w' => ∃ ro rc cur', e = .returned (.slice ro l.length rc) ∧ Own w' w.heap.size 21 .i32 ro l.length rc (List.replicate l.length 65533) ∧ RdAt w' p off [] cur' t ∧ cur'.size = cur.size ∧ (∀ k, k < off ∨ off + 4 ≤ k → cur'[k]? = cur[k]?) ∧ Kept w w' (· = p) := by
  have c3 := hr.n
  have f3 := hr.fr (off + 3)
  have hlt := hr.lt
  have HP := Lib.hid (fun g X (h : X.cell? ⟨g, 0, none⟩ = some (.int .i32 65533)) => repeat_any g l.length X hr.few h)
  have HR := Lib.hid hr
  clear hr
  go_enter Tryd.func66, Tryd.ntmps66
  go_wp2_with fail
  refine (HP.out w.heap.size _ (cell_of_heap (heap_alloc_new w _))).mono ?_
  rintro e w1 ⟨ro, rc, rfl, hown, hb⟩
  have hbl : Below w.heap.size w w1 := ((Below.refl _ _).alloc (Nat.le_refl _) _).trans (hb.mono (by simp))
  have HR1 := Lib.hid (HR.out.below hbl hlt)
  have HO := Lib.hid (hown.base (show w.heap.size ≤ (w.alloc (.cells #[.int .i32 65533] 21)).heap.size by simp))
  have HB := Lib.hid hbl
  have c4 := HR1.out.n
  have f4 := HR1.out.fr (off + 3)
  clear hown hb hbl c3 f3
  go_wp2_with fail
  go_ret
  have hk0 := (Kept.refl w1 (· = p)).setCell (p := ⟨p, off + 3, none⟩) (fun _ => rfl) (.int .i64 0)
  have hf := HR.out.fits
  exact ⟨ro, rc, _, rfl, HO.out.kept hk0 (fun a ha e => by have := (HO.out.lt a ha).1; omega), HR1.out.none, by simp, fun k hk => by rw [Array.getElem?_setIfInBounds, if_neg (by omega)], (Kept.of_below HB.out (· = p)).trans hk0 (fun _ _ h => h)⟩
end Go.Proofs.YtgkodjkhhmcnnaaDoor
