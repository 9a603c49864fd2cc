/- What is begun of a sequence, and what a byte does with it. -/
import Derived.Test.YtijfpfkmfibjjaaDoorEscMem
import Derived.Deep.OwnRows
namespace Go.Proofs.YtijfpfkmfibjjaaDoor
open Go.RowKit

theorem isText_any (b : UInt8) (w : World) : Calls Tryd.prog 42 #[.int .u8 b.toNat] w fun e w' => e = .returned (.bool (es.isText b)) ∧ w = w' := by
  have hx : es.isText b = (decide ((32 : Int) ≤ (b.toNat : Int)) && !decide ((b.toNat : Int) = 127)) := by unfold es.isText; by_cases h1 : 32 ≤ b.toNat <;> by_cases h2 : b.toNat = 127 <;> simp [h1, h2] <;> omega
  rw [hx]
  generalize b.toNat = x
  by_cases h1 : (32 : Int) ≤ (x : Int)
  · go_enter Tryd.func42, Tryd.ntmps42
    go_wp2
    go_ret
    exact ⟨by simp [h1]; rfl, rfl⟩
  · have h1' : decide ((32 : Int) ≤ (x : Int)) = false := decide_eq_false h1
    go_enter Tryd.func42, Tryd.ntmps42
    go_wp2
    go_ret
    exact ⟨by simp, rfl⟩
theorem set_same {cur : Array Value} {i : Nat} {v : Value} (h : cur[i]? = some v) : cur.setIfInBounds i v = cur := by
  apply Array.ext_getElem?
  intro j
  rw [Array.getElem?_setIfInBounds]
  by_cases e : i = j
  · subst e
    rw [if_pos rfl, if_pos (Array.getElem?_eq_some_iff.1 h).1, h]
  · rw [if_neg e]
theorem PsAt.set {w : World} {p : Nat} {s s' : es.St} {cur : Array Value} (h : PsAt w p s cur) (i : Nat) (v : Value) (hi : PsIs (cur.setIfInBounds i v) s') : PsAt (w.setCell ⟨p, i, none⟩ v) p s' (cur.setIfInBounds i v) :=
  ⟨heap_setCell_same w p i cur _ v h.at_, hi⟩
theorem PsAt.drew {w : World} {p : Nat} {s : es.St} {cur : Array Value} (h : PsAt w p s cur) : PsAt w.drew p s cur := ⟨h.at_, h.is⟩
theorem PsAt.alloc {w : World} {p : Nat} {s : es.St} {cur : Array Value} (h : PsAt w p s cur) (o : Obj) : PsAt (w.alloc o) p s cur := h.below ((Below.refl w.heap.size w).alloc (Nat.le_refl _) o) h.lt
theorem PsAt.drewN {w : World} {p : Nat} {s : es.St} {cur : Array Value} (h : PsAt w p s cur) (n : Nat) : PsAt (w.drewN n) p s cur := ⟨h.at_, h.is⟩
theorem PsAt.set2 {w : World} {p : Nat} {s s' : es.St} {cur : Array Value} (h : PsAt w p s cur) (i j : Nat) (v u : Value) (hi : PsIs ((cur.setIfInBounds i v).setIfInBounds j u) s') : PsAt ((w.setCell ⟨p, i, none⟩ v).setCell ⟨p, j, none⟩ u) p s' ((cur.setIfInBounds i v).setIfInBounds j u) :=
  ⟨heap_setCell_same _ p j _ _ u (heap_setCell_same w p i cur _ v h.at_), hi⟩
theorem PsIs.next {cur : Array Value} {s : es.St} (h : PsIs cur s) (q : Nat) (hq : min ((s.params.length : Int) + 1) 17 = (q : Int) + 1) :
    PsIs ((cur.setIfInBounds 26 (.int .i64 ((q : Int) + 1))).setIfInBounds (9 + q) (.int .i64 (-1))) (es.nextNumber s) := by
  have hl := h.parl
  unfold es.nextNumber
  by_cases hc : s.params.length < 17
  · obtain rfl : q = s.params.length := by omega
    rw [if_pos hc]
    exact h.addPar (-1) hc
  · obtain rfl : q = 16 := by omega
    rw [if_neg hc, set_same (cur := cur) (i := 26) (by rw [h.cnt]; congr 2; omega)]
    exact h.setPar 16 (-1) (by omega)
theorem nextNumber_any (p : Nat) (s : es.St) (cur : Array Value) (w : World) (h : PsAt w p s cur) :
    Calls Tryd.prog 68 #[.pointer (some ⟨p, 5, none⟩)] w fun e w' => e = .returned (.tuple #[]) ∧ (∃ cur', PsAt w' p (es.nextNumber s) cur') ∧ Kept w w' (· = p) := by
  have c0 : w.cell? ⟨p, 26, none⟩ = some (.int .i64 (s.params.length : Nat)) := (h.c 26).trans h.is.cnt
  have f0 := h.f 26
  have hl := h.is.parl
  obtain ⟨q, hq⟩ : ∃ q : Nat, min ((s.params.length : Int) + 1) 17 = (q : Int) + 1 := ⟨min s.params.length 16, by omega⟩
  have hq16 : q ≤ 16 := by omega
  have hqi : (q : Int) < 17 := by omega
  have hq0 : (0 : Int) ≤ (q : Int) := by omega
  obtain ⟨u, cq⟩ := h.is.parc q (by omega)
  have c1 : (w.setCell ⟨p, 26, none⟩ (.int .i64 ((q : Int) + 1))).cell? ⟨p, 9 + q, none⟩ = some (.int .i64 u) := by
    rw [cell_of_heap (heap_setCell_same w p 26 cur _ _ h.at_), gi _ _ _ _ (by omega)]; exact cq
  have f1 : (w.setCell ⟨p, 26, none⟩ (.int .i64 ((q : Int) + 1))).frozen? ⟨p, 9 + q, none⟩ = false := by simp [World.frozen?, heap_setCell_same w p 26 cur _ _ h.at_]
  have hs := h.set2 26 (9 + q) (.int .i64 ((q : Int) + 1)) (.int .i64 (-1)) (h.is.next q hq)
  have hk := ((Kept.refl w (· = p)).setCell (p := ⟨p, 26, none⟩) (fun _ => rfl) (.int .i64 ((q : Int) + 1))).setCell (p := ⟨p, 9 + q, none⟩) (fun _ => rfl) (.int .i64 (-1))
  have hsz := h.is.size
  have HH := Lib.hid (And.intro hs hk)
  have hw1 : IntKind.i64.wrap ((q : Int) + 1 - 1) = (q : Int) := by rw [IntKind.wrap_i64]; omega
  clear h hs hk cq hsz
  go_enter Tryd.func68, Tryd.ntmps68
  go_wp2_with fail
  go_region
  all_goals go_wp2_with fail
  all_goals go_end0
  all_goals exact ⟨rfl, ⟨_, HH.out.1.drew⟩, HH.out.2.drew⟩
end Go.Proofs.YtijfpfkmfibjjaaDoor
