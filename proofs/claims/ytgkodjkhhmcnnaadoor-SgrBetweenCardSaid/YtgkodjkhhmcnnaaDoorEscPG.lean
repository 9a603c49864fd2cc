/- A parser as laws meet it. -/
import Derived.Test.YtgkodjkhhmcnnaaDoorEscLoop
import Derived.Test.YtgkodjkhhmcnnaaDoorEscSame
import Derived.Test.YtgkodjkhhmcnnaaDoorGlLit
namespace Go.Proofs.YtgkodjkhhmcnnaaDoor
open Go.RowKit

/-- a parser in block p, and the tables -/
structure PG (w : World) (p : Nat) (s : es.St) : Prop where
  at_ : ∃ cur, PsAt w p s cur
  good : es.Good s
  tabs : UTabs w
theorem PG.lt {w : World} {p : Nat} {s : es.St} (h : PG w p s) : p < w.heap.size := by obtain ⟨c, h1⟩ := h.at_; exact h1.lt
theorem PG.kept {w w' : World} {p q : Nat} {s : es.St} (h : PG w p s) (hk : Kept w w' (· = q)) (hq : q ≠ p) (ht : UTabs w') : PG w' p s := by
  obtain ⟨c, h1⟩ := h.at_
  exact ⟨⟨c, h1.kept hk (fun e => hq e.symm)⟩, h.good, ht⟩
theorem PG.below {w w' : World} {p : Nat} {s : es.St} (h : PG w p s) (hb : Below w.heap.size w w') : PG w' p s := by
  obtain ⟨c, h1⟩ := h.at_
  exact ⟨⟨c, h1.below hb h1.lt⟩, h.good, h.tabs.step hb⟩
theorem PG.new {w : World} (ht : UTabs w) : PG (w.alloc (.cells Tryd.zeroCells33 33)) w.heap.size {} := by
  rw [zero_cells]
  exact
  ⟨⟨_, ⟨heap_alloc_new _ _, zero_is⟩⟩, es.Good.zero, ht.step (below_one _ _)⟩
theorem ActsAt.base_le {w : World} {B B' : Nat} {v : Value} {l : List es.Act} (h : ActsAt w B v l) (hB : B' ≤ B) : ActsAt w B' v l := by
  obtain ⟨L, h1, h2, h3⟩ := h
  exact ⟨L, h1, own_base h2 hB, fun q hq => ⟨(h3 q hq).nums, fun h0 d hd => ⟨Nat.le_trans hB ((h3 q hq).own h0 d hd).1, ((h3 q hq).own h0 d hd).2⟩⟩⟩
theorem feed_pg (p : Nat) (s : es.St) (o : Option Addr) (n cap : Nat) (bs : List UInt8) (w : World) (h : PG w p s) (hx : Bts w o n cap bs) (hop : n ≠ 0 → ∀ d, o = some d → d.block ≠ p) (hn : n ≤ 137438953472) :
    Calls Tryd.prog 6 #[.pointer (some ⟨p, 0, none⟩), .slice o n cap] w fun e w' => ∃ ro rc, e = .returned (.slice ro (es.feed s bs).2.length rc) ∧ ActsAt w' w.heap.size (.slice ro (es.feed s bs).2.length rc) (es.feed s bs).2 ∧ PG w' p (es.feed s bs).1 ∧ Kept w w' (· = p) := by
  obtain ⟨cur, hc⟩ := h.at_
  have ht := hc.tabs h.tabs
  refine (feedP_any p s cur o n cap bs w hc h.good hx (fun h0 d hd => ⟨hop h0 d hd, ?_⟩) h.tabs hn).mono ?_
  · rcases hx.at_ with h1 | ⟨b, off, h1, h2, _⟩
    · exact absurd h1 h0
    · rw [h1] at hd; cases hd; exact h2
  rintro e w' ⟨V, rfl, h1, h2, h3, h4⟩
  have hk : Kept w w' (· = p) := h4.weaken (fun k hk h => h.resolve_right (by omega))
  obtain ⟨ro, rc, rfl, _⟩ := h1.in_
  refine ⟨ro, rc, rfl, h1, ⟨h2, h3, h.tabs.kept hk (fun e => ht.1 e.symm) (fun e => ht.2 e.symm)⟩, hk⟩
theorem ActsAt.keptP {w w' : World} {B p : Nat} {v : Value} {l : List es.Act} (h : ActsAt w B v l) (hk : Kept w w' (· = p)) (hp : p < B) : ActsAt w' B v l := h.kept hk (fun k hk e => by omega)
theorem PG.idle {w : World} {p : Nat} {s : es.St} (h : PG w p s) : Calls Tryd.prog 9 #[.pointer (some ⟨p, 0, none⟩)] w fun e w' => e = .returned (.bool (es.idle s)) ∧ w = w' := by
  obtain ⟨cur, hc⟩ := h.at_
  exact idle_any p s cur w hc
/-- .. by bytes that are written out -/
theorem feed_pgl (p : Nat) (s : es.St) (bs : List UInt8) (W : World) (n : Nat) (hn : W.heap.size = n) (h : PG W p s) (hl : bs.length ≤ 1000) :
    Calls Tryd.prog 6 #[.pointer (some ⟨p, 0, none⟩), .slice (some ⟨n, 0, none⟩) bs.length bs.length] (W.alloc (litB bs)) fun e w' => ∃ ro rc, e = .returned (.slice ro (es.feed s bs).2.length rc) ∧ ActsAt w' W.heap.size (.slice ro (es.feed s bs).2.length rc) (es.feed s bs).2 ∧ PG w' p (es.feed s bs).1 ∧ Kept W w' (· = p) := by
  have hb := below_one W (litB bs)
  have hp := h.lt
  refine (feed_pg p s _ _ _ bs _ (h.below hb) (bts_new W bs hl n hn) (fun _ d hd => by cases hd; show n ≠ p; omega) (by omega)).mono ?_
  rintro e w' ⟨ro, rc, rfl, h1, h2, h3⟩
  exact ⟨ro, rc, rfl, h1.base_le (by simp), h2, (Kept.of_below hb (· = p)).trans h3 (fun _ _ h => h)⟩
end Go.Proofs.YtgkodjkhhmcnnaaDoor
