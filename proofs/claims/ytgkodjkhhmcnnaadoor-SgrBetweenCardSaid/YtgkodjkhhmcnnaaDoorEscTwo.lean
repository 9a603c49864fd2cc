/- One parser, two parsers beside each other, as laws meet them. -/
import Derived.Test.YtgkodjkhhmcnnaaDoorEscAlive
import Derived.Test.YtgkodjkhhmcnnaaDoorEscSame2
namespace Go.Proofs.YtgkodjkhhmcnnaaDoor
open Go.RowKit

theorem feed_arg (p : Nat) (s : es.St) (o : Option Addr) (n cap : Nat) (bs : List UInt8) (w W : World) (h : PG W p s) (hx : Bts w o n cap bs) (hb : Below w.heap.size w W) (hp : w.heap.size ≤ p) (hn : n ≤ 137438953472) :
    Calls Tryd.prog 6 #[.pointer (some ⟨p, 0, none⟩), .slice o n cap] W fun e w' => ∃ ro rc, e = .returned (.slice ro (es.feed s bs).2.length rc) ∧ ActsAt w' W.heap.size (.slice ro (es.feed s bs).2.length rc) (es.feed s bs).2 ∧ PG w' p (es.feed s bs).1 ∧ Kept W w' (· = p) := by
  have ho := Off.of hx (Nat.le_refl _)
  exact feed_pg p s o n cap bs W h (hx.below hb) (fun h0 d hd e => by have := ho h0 d hd; omega) hn
/-- a parser of the law's own -/
structure OP (w W : World) (p : Nat) (s : es.St) : Prop where
  ps : PG W p s
  bel : Below w.heap.size w W
  le : w.heap.size ≤ p
theorem OP.start {w w1 : World} (hb : Below w.heap.size w w1) (ht : UTabs w1) : OP w (w1.alloc (.cells Tryd.zeroCells33 33)) w1.heap.size {} :=
  ⟨PG.new ht, hb.alloc hb.size _, hb.size⟩
theorem OP.step {w W W' : World} {p : Nat} {s : es.St} (h : OP w W p s) (hb : Below W.heap.size W W') : OP w W' p s :=
  ⟨h.ps.below hb, h.bel.trans (hb.mono h.bel.size), h.le⟩
theorem OP.fed {w W W' : World} {p : Nat} {s s' : es.St} (h : OP w W p s) (hs : PG W' p s') (hk : Kept W W' (· = p)) : OP w W' p s' :=
  ⟨hs, h.bel.trans (hk.below (B := w.heap.size) h.bel.size (fun k hk => by have := h.le; omega)), h.le⟩
/-- two parsers of the law's own -/
structure TP (w W : World) (p : Nat) (s t : es.St) : Prop where
  ps : PG W p s
  qs : PG W (p + 1) t
  bel : Below w.heap.size w W
  le : w.heap.size ≤ p
theorem TP.start {w w1 : World} (hb : Below w.heap.size w w1) (ht : UTabs w1) : TP w ((w1.alloc (.cells Tryd.zeroCells33 33)).alloc (.cells Tryd.zeroCells33 33)) w1.heap.size {} {} := by
  have h1 := PG.new ht
  have h2 := PG.new (ht.step (below_one w1 (.cells Tryd.zeroCells33 33)))
  have e : (w1.alloc (.cells Tryd.zeroCells33 33)).heap.size = w1.heap.size + 1 := by simp
  rw [e] at h2
  exact ⟨h1.below (below_one _ _), h2, (hb.alloc hb.size _).alloc (by rw [e]; have := hb.size; omega) _, hb.size⟩
theorem TP.step {w W W' : World} {p : Nat} {s t : es.St} (h : TP w W p s t) (hb : Below W.heap.size W W') : TP w W' p s t :=
  ⟨h.ps.below hb, h.qs.below hb, h.bel.trans (hb.mono h.bel.size), h.le⟩
theorem TP.fed1 {w W W' : World} {p : Nat} {s s' t : es.St} (h : TP w W p s t) (hs : PG W' p s') (hk : Kept W W' (· = p)) : TP w W' p s' t :=
  ⟨hs, h.qs.kept hk (by omega) hs.tabs, h.bel.trans (hk.below (B := w.heap.size) h.bel.size (fun k hk => by have := h.le; omega)), h.le⟩
theorem TP.fed2 {w W W' : World} {p : Nat} {s t t' : es.St} (h : TP w W p s t) (hs : PG W' (p + 1) t') (hk : Kept W W' (· = p + 1)) : TP w W' p s t' :=
  ⟨h.ps.kept hk (by omega) hs.tabs, hs, h.bel.trans (hk.below (B := w.heap.size) h.bel.size (fun k hk => by have := h.le; omega)), h.le⟩
theorem TP.size {w W : World} {p : Nat} {s t : es.St} (h : TP w W p s t) : p + 1 < W.heap.size := h.qs.lt
/-- behind 24 a parser is as new -/
theorem es.byte_24 (s : es.St) : (es.byte s 24).1 = {} := by
  unfold es.byte
  have h1 : es.isText 24 = false := by decide
  split
  · unfold es.inEscape; rw [if_pos h1]; rfl
  split
  · unfold es.inControl; rw [if_pos h1]; rfl
  split
  · unfold es.inString; rfl
  split
  · unfold es.inClosing es.inEscape; rw [if_neg (by decide), if_pos h1]; rfl
  · unfold es.inGround; rw [h1]; rfl
theorem es.feed_24 (s : es.St) : (es.feed s [24]).1 = {} := by
  show (es.byte s 24).1 = {}
  exact es.byte_24 s
end Go.Proofs.YtgkodjkhhmcnnaaDoor
