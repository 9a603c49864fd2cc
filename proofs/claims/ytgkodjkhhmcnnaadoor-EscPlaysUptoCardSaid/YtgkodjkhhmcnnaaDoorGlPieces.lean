/- Pieces of bytes. -/
import Derived.Test.YtgkodjkhhmcnnaaDoorGlLit
namespace Go.Proofs.YtgkodjkhhmcnnaaDoor
open Go.RowKit

/-- pieces of bytes among the arguments -/
structure PiecesIn (w : World) (o : Option Addr) (n cap : Nat) : Prop where
  le : n ≤ cap
  max : cap ≤ maxLen
  at_ : ∀ k, k < n → ∃ b off a m c l, o = some ⟨b, off, none⟩ ∧ b < w.heap.size ∧ w.cell? ⟨b, off + k, none⟩ = some (.slice a m c) ∧ Bts w a m c l ∧ m ≤ 1048576
  few : n ≤ 1048576
theorem PiecesIn.below {w w' : World} {o : Option Addr} {n cap : Nat} (h : PiecesIn w o n cap) (hb : Below w.heap.size w w') : PiecesIn w' o n cap :=
  ⟨h.le, h.max, fun k hk => by
    obtain ⟨b, off, a, m, c, l, h1, h2, h3, h4, h5⟩ := h.at_ k hk
    exact ⟨b, off, a, m, c, l, h1, Nat.lt_of_lt_of_le h2 hb.size, (hb.cell (p := ⟨b, off + k, none⟩) h2).trans h3, h4.below hb, h5⟩, h.few⟩
theorem Nums.keptS {K : IntKind} {w w' : World} {o : Option Addr} {n cap : Nat} {zs : List Int} (H : Nums K w o n cap zs) {S : Nat → Prop} (hk : Kept w w' S) (hS : ∀ a, o = some a → ¬ S a.block) : Nums K w' o n cap zs := by
  refine ⟨H.len, H.le, H.max, ?_⟩
  rcases H.at_ with h0 | ⟨b, off, rfl, h2, h3⟩
  · exact .inl h0
  · exact .inr ⟨b, off, rfl, Nat.lt_of_lt_of_le h2 hk.size, fun k hk' => hk.cell (h3 k hk') (show ¬ S b from hS ⟨b, off, none⟩ rfl)⟩
end Go.Proofs.YtgkodjkhhmcnnaaDoor
