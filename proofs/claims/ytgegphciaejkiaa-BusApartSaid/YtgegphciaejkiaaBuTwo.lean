/- does at any op but Publish; two busses side by side. -/
import Derived.Test.YtgegphciaejkiaaBuDoes6
import Derived.Test.YtgegphciaejkiaaBuG
namespace Go.Proofs.Ytgegphciaejkiaa
open Go.RowKit
namespace bu
def doesS (S : Nat → Slot) (x : Op) : Nat → Slot := if x.kind = 1 then (openR S x.p).2 else if x.kind = 2 then (shutR S x.p).2 else if x.kind = 3 then (subR S x.p x.n x.on).2 else if x.kind = 5 then (sendR S x.p x.e).2 else if x.kind = 6 then (takeR S x.p).2 else S
theorem Good.does {S : Nat → Slot} {m : Int} (h : Good S m) (hm : 0 ≤ m) (x : Op) : Good (doesS S x) (m + 1) := by
  have hl : m ≤ m + 1 := by omega
  unfold doesS
  split
  · exact (h.open _).more hl
  split
  · exact (h.shut hm _).more hl
  split
  · exact (h.sub _ _ _).more hl
  split
  · exact h.send _ _
  split
  · exact (h.take _).more hl
  · exact h.more hl
end bu
theorem does_any (q : Nat) (S : Nat → bu.Slot) (V : Nat → Value) (VM : Value) (x : bu.Op) (w : World) (h : BuAt w q S V) (hm : RowIn w (fun k => ¬ Own q V k) VM 4 4 (rsC fun _ => RSl.zero)) (hk : x.kind ≠ 4) (hn : ∀ i, i < 4 → (S i).queue.length ≤ 16) (hd : ∀ i, i < 4 → 0 ≤ (S i).dropped ∧ (S i).dropped < 9223372036854775807) : Calls Try.prog 10 #[.pointer (some ⟨q, 0, none⟩), .agg #[VM], opV x] w fun e w' => (∃ v b, e = .returned (.tuple #[v, .bool b])) ∧ BuR q V w w' (bu.doesS S x) := by
  obtain ⟨o, cap, rfl, -⟩ := id hm
  unfold bu.doesS
  by_cases h1 : x.kind = 1
  · rw [if_pos h1]
    exact (does1_any q S V o _ cap x w h hm h1).mono fun e w' ⟨v, b, a, r⟩ => ⟨⟨v, b, a⟩, r⟩
  rw [if_neg h1]
  by_cases h2 : x.kind = 2
  · rw [if_pos h2]
    exact (does2_any q S V o _ cap x w h hm h2).mono fun e w' ⟨v, b, a, r⟩ => ⟨⟨v, b, a⟩, r⟩
  rw [if_neg h2]
  by_cases h3 : x.kind = 3
  · rw [if_pos h3]
    exact (does3_any q S V o _ cap x w h hm h3).mono fun e w' ⟨v, b, a, r⟩ => ⟨⟨v, b, a⟩, r⟩
  rw [if_neg h3]
  by_cases h5 : x.kind = 5
  · rw [if_pos h5]
    exact (does5_any q S V o _ cap x w h hm h5 hn hd).mono fun e w' ⟨v, b, a, r⟩ => ⟨⟨v, b, a⟩, r⟩
  rw [if_neg h5]
  by_cases h6 : x.kind = 6
  · rw [if_pos h6]
    exact (does6_any q S V o _ cap x w h hm h6 hn).mono fun e w' ⟨v, b, a, r⟩ => ⟨⟨v, b, a⟩, r⟩
  rw [if_neg h6]
  exact (does0_any q S V o _ cap x w h hm ⟨h1, h2, h3, hk, h5, h6⟩).mono fun e w' ⟨v, b, a, r⟩ => ⟨⟨v, b, a⟩, r⟩
/-- two busses -/
structure B2 (B : Nat) (w0 : World) (q1 q2 : Nat) (K : List (Nat × Obj)) (S1 S2 : Nat → bu.Slot) (m : Int) (w : World) : Prop where
  at_ : ∃ V1 V2, BuAt w q1 S1 V1 ∧ BuAt w q2 S2 V2 ∧ (∀ y, Own q1 V1 y → ¬ Own q2 V2 y) ∧ ∀ x, x ∈ K → w.heap[x.1]? = some x.2 ∧ ¬ Own q1 V1 x.1 ∧ ¬ Own q2 V2 x.1
  low1 : B ≤ q1
  low2 : B ≤ q2
  bel : Below B w0 w
  good1 : bu.Good S1 m
  good2 : bu.Good S2 m
  pos : 0 ≤ m
section two
variable {B : Nat} {w0 w : World} {q1 q2 : Nat} {K : List (Nat × Obj)} {S1 S2 : Nat → bu.Slot} {m : Int}
theorem B2.symm (g : B2 B w0 q1 q2 K S1 S2 m w) : B2 B w0 q2 q1 K S2 S1 m w := by
  obtain ⟨V1, V2, h1, h2, hd, hx⟩ := g.at_
  exact ⟨⟨V2, V1, h2, h1, fun y a b => hd y b a, fun x h => ⟨(hx x h).1, (hx x h).2.2, (hx x h).2.1⟩⟩, g.low2, g.low1, g.bel, g.good2, g.good1, g.pos⟩
theorem B2.lt (g : B2 B w0 q1 q2 K S1 S2 m w) : B ≤ w.heap.size := by
  obtain ⟨V1, V2, h1, h2, hd, hx⟩ := g.at_
  have := h1.lt
  have := g.low1
  omega
theorem B2.below {w' : World} (g : B2 B w0 q1 q2 K S1 S2 m w) (hb : Below w.heap.size w w') : B2 B w0 q1 q2 K S1 S2 m w' := by
  have hl := g.lt
  obtain ⟨V1, V2, h1, h2, hd, hx⟩ := g.at_
  exact ⟨⟨V1, V2, h1.below hb, h2.below hb, hd, fun x h => ⟨(hb.block _ (heap_lt (hx x h).1)).trans (hx x h).1, (hx x h).2⟩⟩, g.low1, g.low2, g.bel.trans (hb.mono hl), g.good1, g.good2, g.pos⟩
theorem B2.one {w' : World} {V1 V2 : Nat → Value} {S1' : Nat → bu.Slot} {m' : Int} (g : B2 B w0 q1 q2 K S1 S2 m w) (h1 : BuAt w q1 S1 V1) (h2 : BuAt w q2 S2 V2) (hd : ∀ y, Own q1 V1 y → ¬ Own q2 V2 y) (hx : ∀ x, x ∈ K → w.heap[x.1]? = some x.2 ∧ ¬ Own q1 V1 x.1 ∧ ¬ Own q2 V2 x.1) (r : BuR q1 V1 w w' S1') (hg : bu.Good S1' m') (hm : m ≤ m') : B2 B w0 q1 q2 K S1' S2 m' w' := by
  have hl := g.lt
  have hlow := g.low1
  obtain ⟨V', h', f, hs⟩ := r
  refine ⟨⟨V', V2, h', h2.keep fun y hy => f.block y (h2.own_lt hy).2 (fun z => hd y z hy), fun y hy z => ?_, fun x h => ⟨(f.block _ (heap_lt (hx x h).1) (hx x h).2.1).trans (hx x h).1, fun y => ?_, (hx x h).2.2⟩⟩, g.low1, g.low2, g.bel.trans (f.to_below B hl fun k hk z => by have := (h1.own_lt z).1; omega), hg, g.good2.more hm, by have := g.pos; omega⟩
  · rcases hs y hy with a | a
    · exact hd y a z
    · have := (h2.own_lt z).2
      omega
  · rcases hs _ y with a | a
    · exact (hx x h).2.1 a
    · have := heap_lt (hx x h).1
      omega
theorem b2_one {f : FuncId} {args : Array Value} {P : Ending → Prop} {S1' : Nat → bu.Slot} {m' : Int} (g : B2 B w0 q1 q2 K S1 S2 m w) (hg : bu.Good S1' m') (hm : m ≤ m') (hc : ∀ V, BuAt w q1 S1 V → Calls Try.prog f args w fun e w' => P e ∧ BuR q1 V w w' S1') : Calls Try.prog f args w fun e w' => P e ∧ B2 B w0 q1 q2 K S1' S2 m' w' := by
  obtain ⟨V1, V2, h1, h2, hd, hx⟩ := g.at_
  exact (hc V1 h1).mono fun e w' ⟨a, r⟩ => ⟨a, g.one h1 h2 hd hx r hg hm⟩
theorem does_one (g : B2 B w0 q1 q2 K S1 S2 m w) (hm : m < 9223372036854775807) {w1 : World} (hb : Below w.heap.size w w1) (VM : Value) (hv : RowIn w1 (fun k => w.heap.size ≤ k) VM 4 4 (rsC fun _ => RSl.zero)) (x : bu.Op) (hk : x.kind ≠ 4) : Calls Try.prog 10 #[.pointer (some ⟨q1, 0, none⟩), .agg #[VM], opV x] w1 fun e w' => (∃ v b, e = .returned (.tuple #[v, .bool b])) ∧ B2 B w0 q1 q2 K (bu.doesS S1 x) S2 (m + 1) w' := by
  obtain ⟨V1, V2, h1, h2, hd, hx⟩ := g.at_
  have g1 := g.below hb
  exact (does_any q1 S1 V1 VM x w1 (h1.below hb) (RowIn.wide hv fun k hk _ z => by have := (h1.own_lt z).2; omega) hk (fun i hi => (g.good1 i hi).1) (fun i hi => ⟨(g.good1 i hi).2.1, by have := (g.good1 i hi).2.2; omega⟩)).mono fun e w' ⟨a, r⟩ => ⟨a, g1.one (h1.below hb) (h2.below hb) hd (fun x h => ⟨(hb.block _ (heap_lt (hx x h).1)).trans (hx x h).1, (hx x h).2⟩) r (g.good1.does g.pos x) (by omega)⟩
theorem B2.box (g : B2 B w0 q1 q2 K S1 S2 m w) (o : Obj) : B2 B w0 q1 q2 ((w.heap.size, o) :: K) S1 S2 m (w.alloc o) := by
  have g' := g.below (below_one w o)
  obtain ⟨V1, V2, h1, h2, hd, hx⟩ := g.at_
  refine ⟨⟨V1, V2, h1.below (below_one w o), h2.below (below_one w o), hd, fun x h => ?_⟩, g'.low1, g'.low2, g'.bel, g'.good1, g'.good2, g'.pos⟩
  rcases List.mem_cons.1 h with rfl | h
  · exact ⟨heap_alloc_new w o, fun y => Nat.lt_irrefl _ (h1.own_lt y).2, fun y => Nat.lt_irrefl _ (h2.own_lt y).2⟩
  · exact ⟨((below_one w o).block _ (heap_lt (hx x h).1)).trans (hx x h).1, (hx x h).2⟩
theorem B2.drop (g : B2 B w0 q1 q2 K S1 S2 m w) : B2 B w0 q1 q2 [] S1 S2 m w := by
  obtain ⟨V1, V2, h1, h2, hd, hx⟩ := g.at_
  exact ⟨⟨V1, V2, h1, h2, hd, fun _ h => by cases h⟩, g.low1, g.low2, g.bel, g.good1, g.good2, g.pos⟩
theorem B2.here {k : Nat} {o : Obj} (g : B2 B w0 q1 q2 ((k, o) :: K) S1 S2 m w) : w.heap[k]? = some o := by
  obtain ⟨V1, V2, h1, h2, hd, hx⟩ := g.at_
  exact (hx (k, o) (List.mem_cons_self ..)).1
end two
end Go.Proofs.Ytgegphciaejkiaa
