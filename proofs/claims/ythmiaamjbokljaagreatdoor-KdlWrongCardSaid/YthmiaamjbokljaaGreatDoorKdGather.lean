/- gather: the nodes that count, each with its depth. -/
import Derived.Test.YthmiaamjbokljaaGreatDoorKdRepeats
namespace Go.Proofs.YthmiaamjbokljaaGreatDoor
open Go.RowKit
/-- bounds of a tree's texts and rows -/
def kd.NodesB : Nat → List kd.Node → Prop
  | 0, _ => True
  | f + 1, ns => ns.length ≤ 4611686018427387904 ∧ ∀ n ∈ ns, kd.NodeB1 n ∧ n.props.length ≤ 4611686018427387904 ∧ kd.NodesB f n.kids
theorem infoPl : (Tryz.prog.info? 68).map (fun i => (i.zero, i.size, i.bytes)) = some (some (Value.agg #[.string ByteArray.empty, .slice none 0 0, .slice none 0 0, .slice none 0 0, .int .i64 0]), 5, 96) := by kernel_rfl
/-- the cells of placed nodes -/
def PlC (w : World) (D : Nat → Prop) : List (kd.Node × Nat) → List Value → Prop
  | [], cs => cs = []
  | p :: r, cs => ∃ c0 c1 c2 c3 rest, cs = c0 :: c1 :: c2 :: c3 :: .int .i64 p.2 :: rest ∧ NodeC w D p.1 [c0, c1, c2, c3] ∧ PlC w D r rest
theorem PlC.keep {w w' : World} {D D' : Nat → Prop} (hk : ∀ k, D k → k < w.heap.size → w'.heap[k]? = w.heap[k]?) (hs : w.heap.size ≤ w'.heap.size) (hd : ∀ k, D k → k < w.heap.size → D' k) : ∀ (l : List (kd.Node × Nat)) (cs : List Value), PlC w D l cs → PlC w' D' l cs
  | [], _, h => h
  | _ :: r, _, ⟨c0, c1, c2, c3, rest, e, h0, h1⟩ => ⟨c0, c1, c2, c3, rest, e, NodeC.keep hk hs hd _ _ h0, PlC.keep hk hs hd r rest h1⟩
theorem PlC.len {w : World} {D : Nat → Prop} : ∀ (l : List (kd.Node × Nat)) (cs : List Value), PlC w D l cs → cs.length = l.length * 5
  | [], cs, h => by rw [show cs = [] from h]; rfl
  | p :: r, cs, ⟨c0, c1, c2, c3, rest, e, h0, h1⟩ => by
    rw [e]
    simp only [List.length_cons, PlC.len r rest h1]
    omega
theorem PlC.snoc {w : World} {D : Nat → Prop} {n : kd.Node} {d : Nat} {c0 c1 c2 c3 : Value} (hn : NodeC w D n [c0, c1, c2, c3]) : ∀ (l : List (kd.Node × Nat)) (cs : List Value), PlC w D l cs → PlC w D (l ++ [(n, d)]) (cs ++ [c0, c1, c2, c3, .int .i64 d])
  | [], cs, h => by rw [show cs = [] from h]; exact ⟨c0, c1, c2, c3, [], rfl, hn, rfl⟩
  | p :: r, cs, ⟨a0, a1, a2, a3, rest, e, h0, h1⟩ => ⟨a0, a1, a2, a3, rest ++ [c0, c1, c2, c3, .int .i64 d], by rw [e]; rfl, h0, PlC.snoc hn r rest h1⟩
theorem PlC.get {w : World} {D : Nat → Prop} : ∀ (l : List (kd.Node × Nat)) (cs : List Value), PlC w D l cs → ∀ (k : Nat) (p : kd.Node × Nat), l[k]? = some p → ∃ c0 c1 c2 c3, NodeC w D p.1 [c0, c1, c2, c3] ∧ cs[k * 5]? = some c0 ∧ cs[k * 5 + 1]? = some c1 ∧ cs[k * 5 + 2]? = some c2 ∧ cs[k * 5 + 3]? = some c3 ∧ cs[k * 5 + 4]? = some (.int .i64 p.2)
  | [], cs, h, k, p, hk => by simp at hk
  | q :: r, cs, ⟨a0, a1, a2, a3, rest, e, h0, h1⟩, 0, p, hk => by
    obtain rfl : q = p := by simpa using hk
    exact ⟨a0, a1, a2, a3, h0, by rw [e]; exact ⟨rfl, rfl, rfl, rfl, rfl⟩⟩
  | q :: r, cs, ⟨a0, a1, a2, a3, rest, e, h0, h1⟩, k + 1, p, hk => by
    obtain ⟨c0, c1, c2, c3, hn, g0, g1, g2, g3, g4⟩ := PlC.get r rest h1 k p (by simpa using hk)
    refine ⟨c0, c1, c2, c3, hn, ?_⟩
    rw [e]
    have h5 : ∀ i, (a0 :: a1 :: a2 :: a3 :: Value.int .i64 q.2 :: rest)[(k + 1) * 5 + i]? = rest[k * 5 + i]? := fun i => by
      rw [show (k + 1) * 5 + i = k * 5 + i + 5 by omega]
      rfl
    exact ⟨(h5 0).trans g0, (h5 1).trans g1, (h5 2).trans g2, (h5 3).trans g3, (h5 4).trans g4⟩
/-- nodes' cells, one by one -/
theorem NodesC.get {w : World} {D : Nat → Prop} : ∀ (l : List kd.Node) (cs : List Value), NodesC w D l cs → ∀ (k : Nat) (n : kd.Node), l[k]? = some n → ∃ c0 c1 c2 c3, NodeC w D n [c0, c1, c2, c3] ∧ cs[k * 4]? = some c0 ∧ cs[k * 4 + 1]? = some c1 ∧ cs[k * 4 + 2]? = some c2 ∧ cs[k * 4 + 3]? = some c3
  | [], cs, h, k, p, hk => by simp at hk
  | q :: r, cs, h, k, p, hk => by
    unfold NodesC at h
    obtain ⟨e0, e1, rfl, h0, h1⟩ := h
    obtain ⟨a0, a1, a2, a3, rfl⟩ : ∃ a0 a1 a2 a3, e0 = [a0, a1, a2, a3] := by
      have := h0.four
      match e0, this with
      | [a0, a1, a2, a3], _ => exact ⟨a0, a1, a2, a3, rfl⟩
    cases k with
    | zero =>
      obtain rfl : q = p := by simpa using hk
      exact ⟨a0, a1, a2, a3, h0, rfl, rfl, rfl, rfl⟩
    | succ k =>
      obtain ⟨c0, c1, c2, c3, hn, g0, g1, g2, g3⟩ := NodesC.get r e1 h1 k p (by simpa using hk)
      refine ⟨c0, c1, c2, c3, hn, ?_⟩
      have h5 : ∀ i, ([a0, a1, a2, a3] ++ e1)[(k + 1) * 4 + i]? = e1[k * 4 + i]? := fun i => by
        rw [show (k + 1) * 4 + i = k * 4 + i + 4 by omega]
        rfl
      exact ⟨(h5 0).trans g0, (h5 1).trans g1, (h5 2).trans g2, (h5 3).trans g3⟩
/-- a node of a row, as a walk reads it -/
theorem NodesIn.node {w : World} {D : Nat → Prop} {o : Option Addr} {n cap : Nat} {ns : List kd.Node} (h : NodesIn w D (.slice o n cap) ns) {k : Nat} (hk : k < ns.length) : ∃ b off c0 c1 c2 c3, o = some ⟨b, off, none⟩ ∧ b < w.heap.size ∧ D b ∧ NodeC w D ns[k] [c0, c1, c2, c3] ∧ w.cell? ⟨b, off + k * 4, none⟩ = some c0 ∧ w.cell? ⟨b, off + k * 4 + 1, none⟩ = some c1 ∧ w.cell? ⟨b, off + k * 4 + 2, none⟩ = some c2 ∧ w.cell? ⟨b, off + k * 4 + 3, none⟩ = some c3 := by
  obtain ⟨kc, ⟨o', cap', e, h1, h2, h3, h4⟩, hn⟩ := h
  obtain ⟨rfl, rfl, rfl⟩ := Value.slice.inj e
  rcases h4 with h0 | ⟨b, off, e1, hD, hlt, hc⟩
  · omega
  · obtain ⟨c0, c1, c2, c3, hnn, g0, g1, g2, g3⟩ := NodesC.get ns kc hn k _ (List.getElem?_eq_getElem hk)
    exact ⟨b, off, c0, c1, c2, c3, e1, hlt, hD, hnn, hc _ _ g0, hc _ _ g1, hc _ _ g2, hc _ _ g3⟩
theorem NodesIn.shape {w : World} {D : Nat → Prop} {o : Option Addr} {n cap : Nat} {ns : List kd.Node} (h : NodesIn w D (.slice o n cap) ns) : n = ns.length ∧ n ≤ cap ∧ cap ≤ 9223372036854775807 := by
  obtain ⟨kc, ⟨o', cap', e, h1, h2, h3, h4⟩, hn⟩ := h
  obtain ⟨rfl, rfl, rfl⟩ := Value.slice.inj e
  exact ⟨rfl, h1, h2⟩
theorem NodeC.kids {w : World} {D : Nat → Prop} {n : kd.Node} {c0 c1 c2 c3 : Value} (h : NodeC w D n [c0, c1, c2, c3]) : NodesIn w D c3 n.kids := by
  obtain ⟨nm, av, ps, ks⟩ := n
  unfold NodeC at h
  obtain ⟨VA, VP, VK, e, ha, hp, kc, hk, hn⟩ := h
  simp only [List.cons.injEq, and_true] at e
  obtain ⟨rfl, rfl, rfl, rfl⟩ := e
  exact ⟨kc, hk, hn⟩
end Go.Proofs.YthmiaamjbokljaaGreatDoor
