/- Where list stands. -/
import Derived.Test.YthmiaamjbokljaaGreatDoorKdNode
namespace Go.Proofs.YthmiaamjbokljaaGreatDoor
open Go.RowKit
/-- the nodes so far: their row, and what they lead to, in blocks of D -/
structure LR (wr : World) (B : Nat) (V : Value) (ns : List kd.Node) : Prop where
  row : ∃ (cs : List Value) (D : Nat → Prop), wr.ownsRow B 39 4 V ns.length cs ∧ NodesC wr D ns cs ∧ ∀ k, D k → B ≤ k ∧ k < wr.heap.size ∧ V.ownBlock ≠ some k
structure LA (w wr : World) (p e : Nat) (V : Value) (ns : List kd.Node) (s : kd.Ps) (o : Option Addr) (cap : Nat) : Prop where
  pr : PrAt wr p e s o cap
  fl : wr.heap[w.heap.size]? = some (.cells #[.int .i64 0, .int .i64 0] 30 (0, 0))
  lr : LR wr (w.heap.size + 1) V ns
  fr : Fr (· = p) w wr
  lt : p < w.heap.size
theorem LR.keep {w w' : World} {B : Nat} {V : Value} {ns : List kd.Node} (h : LR w B V ns) (hk : ∀ k, B ≤ k → k < w.heap.size → w'.heap[k]? = w.heap[k]?) (hs : w.heap.size ≤ w'.heap.size) : LR w' B V ns := by
  obtain ⟨cs, D, h1, h2, h3⟩ := h.row
  exact ⟨cs, D, own_keep h1 (fun g _ hB hg _ _ => hk g hB hg), NodesC.keep (fun k hd hlt => hk k (h3 k hd).1 hlt) hs (fun _ hd _ => hd) _ _ h2, fun k hd => ⟨(h3 k hd).1, Nat.lt_of_lt_of_le (h3 k hd).2.1 hs, (h3 k hd).2.2⟩⟩
section
variable {w wr wr' : World} {p e : Nat} {V : Value} {ns : List kd.Node} {s s' : kd.Ps} {o o' : Option Addr} {cap cap' : Nat}
theorem LA.below (h : LA w wr p e V ns s o cap) (hb : Below wr.heap.size wr wr') : LA w wr' p e V ns s o cap :=
  ⟨h.pr.below hb, (hb.block _ (heap_lt h.fl)).trans h.fl, h.lr.keep (fun k _ hk => hb.block k hk) hb.size, h.fr.below hb, h.lt⟩
theorem LA.taken (h : LA w wr p e V ns s o cap) (hp : PrAt wr' p e s' o' cap') (hf : Fr (· = p) wr wr') : LA w wr' p e V ns s' o' cap' :=
  ⟨hp, (hf.block _ (heap_lt h.fl) (show ¬ _ = p by have := h.lt; omega)).trans h.fl, h.lr.keep (fun k hB hk => hf.block k hk (show ¬ k = p by have := h.lt; omega)) hf.size, h.fr.then hf, h.lt⟩
theorem LA.failed (h : LA w wr p e V ns s o cap) (hf : Fr (· = p) wr wr') : wr'.heap[w.heap.size]? = some (.cells #[.int .i64 0, .int .i64 0] 30 (0, 0)) ∧ Fr (· = p) w wr' :=
  ⟨(hf.block _ (heap_lt h.fl) (show ¬ _ = p by have := h.lt; omega)).trans h.fl, h.fr.then hf⟩
theorem LA.grown {V' : Value} {ns' : List kd.Node} (h : LA w wr p e V ns s o cap) (hg : wr.grownBy wr' V.ownBlock) (hlr : LR wr' (w.heap.size + 1) V' ns') : LA w wr' p e V' ns' s o cap := by
  obtain ⟨cs, D, h1, -, -⟩ := h.lr.row
  have hb : ∀ k, V.ownBlock = some k → w.heap.size + 1 ≤ k := fun k hk => (h1.lt k hk).1
  have hl := h.lt
  exact ⟨h.pr.keep (fun k hk => hg.block k (Nat.lt_of_le_of_lt hk h.pr.lt) (fun e => by have := hb k e.symm; omega)) hg.size, (hg.block _ (heap_lt h.fl) (fun e => by have := hb _ e.symm; omega)).trans h.fl, hlr, h.fr.trans (Fr.of_grown hg) (fun k hk e => by have := hb k e; omega), h.lt⟩
/-- the answer: the nodes behind the stores of the fault -/
theorem LA.done (h : LA w wr p e V ns s o cap) (c x : Int) :
    (setFault wr w.heap.size c x).heap[w.heap.size]? = some (.cells #[.int .i64 c, .int .i64 x] 30 (0, 0)) ∧ Fr (· = p) w (setFault wr w.heap.size c x) ∧ PrAt (setFault wr w.heap.size c x) p e s o cap ∧ NodesIn (setFault wr w.heap.size c x) (Up w.heap.size) V ns := by
  refine ⟨setFault_at h.fl c x, (h.fr.setCell _ _ (.inl (Nat.le_refl _))).setCell _ _ (.inl (Nat.le_refl _)), (h.pr.set _ _ h.lt).set _ _ h.lt, ?_⟩
  obtain ⟨cs, D, h1, h2, h3⟩ := h.lr.row
  have hs : ∀ k, w.heap.size + 1 ≤ k → (setFault wr w.heap.size c x).heap[k]? = wr.heap[k]? := fun k hk => setFault_far _ _ _ _ _ (by omega)
  exact ⟨cs, (RowIn.of_own h1 (NodesC.len _ _ h2) (Up (w.heap.size + 1)) (fun g hg => (h1.lt g hg).1)).keep (fun k hk hlt => hs k hk) (by simp) (fun k hk _ => Nat.le_of_succ_le hk), NodesC.keep (fun k hd _ => hs k (h3 k hd).1) (by simp) (fun k hd _ => by have := (h3 k hd).1; show w.heap.size ≤ k; omega) _ _ h2⟩
end
theorem NodeC.shape {w : World} {D : Nat → Prop} {n : kd.Node} {c0 c1 c2 c3 : Value} (h : NodeC w D n [c0, c1, c2, c3]) : ∃ nm o1 n1 k1 o2 n2 k2 o3 n3 k3, c0 = str nm ∧ c1 = .slice o1 n1 k1 ∧ c2 = .slice o2 n2 k2 ∧ c3 = .slice o3 n3 k3 := by
  obtain ⟨nm, av, ps, ks⟩ := n
  unfold NodeC at h
  obtain ⟨VA, VP, VK, e, ⟨oa, ca, ea, -⟩, ⟨op, cp, ep, -⟩, kc, ⟨ok, ck, ek, -⟩, -⟩ := h
  simp only [List.cons.injEq, and_true] at e
  obtain ⟨rfl, rfl, rfl, rfl⟩ := e
  exact ⟨nm, oa, _, ca, op, _, cp, ok, _, ck, rfl, ea, ep, ek⟩
abbrev nodeO (c0 c1 c2 c3 : Value) : Obj := .cells #[c0, c1, c2, c3] 39
/-- a node more: wn the world when node was called, W behind it, W1 = W and new blocks, w' behind the append -/
theorem LR.snoc {wn W W1 w' : World} {B : Nat} {V : Value} {ns : List kd.Node} (h : LR wn B V ns) {p : Nat} (hp : p < B) (hBn : B ≤ wn.heap.size) (hf : Fr (· = p) wn W) (hb : Below W.heap.size W W1) {n : kd.Node} {c : List Value} (hn : NodeC W (Up wn.heap.size) n c)
    {g cap : Nat} (hown : ∀ cs, W1.ownsRow B 39 4 V ns.length cs → w'.ownsRow B 39 4 (.slice (some ⟨g, 0, none⟩) (ns.length + 1) cap) (ns.length + 1) (cs ++ c)) (hg : W1.grownBy w' V.ownBlock) (hl : V.ownBlock = some g ∨ g = W1.heap.size) : LR w' B (.slice (some ⟨g, 0, none⟩) (ns.length + 1) cap) (ns ++ [n]) := by
  obtain ⟨cs, D, h1, h2, h3⟩ := h.row
  have hWk : ∀ k, k ≠ p → k < wn.heap.size → W1.heap[k]? = wn.heap[k]? := fun k hk hlt => (hb.block k (Nat.lt_of_lt_of_le hlt hf.size)).trans (hf.block k hlt hk)
  have ho : W1.ownsRow B 39 4 V ns.length cs := own_keep h1 fun k _ hB hlt _ _ => hWk k (by omega) hlt
  have hVlt : ∀ k, V.ownBlock = some k → k < wn.heap.size := fun k hk => (h1.lt k hk).2
  refine ⟨cs ++ c, fun k => D k ∨ (wn.heap.size ≤ k ∧ k < W.heap.size), by rw [List.length_append, List.length_singleton]; exact hown cs ho, NodesC.snoc (NodeC.keep (fun k hk hlt => ?_) (Nat.le_trans hb.size hg.size) (fun k hk hlt => .inr ⟨hk, hlt⟩) _ _ hn) _ _ (NodesC.keep (fun k hd hlt => ?_) (Nat.le_trans hf.size (Nat.le_trans hb.size hg.size)) (fun k hd _ => .inl hd) _ _ h2), fun k hk => ?_⟩
  · have hk' : wn.heap.size ≤ k := hk
    exact (hg.block k (Nat.lt_of_lt_of_le hlt hb.size) (fun e => by have := hVlt k e.symm; omega)).trans (hb.block k hlt)
  · have := h3 k hd
    exact (hg.block k (Nat.lt_of_lt_of_le hlt (Nat.le_trans hf.size hb.size)) (fun e => this.2.2 e.symm)).trans (hWk k (by omega) hlt)
  · show _ ∧ _ ∧ some g ≠ some k
    rcases hk with hd | ⟨hd1, hd2⟩
    · have := h3 k hd
      refine ⟨this.1, Nat.lt_of_lt_of_le this.2.1 (Nat.le_trans hf.size (Nat.le_trans hb.size hg.size)), fun e => ?_⟩
      obtain rfl := Option.some.inj e
      rcases hl with hl | hl
      · exact this.2.2 hl
      · have h4 := this.2.1; have h5 := hf.size; have h6 := hb.size; omega
    · refine ⟨?_, Nat.lt_of_lt_of_le hd2 (Nat.le_trans hb.size hg.size), fun e => ?_⟩
      · exact Nat.le_trans hBn hd1
      · obtain rfl := Option.some.inj e
        rcases hl with hl | hl
        · have := hVlt g hl; omega
        · have h6 := hb.size; omega
end Go.Proofs.YthmiaamjbokljaaGreatDoor
