/- Frames; rows, values and nodes in memory; the parser in its block. -/
import Derived.Test.YthmiaamjbokljaaGreatDoorKdMath
import Derived.Test.YthmiaamjbokljaaGreatDoorKdTok
import Derived.Maps.OwnOps
import Derived.Maps.Views
import Derived.Maps.AppendAt
namespace Go.Proofs.YthmiaamjbokljaaGreatDoor
open Go.RowKit
/-- what a call may turn: new blocks, and those of S -/
structure Fr (S : Nat → Prop) (w w' : World) : Prop where
  os : w'.os = w.os
  tape : w'.tape = w.tape
  output : w'.output = w.output
  size : w.heap.size ≤ w'.heap.size
  block : ∀ k, k < w.heap.size → ¬ S k → w'.heap[k]? = w.heap[k]?
theorem Fr.refl (S : Nat → Prop) (w : World) : Fr S w w := ⟨rfl, rfl, rfl, Nat.le_refl _, fun _ _ _ => rfl⟩
theorem Fr.of_below {w w' : World} (h : Below w.heap.size w w') (S : Nat → Prop) : Fr S w w' := ⟨h.os, h.tape, h.output, h.size, fun k hk _ => h.block k hk⟩
theorem Fr.trans {S S' : Nat → Prop} {a b c : World} (h : Fr S a b) (g : Fr S' b c) (hs : ∀ k, k < a.heap.size → S' k → S k) : Fr S a c :=
  ⟨g.os.trans h.os, g.tape.trans h.tape, g.output.trans h.output, Nat.le_trans h.size g.size, fun k hk hn => (g.block k (Nat.lt_of_lt_of_le hk h.size) (fun x => hn (hs k hk x))).trans (h.block k hk hn)⟩
theorem Fr.then {S : Nat → Prop} {a b c : World} (h : Fr S a b) (g : Fr S b c) : Fr S a c := h.trans g fun _ _ x => x
theorem Fr.below {S : Nat → Prop} {a b c : World} (h : Fr S a b) (g : Below b.heap.size b c) : Fr S a c := h.then (Fr.of_below g S)
theorem Fr.wider {S S' : Nat → Prop} {a b : World} (h : Fr S a b) (hs : ∀ k, k < a.heap.size → S k → S' k) : Fr S' a b := ⟨h.os, h.tape, h.output, h.size, fun k hk hn => h.block k hk fun x => hn (hs k hk x)⟩
theorem Fr.to_below {S : Nat → Prop} {a b : World} (h : Fr S a b) (B : Nat) (hB : B ≤ a.heap.size) (hs : ∀ k, k < B → ¬ S k) : Below B a b := ⟨h.os, h.tape, h.output, h.size, fun k hk => h.block k (by omega) (hs k hk)⟩
theorem Fr.setCell {S : Nat → Prop} {a b : World} (h : Fr S a b) (x : Addr) (u : Value) (hx : a.heap.size ≤ x.block ∨ S x.block) : Fr S a (b.setCell x u) :=
  ⟨h.os, h.tape, h.output, by simpa using h.size, fun k hk hn => (Below.heap_setCell b x u k (fun e => by subst e; rcases hx with h1 | h1 <;> first | omega | exact hn h1)).trans (h.block k hk hn)⟩
theorem Fr.alloc {S : Nat → Prop} {a b : World} (h : Fr S a b) (o : Obj) : Fr S a (b.alloc o) := h.below (below_one b o)
theorem Fr.of_grown {w w' : World} {row : Option Nat} (h : w.grownBy w' row) : Fr (fun k => row = some k) w w' := ⟨h.os, h.tape, h.output, h.size, fun k hk hn => h.block k hk (fun e => hn e.symm)⟩
theorem cell_of_eq {w w' : World} {b : Nat} (h : w'.heap[b]? = w.heap[b]?) (k : Nat) : w'.cell? ⟨b, k, none⟩ = w.cell? ⟨b, k, none⟩ := by simp [World.cell?, h]
theorem TkIn.keep {w w' : World} {o : Option Addr} {n cap : Nat} {l : List tk.Tok} (h : TkIn w o n cap l) (p : Nat) (hp : ∀ a, o = some a → a.block < p) (hk : ∀ k, k < p → k < w.heap.size → w'.heap[k]? = w.heap[k]?) (hs : w.heap.size ≤ w'.heap.size) : TkIn w' o n cap l :=
  ⟨h.len, h.le, h.max, h.at_.imp id fun ⟨b, off, e, hlt, hc⟩ => ⟨b, off, e, Nat.lt_of_lt_of_le hlt hs, fun k t hkt => by
    obtain ⟨c0, c1, c2, c3⟩ := hc k t hkt
    have hb := hk b (hp _ e) hlt
    exact ⟨(cell_of_eq hb _).trans c0, (cell_of_eq hb _).trans c1, (cell_of_eq hb _).trans c2, (cell_of_eq hb _).trans c3⟩⟩⟩
abbrev tokV (t : tk.Tok) : Value := .agg #[.int .i64 t.kind, str t.text, .int .i64 t.int, .int .i64 t.at_]
/-- the parser in block p; its tokens' row lies below -/
structure PrAt (w : World) (p e : Nat) (s : kd.Ps) (o : Option Addr) (cap : Nat) : Prop where
  blk : w.heap[p]? = some (.cells #[.slice o s.toks.length cap, .int .i64 e, .int .i64 s.begun] 63 (0, 0))
  row : TkIn w o s.toks.length cap s.toks
  low : ∀ a, o = some a → a.block < p
theorem PrAt.lt {w : World} {p e : Nat} {s : kd.Ps} {o : Option Addr} {cap : Nat} (h : PrAt w p e s o cap) : p < w.heap.size := (Array.getElem?_eq_some_iff.1 h.blk).1
theorem PrAt.keep {w w' : World} {p e : Nat} {s : kd.Ps} {o : Option Addr} {cap : Nat} (h : PrAt w p e s o cap) (hk : ∀ k, k ≤ p → w'.heap[k]? = w.heap[k]?) (hs : w.heap.size ≤ w'.heap.size) : PrAt w' p e s o cap :=
  ⟨(hk p (Nat.le_refl _)).trans h.blk, h.row.keep p h.low (fun k hkp _ => hk k (Nat.le_of_lt hkp)) hs, h.low⟩
theorem PrAt.below {w w' : World} {p e : Nat} {s : kd.Ps} {o : Option Addr} {cap : Nat} (h : PrAt w p e s o cap) (hb : Below w.heap.size w w') : PrAt w' p e s o cap :=
  h.keep (fun k hk => hb.block k (Nat.lt_of_le_of_lt hk h.lt)) hb.size
theorem PrAt.fr {S : Nat → Prop} {w w' : World} {p e : Nat} {s : kd.Ps} {o : Option Addr} {cap : Nat} (h : PrAt w p e s o cap) (hf : Fr S w w') (hS : ∀ k, S k → p < k) : PrAt w' p e s o cap :=
  h.keep (fun k hk => hf.block k (Nat.lt_of_le_of_lt hk h.lt) (fun x => by have := hS k x; omega)) hf.size
structure PrC (w : World) (p e : Nat) (s : kd.Ps) (o : Option Addr) (cap : Nat) : Prop where
  c0 : w.cell? ⟨p, 0, none⟩ = some (.slice o s.toks.length cap)
  c1 : w.cell? ⟨p, 1, none⟩ = some (.int .i64 e)
  c2 : w.cell? ⟨p, 2, none⟩ = some (.int .i64 s.begun)
  f0 : w.frozen? ⟨p, 0, none⟩ = false
  f2 : w.frozen? ⟨p, 2, none⟩ = false
  lt : p < w.heap.size
theorem PrAt.cells {w : World} {p e : Nat} {s : kd.Ps} {o : Option Addr} {cap : Nat} (h : PrAt w p e s o cap) : PrC w p e s o cap := by
  have hr := h.blk
  refine ⟨(cell_of_heap hr).trans rfl, (cell_of_heap hr).trans rfl, (cell_of_heap hr).trans rfl, ?_, ?_, h.lt⟩ <;> simp [World.frozen?, hr]
/-- a store into the parser's own block -/
theorem TkIn.setP {w : World} {o : Option Addr} {n cap : Nat} {l : List tk.Tok} (h : TkIn w o n cap l) (p i : Nat) (u : Value) (hp : ∀ a, o = some a → a.block < p) : TkIn (w.setCell ⟨p, i, none⟩ u) o n cap l :=
  h.keep p hp (fun k hk _ => Below.heap_setCell w ⟨p, i, none⟩ u k (by show k ≠ p; omega)) (by simp)
theorem add_block (a : Addr) (n : Nat) : (a.add n).block = a.block := by unfold Addr.add; split <;> rfl
theorem slo_low {o : Option Addr} {p : Nat} (h : ∀ a, o = some a → a.block < p) (cap l : Nat) : ∀ a, slo o cap l = some a → a.block < p := by
  intro a e
  unfold slo at e
  split at e
  · exact h a e
  · cases o with
    | none => cases e
    | some b =>
      obtain rfl := Option.some.inj e
      rw [add_block]
      exact h b rfl
theorem PrAt.take {w : World} {p e : Nat} {s : kd.Ps} {o : Option Addr} {cap : Nat} (h : PrAt w p e s o cap) (l : Nat) (hl : l = min 1 s.toks.length) :
    PrAt (w.setCell ⟨p, 0, none⟩ (.slice (slo o cap l) (s.toks.length - l) (cap - l))) p e (kd.take s) (slo o cap l) (cap - l) := by
  have ht : (kd.take s).toks = s.toks.drop l := by
    show s.toks.tail = _
    cases hs : s.toks with
    | nil => simp
    | cons t r => rw [hs] at hl; simp at hl; subst hl; rfl
  have hn : (kd.take s).toks.length = s.toks.length - l := by rw [ht, List.length_drop]
  refine ⟨?_, ?_, slo_low h.low cap l⟩
  · rw [hn]
    exact heap_setCell_same w p 0 _ _ _ h.blk
  · rw [hn, ht]
    exact (h.row.lo l (by omega)).setP p 0 _ (slo_low h.low cap l)
theorem PrAt.count {w : World} {p e : Nat} {s : kd.Ps} {o : Option Addr} {cap : Nat} (h : PrAt w p e s o cap) (x : Int) (hx : x = (s.begun : Int) + 1) :
    PrAt (w.setCell ⟨p, 2, none⟩ (.int .i64 x)) p e { s with begun := s.begun + 1 } o cap := by
  subst hx
  exact ⟨heap_setCell_same w p 2 _ _ _ h.blk, h.row.setP p 2 _ h.low, h.low⟩
/-- what the front token looks like in memory -/
theorem PrAt.front {w : World} {p e : Nat} {s : kd.Ps} {o : Option Addr} {cap : Nat} (h : PrAt w p e s o cap) {t : tk.Tok} {r : List tk.Tok} (hs : s.toks = t :: r) : ∃ b off, o = some ⟨b, off, none⟩ ∧ b < w.heap.size ∧ w.cell? ⟨b, off, none⟩ = some (.int .i64 t.kind) ∧ w.cell? ⟨b, off + 1, none⟩ = some (str t.text) ∧ w.cell? ⟨b, off + 2, none⟩ = some (.int .i64 t.int) ∧ w.cell? ⟨b, off + 3, none⟩ = some (.int .i64 t.at_) := by
  rcases h.row.at_ with h0 | ⟨b, off, e1, hb, hc⟩
  · rw [hs] at h0; simp at h0
  · obtain ⟨c0, c1, c2, c3⟩ := hc 0 t (by rw [hs]; rfl)
    simp only [Nat.zero_mul, Nat.add_zero] at c0 c1 c2 c3
    exact ⟨b, off, e1, hb, c0, c1, c2, c3⟩
/-- a row of n things of a size, wherever it lies; its block is one of D -/
def RowIn (w : World) (D : Nat → Prop) (V : Value) (size n : Nat) (cs : List Value) : Prop :=
  ∃ o cap, V = .slice o n cap ∧ n ≤ cap ∧ cap ≤ 9223372036854775807 ∧ cs.length = n * size ∧ (n = 0 ∨ ∃ b off, o = some ⟨b, off, none⟩ ∧ D b ∧ b < w.heap.size ∧ ∀ k v, cs[k]? = some v → w.cell? ⟨b, off + k, none⟩ = some v)
theorem RowIn.keep {w w' : World} {D D' : Nat → Prop} {V : Value} {size n : Nat} {cs : List Value} (h : RowIn w D V size n cs) (hk : ∀ k, D k → k < w.heap.size → w'.heap[k]? = w.heap[k]?) (hs : w.heap.size ≤ w'.heap.size) (hd : ∀ k, D k → k < w.heap.size → D' k) : RowIn w' D' V size n cs := by
  obtain ⟨o, cap, e, h1, h2, h3, h4⟩ := h
  refine ⟨o, cap, e, h1, h2, h3, h4.imp id ?_⟩
  rintro ⟨b, off, e1, hb, hlt, hc⟩
  exact ⟨b, off, e1, hd b hb hlt, Nat.lt_of_lt_of_le hlt hs, fun k v hv => (cell_of_eq (hk b hb hlt) _).trans (hc k v hv)⟩
theorem RowIn.nil (w : World) (D : Nat → Prop) (size : Nat) : RowIn w D (.slice none 0 0) size 0 [] := ⟨none, 0, rfl, Nat.le_refl _, by decide, by simp, .inl rfl⟩
theorem RowIn.of_own {w : World} {B : Nat} {e : TypeId} {size : Nat} {V : Value} {n : Nat} {cs : List Value} (h : w.ownsRow B e size V n cs) (hl : cs.length = n * size) (D : Nat → Prop) (hD : ∀ g, V.ownBlock = some g → D g) : RowIn w D V size n cs := by
  rcases h.2 with ⟨rfl, h0⟩ | ⟨g, cap, cur, rfl, hB, hg, hc, hm, hs, ht⟩
  · exact ⟨none, 0, by rw [h0], by omega, by decide, hl, .inl h0⟩
  · refine ⟨_, cap, rfl, hc, hm, hl, .inr ⟨g, 0, rfl, hD g rfl, (Array.getElem?_eq_some_iff.1 hg).1, fun k v hv => ?_⟩⟩
    rw [cell_of_heap hg, ← Array.getElem?_toList, Nat.zero_add]
    have : (cur.toList.take cs.length)[k]? = some v := by rw [hl, ht]; exact hv
    rw [List.getElem?_take] at this
    split at this
    · exact this
    · cases this
def valC (v : kd.Val) : List Value := [.int .i64 v.kind, str v.text, .int .i64 v.int, .bool v.flag]
def prpC (x : kd.Prp) : List Value := str x.name :: valC x.val
def argsC (l : List kd.Val) : List Value := l.flatMap valC
def prpsC (l : List kd.Prp) : List Value := l.flatMap prpC
theorem argsC_snoc (l : List kd.Val) (v : kd.Val) : argsC (l ++ [v]) = argsC l ++ valC v := by simp [argsC]
theorem prpsC_snoc (l : List kd.Prp) (v : kd.Prp) : prpsC (l ++ [v]) = prpsC l ++ prpC v := by simp [prpsC]
theorem argsC_len (l : List kd.Val) : (argsC l).length = l.length * 4 := by
  induction l with
  | nil => rfl
  | cons v l ih => show (valC v ++ argsC l).length = _; rw [List.length_append, ih, List.length_cons]; show 4 + _ = _; omega
theorem prpsC_len (l : List kd.Prp) : (prpsC l).length = l.length * 5 := by
  induction l with
  | nil => rfl
  | cons v l ih => show (prpC v ++ prpsC l).length = _; rw [List.length_append, ih, List.length_cons]; show 5 + _ = _; omega
mutual
def NodeC (w : World) (D : Nat → Prop) : kd.Node → List Value → Prop
  | .mk nm av ps ks, cs => ∃ VA VP VK, cs = [str nm, VA, VP, VK] ∧ RowIn w D VA 4 av.length (argsC av) ∧ RowIn w D VP 5 ps.length (prpsC ps) ∧ ∃ kc, RowIn w D VK 4 ks.length kc ∧ NodesC w D ks kc
def NodesC (w : World) (D : Nat → Prop) : List kd.Node → List Value → Prop
  | [], cs => cs = []
  | n :: r, cs => ∃ c0 c1, cs = c0 ++ c1 ∧ NodeC w D n c0 ∧ NodesC w D r c1
end
def NodesIn (w : World) (D : Nat → Prop) (V : Value) (ns : List kd.Node) : Prop := ∃ kc, RowIn w D V 4 ns.length kc ∧ NodesC w D ns kc
mutual
theorem NodeC.keep {w w' : World} {D D' : Nat → Prop} (hk : ∀ k, D k → k < w.heap.size → w'.heap[k]? = w.heap[k]?) (hs : w.heap.size ≤ w'.heap.size) (hd : ∀ k, D k → k < w.heap.size → D' k) : ∀ (n : kd.Node) (cs : List Value), NodeC w D n cs → NodeC w' D' n cs
  | .mk nm av ps ks, cs, h => by
    unfold NodeC at h ⊢
    obtain ⟨VA, VP, VK, e, ha, hp, kc, hr, hn⟩ := h
    exact ⟨VA, VP, VK, e, ha.keep hk hs hd, hp.keep hk hs hd, kc, hr.keep hk hs hd, NodesC.keep hk hs hd ks kc hn⟩
theorem NodesC.keep {w w' : World} {D D' : Nat → Prop} (hk : ∀ k, D k → k < w.heap.size → w'.heap[k]? = w.heap[k]?) (hs : w.heap.size ≤ w'.heap.size) (hd : ∀ k, D k → k < w.heap.size → D' k) : ∀ (l : List kd.Node) (cs : List Value), NodesC w D l cs → NodesC w' D' l cs
  | [], cs, h => by unfold NodesC at h ⊢; exact h
  | n :: r, cs, h => by
    unfold NodesC at h ⊢
    obtain ⟨c0, c1, e, h0, h1⟩ := h
    exact ⟨c0, c1, e, NodeC.keep hk hs hd n c0 h0, NodesC.keep hk hs hd r c1 h1⟩
end
theorem NodesIn.keep {w w' : World} {D D' : Nat → Prop} {V : Value} {ns : List kd.Node} (h : NodesIn w D V ns) (hk : ∀ k, D k → k < w.heap.size → w'.heap[k]? = w.heap[k]?) (hs : w.heap.size ≤ w'.heap.size) (hd : ∀ k, D k → k < w.heap.size → D' k) : NodesIn w' D' V ns := by
  obtain ⟨kc, h1, h2⟩ := h
  exact ⟨kc, h1.keep hk hs hd, h2.keep hk hs hd⟩
theorem NodesIn.below {w w' : World} {D : Nat → Prop} {V : Value} {ns : List kd.Node} (h : NodesIn w D V ns) (hb : Below w.heap.size w w') : NodesIn w' D V ns :=
  h.keep (fun k _ hk => hb.block k hk) hb.size fun _ h _ => h
theorem NodesC.snoc {w : World} {D : Nat → Prop} {n : kd.Node} {c : List Value} (hn : NodeC w D n c) : ∀ (l : List kd.Node) (cs : List Value), NodesC w D l cs → NodesC w D (l ++ [n]) (cs ++ c)
  | [], cs, h => by
    unfold NodesC at h
    subst h
    show NodesC w D [n] c
    unfold NodesC
    exact ⟨c, [], by simp, hn, by unfold NodesC; rfl⟩
  | m :: r, cs, h => by
    unfold NodesC at h
    obtain ⟨c0, c1, rfl, h0, h1⟩ := h
    show NodesC w D (m :: (r ++ [n])) _
    unfold NodesC
    exact ⟨c0, c1 ++ c, by simp, h0, NodesC.snoc hn r c1 h1⟩
theorem NodeC.four {w : World} {D : Nat → Prop} {n : kd.Node} {c : List Value} (h : NodeC w D n c) : c.length = 4 := by
  obtain ⟨nm, av, ps, ks⟩ := n
  unfold NodeC at h
  obtain ⟨VA, VP, VK, e, -⟩ := h
  rw [e]; rfl
theorem NodesC.len {w : World} {D : Nat → Prop} : ∀ (l : List kd.Node) (cs : List Value), NodesC w D l cs → cs.length = l.length * 4
  | [], cs, h => by unfold NodesC at h; subst h; rfl
  | m :: r, cs, h => by
    unfold NodesC at h
    obtain ⟨c0, c1, rfl, h0, h1⟩ := h
    rw [List.length_append, h0.four, NodesC.len r c1 h1, List.length_cons]
    omega
end Go.Proofs.YthmiaamjbokljaaGreatDoor
