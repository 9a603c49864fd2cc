/- Where node and list stand. -/
import Derived.Test.YthmiaamjbokljaaGreatDoorKdParts
import Derived.Test.YthmiaamjbokljaaGreatDoorKdSuf
namespace Go.Proofs.YthmiaamjbokljaaGreatDoor
open Go.RowKit
theorem infoNode : (Tryz.prog.info? 39).map (fun i => (i.zero, i.size, i.bytes)) = some (some (Value.agg #[.string ByteArray.empty, .slice none 0 0, .slice none 0 0, .slice none 0 0]), 4, 88) := by kernel_rfl
/-- what lies from B on -/
abbrev Up (B : Nat) : Nat → Prop := fun k => B ≤ k
/-- what list leaves: its answer, the parser, its frame -/
def ListTo (w w' : World) (p e : Nat) (ev : Ending) : kd.Ans (List kd.Node) → Prop
  | .ok R s' => ∃ V, ev = .returned (.tuple #[V, .agg #[.int .i64 0, .int .i64 0]]) ∧ Fr (· = p) w w' ∧ (∃ o cap, PrAt w' p e s' o cap) ∧ NodesIn w' (Up w.heap.size) V R
  | .bad c x _ => ev = .returned (.tuple #[.slice none 0 0, .agg #[.int .i64 c, .int .i64 x]]) ∧ Fr (· = p) w w' ∧ c ≠ 0
def NodeTo (w w' : World) (p e : Nat) (ev : Ending) : kd.Ans kd.Node → Prop
  | .ok n s' => ∃ c0 c1 c2 c3, ev = .returned (.tuple #[.agg #[c0, c1, c2, c3], .agg #[.int .i64 0, .int .i64 0]]) ∧ Fr (· = p) w w' ∧ (∃ o cap, PrAt w' p e s' o cap) ∧ NodeC w' (Up w.heap.size) n [c0, c1, c2, c3]
  | .bad c x _ => ev = .returned (.tuple #[.agg #[str [], .slice none 0 0, .slice none 0 0, .slice none 0 0], .agg #[.int .i64 c, .int .i64 x]]) ∧ Fr (· = p) w w' ∧ c ≠ 0
def KidsTo (w w' : World) (p q e : Nat) (nm : List UInt8) (VA VP : Value) (ev : Ending) : kd.Ans (List kd.Node) → Prop
  | .ok R s' => ev = .returned (.agg #[.int .i64 0, .int .i64 0]) ∧ Fr (fun k => k = p ∨ k = q) w w' ∧ (∃ o cap, PrAt w' p e s' o cap) ∧ ∃ VK, w'.heap[q]? = some (.cells #[str nm, VA, VP, VK] 39 (0, 0)) ∧ NodesIn w' (Up w.heap.size) VK R
  | .bad c x _ => ev = .returned (.agg #[.int .i64 c, .int .i64 x]) ∧ Fr (fun k => k = p ∨ k = q) w w' ∧ c ≠ 0
/-- the contracts, at a given fuel -/
def ListC (f : Nat) : Prop := ∀ (p e d : Nat) (s : kd.Ps) (o : Option Addr) (cap : Nat) (w : World), PrAt w p e s o cap → Lim s 0 → s.begun ≤ 300 → 3 * s.toks.length + 3 ≤ f → d ≤ 13 →
  Calls Tryz.prog 19 #[.pointer (some ⟨p, 0, none⟩), .int .i64 d] w fun ev w' => ListTo w w' p e ev (kd.list e f d s [])
def NodeCt (f : Nat) : Prop := ∀ (p e d : Nat) (s : kd.Ps) (o : Option Addr) (cap : Nat) (w : World), PrAt w p e s o cap → Lim s 0 → s.begun ≤ 300 → 3 * s.toks.length + 2 ≤ f → d ≤ 13 →
  Calls Tryz.prog 38 #[.pointer (some ⟨p, 0, none⟩), .int .i64 d] w fun ev w' => NodeTo w w' p e ev (kd.node e f d s)
def KidsCt (f : Nat) : Prop := ∀ (p q e d : Nat) (nm : List UInt8) (VA VP : Value) (s : kd.Ps) (o : Option Addr) (cap : Nat) (w : World), PrAt w p e s o cap → w.heap[q]? = some (.cells #[str nm, VA, VP, .slice none 0 0] 39 (0, 0)) → p < q → Lim s 0 → s.begun ≤ 300 → 3 * s.toks.length + 1 ≤ f → d ≤ 13 →
  Calls Tryz.prog 71 #[.pointer (some ⟨p, 0, none⟩), .pointer (some ⟨q, 0, none⟩), .int .i64 d] w fun ev w' => KidsTo w w' p q e nm VA VP ev (kd.kids e f d s)
theorem NodesIn.fr {S D : Nat → Prop} {w w' : World} {V : Value} {ns : List kd.Node} (h : NodesIn w D V ns) (hf : Fr S w w') (hS : ∀ k, D k → k < w.heap.size → ¬ S k) : NodesIn w' D V ns :=
  h.keep (fun k hd hk => hf.block k hk (hS k hd hk)) hf.size fun _ hd _ => hd
theorem NodesIn.set {D : Nat → Prop} {w : World} {V : Value} {ns : List kd.Node} (h : NodesIn w D V ns) (a : Addr) (u : Value) (hS : ¬ D a.block) : NodesIn (w.setCell a u) D V ns :=
  h.keep (fun k hd _ => Below.heap_setCell w a u k (fun e => hS (e ▸ hd))) (by simp) fun _ hd _ => hd
theorem NodesIn.wider {D D' : Nat → Prop} {w : World} {V : Value} {ns : List kd.Node} (h : NodesIn w D V ns) (hd : ∀ k, D k → D' k) : NodesIn w D' V ns :=
  h.keep (fun _ _ _ => rfl) (Nat.le_refl _) fun k hk _ => hd k hk
theorem NodesIn.slice {D : Nat → Prop} {w : World} {V : Value} {ns : List kd.Node} (h : NodesIn w D V ns) : ∃ o cap, V = .slice o ns.length cap := by
  obtain ⟨kc, ⟨o, cap, e, -⟩, -⟩ := h
  exact ⟨o, cap, e⟩
structure KA (w wr : World) (p q e : Nat) (nm : List UInt8) (VA VP VK : Value) (s : kd.Ps) (o : Option Addr) (cap : Nat) : Prop where
  pr : PrAt wr p e s o cap
  nd : wr.heap[q]? = some (.cells #[str nm, VA, VP, VK] 39 (0, 0))
  fl : wr.heap[w.heap.size]? = some (.cells #[.int .i64 0, .int .i64 0] 30 (0, 0))
  fr : Fr (fun k => k = p ∨ k = q) w wr
section
variable {w wr wr' : World} {p q e : Nat} {nm : List UInt8} {VA VP VK : Value} {s s' : kd.Ps} {o o' : Option Addr} {cap cap' : Nat}
theorem KA.below (h : KA w wr p q e nm VA VP VK s o cap) (hb : Below wr.heap.size wr wr') : KA w wr' p q e nm VA VP VK s o cap :=
  ⟨h.pr.below hb, (hb.block _ (heap_lt h.nd)).trans h.nd, (hb.block _ (heap_lt h.fl)).trans h.fl, h.fr.below hb⟩
theorem KA.taken (h : KA w wr p q e nm VA VP VK s o cap) (hpq : p < q) (hq : q < w.heap.size) (hp : PrAt wr' p e s' o' cap') (hf : Fr (· = p) wr wr') : KA w wr' p q e nm VA VP VK s' o' cap' :=
  ⟨hp, (hf.block _ (heap_lt h.nd) (show ¬ q = p by omega)).trans h.nd, (hf.block _ (heap_lt h.fl) (show ¬ _ = p by omega)).trans h.fl, h.fr.trans hf fun k _ e => .inl e⟩
theorem KA.failed (h : KA w wr p q e nm VA VP VK s o cap) (hpq : p < q) (hq : q < w.heap.size) (hf : Fr (· = p) wr wr') : wr'.heap[w.heap.size]? = some (.cells #[.int .i64 0, .int .i64 0] 30 (0, 0)) ∧ Fr (fun k => k = p ∨ k = q) w wr' :=
  ⟨(hf.block _ (heap_lt h.fl) (show ¬ _ = p by omega)).trans h.fl, h.fr.trans hf fun k _ e => .inl e⟩
theorem KA.kids (h : KA w wr p q e nm VA VP VK s o cap) (hpq : p < q) (hq : q < w.heap.size) (V : Value) : KA w (wr.setCell ⟨q, 3, none⟩ V) p q e nm VA VP V s o cap :=
  ⟨h.pr.set _ _ hpq, heap_setCell_same wr q 3 _ _ V h.nd, heap_set_other wr _ _ (show w.heap.size ≠ q by omega) h.fl, h.fr.setCell _ _ (.inr (.inr rfl))⟩
/-- the answer's cells, the parser and the node behind them -/
theorem KA.done (h : KA w wr p q e nm VA VP VK s o cap) (hpq : p < q) (hq : q < w.heap.size) (c x : Int) :
    ((wr.setCell ⟨w.heap.size, 0, none⟩ (.int .i64 c)).setCell ⟨w.heap.size, 1, none⟩ (.int .i64 x)).heap[w.heap.size]? = some (.cells #[.int .i64 c, .int .i64 x] 30 (0, 0)) ∧ Fr (fun k => k = p ∨ k = q) w ((wr.setCell ⟨w.heap.size, 0, none⟩ (.int .i64 c)).setCell ⟨w.heap.size, 1, none⟩ (.int .i64 x)) ∧
    PrAt ((wr.setCell ⟨w.heap.size, 0, none⟩ (.int .i64 c)).setCell ⟨w.heap.size, 1, none⟩ (.int .i64 x)) p e s o cap ∧ ((wr.setCell ⟨w.heap.size, 0, none⟩ (.int .i64 c)).setCell ⟨w.heap.size, 1, none⟩ (.int .i64 x)).heap[q]? = some (.cells #[str nm, VA, VP, VK] 39 (0, 0)) := by
  have hs : ∀ k, k ≠ w.heap.size → ((wr.setCell ⟨w.heap.size, 0, none⟩ (.int .i64 c)).setCell ⟨w.heap.size, 1, none⟩ (.int .i64 x)).heap[k]? = wr.heap[k]? := fun k hk => (Below.heap_setCell _ ⟨w.heap.size, 1, none⟩ _ k hk).trans (Below.heap_setCell wr ⟨w.heap.size, 0, none⟩ _ k hk)
  exact ⟨heap_setCell_same _ _ 1 _ _ (.int .i64 x) (heap_setCell_same wr _ 0 _ _ (.int .i64 c) h.fl), (h.fr.setCell _ _ (.inl (Nat.le_refl _))).setCell _ _ (.inl (Nat.le_refl _)), (h.pr.set _ _ (show p < w.heap.size by omega)).set _ _ (show p < w.heap.size by omega), (hs q (by omega)).trans h.nd⟩
end
/-- the answer's cells alone -/
theorem fault_done {S : Nat → Prop} {w wr : World} (hfl : wr.heap[w.heap.size]? = some (.cells #[.int .i64 0, .int .i64 0] 30 (0, 0))) (hfr : Fr S w wr) (c x : Int) :
    ((wr.setCell ⟨w.heap.size, 0, none⟩ (.int .i64 c)).setCell ⟨w.heap.size, 1, none⟩ (.int .i64 x)).heap[w.heap.size]? = some (.cells #[.int .i64 c, .int .i64 x] 30 (0, 0)) ∧ Fr S w ((wr.setCell ⟨w.heap.size, 0, none⟩ (.int .i64 c)).setCell ⟨w.heap.size, 1, none⟩ (.int .i64 x)) :=
  ⟨heap_setCell_same _ _ 1 _ _ (.int .i64 x) (heap_setCell_same wr _ 0 _ _ (.int .i64 c) hfl), (hfr.setCell _ _ (.inl (Nat.le_refl _))).setCell _ _ (.inl (Nat.le_refl _))⟩
theorem fault_cells {w : World} {b : Nat} {a c : Value} (h : w.heap[b]? = some (.cells #[a, c] 30 (0, 0))) : w.cell? ⟨b, 0, none⟩ = some a ∧ w.cell? ⟨b, 1, none⟩ = some c ∧ w.frozen? ⟨b, 0, none⟩ = false ∧ w.frozen? ⟨b, 1, none⟩ = false ∧ b < w.heap.size := by
  refine ⟨(cell_of_heap h).trans rfl, (cell_of_heap h).trans rfl, ?_, ?_, heap_lt h⟩ <;> simp [World.frozen?, h]
theorem Lim.suf {s s' : kd.Ps} {m : Nat} (h : Lim s m) (hs : s'.toks <:+ s.toks) : Lim s' m := ⟨by have := hs.length_le; have := h.few; omega, fun t ht => h.short t (hs.subset ht)⟩
end Go.Proofs.YthmiaamjbokljaaGreatDoor
