/- A ring in memory, and what its calls may touch: blocks, frames, owned rows (over no program). -/
import Derived.Test.YtaklkhjgdopbgaaRingMath
import Derived.WalkKit
import Derived.Lib.Hide
import Derived.Laws.OwnMore
import Derived.ArgAppend
import Derived.Deep.QuietTactic
namespace Go.Proofs.Ytaklkhjgdopbgaa
open Go.RowKit

/-- w' is w but for new blocks, and for those that S names -/
structure Kept (w w' : World) (S : Nat → Prop) : Prop where
  os : w'.os = w.os
  tape : w'.tape = w.tape
  output : w'.output = w.output
  size : w.heap.size ≤ w'.heap.size
  block : ∀ k, k < w.heap.size → ¬ S k → w'.heap[k]? = w.heap[k]?
theorem Kept.refl (w : World) (S : Nat → Prop) : Kept w w S := ⟨rfl, rfl, rfl, Nat.le_refl _, fun _ _ _ => rfl⟩
theorem Kept.trans {a b c : World} {S S' : Nat → Prop} (h : Kept a b S) (k : Kept b c S') (hs : ∀ k, k < a.heap.size → S' k → S k) : Kept a c S :=
  ⟨k.os.trans h.os, k.tape.trans h.tape, k.output.trans h.output, Nat.le_trans h.size k.size, fun i hi hn => (k.block i (Nat.lt_of_lt_of_le hi h.size) (fun h' => hn (hs i hi h'))).trans (h.block i hi hn)⟩
theorem Kept.alloc {a w : World} {S : Nat → Prop} (h : Kept a w S) (o : Obj) : Kept a (w.alloc o) S :=
  ⟨h.os, h.tape, h.output, by simp; have := h.size; omega, fun k hk hn => (Below.heap_alloc w o k (Nat.lt_of_lt_of_le hk h.size)).trans (h.block k hk hn)⟩
theorem Kept.setCell {a w : World} {S : Nat → Prop} (h : Kept a w S) {p : Addr} (hp : p.block < a.heap.size → S p.block) (u : Value) : Kept a (w.setCell p u) S :=
  ⟨h.os, h.tape, h.output, by simpa using h.size, fun k hk hn => (Below.heap_setCell w p u k (fun e => hn (by subst e; exact hp hk))).trans (h.block k hk hn)⟩
theorem Kept.grown {a w w' : World} {S : Nat → Prop} {row : Option Nat} (h : Kept a w S) (hg : w.grownBy w' row) (hr : ∀ k, row = some k → k < a.heap.size → S k) : Kept a w' S :=
  ⟨hg.os.trans h.os, hg.tape.trans h.tape, hg.output.trans h.output, Nat.le_trans h.size hg.size, fun k hk hn => (hg.block k (Nat.lt_of_lt_of_le hk h.size) (fun e => hn (hr k e.symm hk))).trans (h.block k hk hn)⟩
theorem Kept.drew {a w : World} {S : Nat → Prop} (h : Kept a w S) : Kept a w.drew S := ⟨h.os, h.tape, h.output, h.size, h.block⟩
theorem Kept.below {w w' : World} {S : Nat → Prop} {B : Nat} (h : Kept w w' S) (hB : B ≤ w.heap.size) (hS : ∀ k, S k → B ≤ k) : Below B w w' :=
  ⟨h.os, h.tape, h.output, h.size, fun k hk => h.block k (Nat.lt_of_lt_of_le hk hB) (fun hs => by have := hS k hs; omega)⟩
theorem Kept.of_below {w w' : World} (h : Below w.heap.size w w') (S : Nat → Prop) : Kept w w' S := ⟨h.os, h.tape, h.output, h.size, fun k hk _ => h.block k hk⟩
theorem Kept.weaken {w w' : World} {S S' : Nat → Prop} (h : Kept w w' S) (hs : ∀ k, k < w.heap.size → S k → S' k) : Kept w w' S' := ⟨h.os, h.tape, h.output, h.size, fun k hk hn => h.block k hk (fun h' => hn (hs k hk h'))⟩
theorem Kept.same {w w' : World} {S : Nat → Prop} (h : Kept w w' S) {k : Nat} {o : Obj} (hk : w.heap[k]? = some o) (hn : ¬ S k) : w'.heap[k]? = some o := (h.block k (Array.getElem?_eq_some_iff.1 hk).1 hn).trans hk
theorem Kept.row {w w' : World} {S : Nat → Prop} (h : Kept w w' S) {base : Nat} {e : TypeId} {size : Nat} {v : Value} {n : Nat} {xs : List Value} (ho : w.ownsRow base e size v n xs) (hn : ∀ k, v.ownBlock = some k → ¬ S k) : w'.ownsRow base e size v n xs := by
  refine ⟨ho.1, ?_⟩
  rcases ho.2 with h' | ⟨g, cap, cur, rfl, hb, hgg, rest⟩
  · exact .inl h'
  · exact .inr ⟨g, cap, cur, rfl, hb, h.same hgg (hn g rfl), rest⟩
theorem Kept.cell {w w' : World} {S : Nat → Prop} (h : Kept w w' S) {a : Addr} {v : Value} (hc : w.cell? a = some v) (hn : ¬ S a.block) : w'.cell? a = some v :=
  (World.cell?_of_block (h.block a.block (World.block_lt_of_cell? w a hc) hn)).trans hc

/-- a ring's block -/
abbrev ringObj (T : TypeId) (pv : Value) (first n most gone : Nat) : Obj := .cells #[pv, .int .i64 first, .int .i64 n, .int .i64 most, .int .i64 gone] T (0, 0)
/-- a ring in block b: its places pv, that own ps -/
structure RingAt (T E : TypeId) (F : Value → Prop) (w : World) (b : Nat) (pv : Value) (ps : List Value) (first n most gone : Nat) : Prop where
  blk : w.heap[b]? = some (ringObj T pv first n most gone)
  own : w.ownsRow (b + 1) E 1 pv ps.length ps
  el : ∀ u ∈ ps, F u
  fit : rg.Fit ps.length first n most

/-- what the walk reads of a ring's block -/
structure RingCells (w : World) (b : Nat) (pv : Value) (first n most gone : Nat) : Prop where
  c0 : w.cell? ⟨b, 0, none⟩ = some pv
  c1 : w.cell? ⟨b, 1, none⟩ = some (.int .i64 first)
  c2 : w.cell? ⟨b, 2, none⟩ = some (.int .i64 n)
  c3 : w.cell? ⟨b, 3, none⟩ = some (.int .i64 most)
  c4 : w.cell? ⟨b, 4, none⟩ = some (.int .i64 gone)
  f0 : w.frozen? ⟨b, 0, none⟩ = false
  f1 : w.frozen? ⟨b, 1, none⟩ = false
  f2 : w.frozen? ⟨b, 2, none⟩ = false
  f3 : w.frozen? ⟨b, 3, none⟩ = false
  f4 : w.frozen? ⟨b, 4, none⟩ = false
  lt : b < w.heap.size
theorem ringCells {T : TypeId} {w : World} {b : Nat} {pv : Value} {first n most gone : Nat} (h : w.heap[b]? = some (ringObj T pv first n most gone)) : RingCells w b pv first n most gone := by
  have hlt := (Array.getElem?_eq_some_iff.1 h).1
  refine ⟨?_, ?_, ?_, ?_, ?_, ?_, ?_, ?_, ?_, ?_, hlt⟩ <;> simp [World.cell?, World.frozen?, h]

section
variable {T : TypeId} {w : World} {b : Nat} {pv : Value} {first n most gone : Nat}
theorem ring_set0 (h : w.heap[b]? = some (ringObj T pv first n most gone)) (u : Value) : (w.setCell ⟨b, 0, none⟩ u).heap[b]? = some (ringObj T u first n most gone) := by
  rw [heap_setCell_same w b 0 _ T u h]; rfl
theorem ring_set1 (h : w.heap[b]? = some (ringObj T pv first n most gone)) (u : Nat) : (w.setCell ⟨b, 1, none⟩ (.int .i64 u)).heap[b]? = some (ringObj T pv u n most gone) := by
  rw [heap_setCell_same w b 1 _ T _ h]; rfl
theorem ring_set2 (h : w.heap[b]? = some (ringObj T pv first n most gone)) (u : Nat) : (w.setCell ⟨b, 2, none⟩ (.int .i64 u)).heap[b]? = some (ringObj T pv first u most gone) := by
  rw [heap_setCell_same w b 2 _ T _ h]; rfl
theorem ring_set4 (h : w.heap[b]? = some (ringObj T pv first n most gone)) (u : Nat) : (w.setCell ⟨b, 4, none⟩ (.int .i64 u)).heap[b]? = some (ringObj T pv first n most u) := by
  rw [heap_setCell_same w b 4 _ T _ h]; rfl
end

/-- a ring in block b, whose things are L, the oldest first -/
def RingIs (T E : TypeId) (F : Value → Prop) (d : Value) (w : World) (b : Nat) (pv : Value) (L : List Value) (most gone : Nat) : Prop :=
  ∃ ps first, RingAt T E F w b pv ps first L.length most gone ∧ L = rg.things d ps first L.length most
theorem RingIs.lt {T E : TypeId} {F : Value → Prop} {d : Value} {w : World} {b : Nat} {pv : Value} {L : List Value} {most gone : Nat} (h : RingIs T E F d w b pv L most gone) : b < w.heap.size := by
  obtain ⟨ps, first, h, _⟩ := h
  exact (Array.getElem?_eq_some_iff.1 h.blk).1
theorem RingIs.le {T E : TypeId} {F : Value → Prop} {d : Value} {w : World} {b : Nat} {pv : Value} {L : List Value} {most gone : Nat} (h : RingIs T E F d w b pv L most gone) : L.length ≤ most ∧ most ≤ 1000 := by
  obtain ⟨ps, first, h, _⟩ := h
  exact ⟨Nat.le_trans h.fit.n_le h.fit.l_le, h.fit.m_le⟩
theorem RingIs.own {T E : TypeId} {F : Value → Prop} {d : Value} {w : World} {b : Nat} {pv : Value} {L : List Value} {most gone : Nat} (h : RingIs T E F d w b pv L most gone) : ∀ k, pv.ownBlock = some k → b < k ∧ k < w.heap.size := by
  obtain ⟨ps, first, h, _⟩ := h
  intro k hk
  have := h.own.lt k hk
  omega
theorem RingIs.kept {T E : TypeId} {F : Value → Prop} {d : Value} {w w' : World} {b : Nat} {pv : Value} {L : List Value} {most gone : Nat} (h : RingIs T E F d w b pv L most gone) {S : Nat → Prop} (hk : Kept w w' S) (hb : ¬ S b) (ho : ∀ k, pv.ownBlock = some k → ¬ S k) : RingIs T E F d w' b pv L most gone := by
  obtain ⟨ps, first, h, hL⟩ := h
  exact ⟨ps, first, ⟨hk.same h.blk hb, hk.row h.own ho, h.el, h.fit⟩, hL⟩
theorem RingIs.below {T E : TypeId} {F : Value → Prop} {d : Value} {w w' : World} {b : Nat} {pv : Value} {L : List Value} {most gone : Nat} (h : RingIs T E F d w b pv L most gone) (hb : Below w.heap.size w w') : RingIs T E F d w' b pv L most gone :=
  h.kept (Kept.of_below hb (fun _ => False)) (fun h => h) (fun _ _ h => h)
/-- what a ring's calls may touch -/
def Tch (b : Nat) (pv : Value) (k : Nat) : Prop := k = b ∨ pv.ownBlock = some k
/-- where a ring's places lie now: where they lay, or in new memory -/
def Moved (w : World) (pv pv' : Value) : Prop := ∀ k, pv'.ownBlock = some k → pv.ownBlock = some k ∨ w.heap.size ≤ k
theorem Moved.same (w : World) (pv : Value) : Moved w pv pv := fun _ h => .inl h
/-- what a call leaves of a ring -/
def RingTo (T E : TypeId) (F : Value → Prop) (d : Value) (w w' : World) (b : Nat) (pv : Value) (L : List Value) (most gone : Nat) : Prop :=
  ∃ pv', RingIs T E F d w' b pv' L most gone ∧ Kept w w' (Tch b pv) ∧ Moved w pv pv'

theorem own_slice {w : World} {base : Nat} {e : TypeId} {size : Nat} {v : Value} {n : Nat} {xs : List Value} (h : w.ownsRow base e size v n xs) : ∃ ao cap, v = .slice ao n cap := by
  rcases h.2 with ⟨rfl, rfl⟩ | ⟨g, cap, cur, rfl, _⟩
  · exact ⟨_, _, rfl⟩
  · exact ⟨_, _, rfl⟩
theorem own_some {w : World} {base : Nat} {e : TypeId} {size : Nat} {v : Value} {n : Nat} {xs : List Value} (h : w.ownsRow base e size v n xs) (hn : 0 < n) : ∃ g cap, v = .slice (some ⟨g, 0, none⟩) n cap ∧ base ≤ g ∧ g < w.heap.size ∧ n ≤ cap ∧ cap ≤ maxLen := by
  rcases h.2 with ⟨rfl, h0⟩ | ⟨g, cap, cur, rfl, hb, hg, hc, hm, _⟩
  · omega
  · exact ⟨g, cap, rfl, hb, (Array.getElem?_eq_some_iff.1 hg).1, hc, hm⟩
theorem own_cell {w : World} {base : Nat} {e : TypeId} {g cap n : Nat} {xs : List Value} (h : w.ownsRow base e 1 (.slice (some ⟨g, 0, none⟩) n cap) n xs) {d : Value} {j : Nat} (hj : j < n) : w.cell? ⟨g, j, none⟩ = some (xs.getD j d) := by
  rw [h.cellAt j (by omega)]
  have : j < xs.length := by rw [h.1]; omega
  simp [List.getD, this]
theorem own_set {w : World} {base : Nat} {e : TypeId} {g cap n : Nat} {xs : List Value} (h : w.ownsRow base e 1 (.slice (some ⟨g, 0, none⟩) n cap) n xs) (j : Nat) (u : Value) :
    (w.setCell ⟨g, j, none⟩ u).ownsRow base e 1 (.slice (some ⟨g, 0, none⟩) n cap) n (xs.set j u) := (h.stored j u).1
theorem own_len {w : World} {base : Nat} {e : TypeId} {v : Value} {n : Nat} {xs : List Value} (h : w.ownsRow base e 1 v n xs) : xs.length = n := by rw [h.1]; omega
theorem heap_set_other (w : World) (a : Addr) (u : Value) {k : Nat} (h : k ≠ a.block) {o : Obj} (hk : w.heap[k]? = some o) : (w.setCell a u).heap[k]? = some o := (Below.heap_setCell w a u k h).trans hk

theorem drewN_heap (w : World) (n : Nat) : (w.drewN n).heap = w.heap := rfl
theorem Kept.drewN {a w : World} {S : Nat → Prop} (h : Kept a w S) (n : Nat) : Kept a (w.drewN n) S := ⟨h.os, h.tape, h.output, h.size, h.block⟩
theorem cells_one_new (w : World) (v : Value) (e : TypeId) : ∀ (j : Nat) (u : Value), [v][j]? = some u → (w.alloc (.cells #[v] e)).cell? ((⟨w.heap.size, 0, none⟩ : Addr).add j) = some u := by
  intro j u hj
  match j, hj with
  | 0, hj => simp at hj; subst hj; simp [Addr.add]
/-- what an append leaves of a ring's block, and of all that it does not touch -/
theorem grow_ring {T E : TypeId} {w w1 : World} {nq b : Nat} {o : Obj} {pv : Value} {ps : List Value} {first n most gone m : Nat} (hblk : w.heap[b]? = some (ringObj T pv first n most gone)) (hown : w.ownsRow (b + 1) E 1 pv m ps) (hg : ((w.drewN nq).alloc o).grownBy w1 pv.ownBlock) :
    w1.heap[b]? = some (ringObj T pv first n most gone) ∧ Kept w w1 (Tch b pv) := by
  have hlt := (Array.getElem?_eq_some_iff.1 hblk).1
  have hk : Kept w w1 (fun k => pv.ownBlock = some k) := (((Kept.refl w _).drewN nq).alloc o).grown hg (fun k hk _ => hk)
  exact ⟨hk.same hblk (fun h => by have := hown.lt b h; omega), hk.weaken (fun k _ h => .inr h)⟩
theorem add_end {T E : TypeId} {F : Value → Prop} {w w1 : World} {b : Nat} {pv pv' : Value} {ps' : List Value} {first n most gone : Nat} (hblk : w1.heap[b]? = some (ringObj T pv first n most gone)) (hown : w1.ownsRow (b + 1) E 1 pv' ps'.length ps') (hk : Kept w w1 (Tch b pv)) (hel : ∀ u ∈ ps', F u) (hfit : rg.Fit ps'.length first (n + 1) most) (hm : Moved w pv pv') :
    ∃ pv2, RingAt T E F ((w1.setCell ⟨b, 0, none⟩ pv').setCell ⟨b, 2, none⟩ (.int .i64 ((n : Int) + 1))) b pv2 ps' first (n + 1) most gone ∧ Kept w ((w1.setCell ⟨b, 0, none⟩ pv').setCell ⟨b, 2, none⟩ (.int .i64 ((n : Int) + 1))) (Tch b pv) ∧ Moved w pv pv2 := by
  have e : ((n : Int) + 1) = ((n + 1 : Nat) : Int) := by omega
  rw [e]
  exact ⟨pv', ⟨ring_set2 (ring_set0 hblk pv') (n + 1), ownsRow_setCell_below (ownsRow_setCell_below hown (Nat.lt_succ_self b) _) (Nat.lt_succ_self b) _, hel, hfit⟩, (hk.setCell (fun _ => .inl rfl) _).setCell (fun _ => .inl rfl) _, hm⟩

section
variable {P : Program} (w : World)
/-- append to a row of the call's own: what it is good for, and where it lies -/
theorem run_append_moved (base : Nat) (t ty e : TypeId) (i : TypeInfo) (z : Value) (size bytes : Nat) (ht : P.underlying t = some (.slice e)) (hi : P.info? e = some i) (hz : i.zero = some z)
    (hsize : i.size = size) (hby : i.bytes = bytes) (hzs : z.cells.size = size) (hsz : 0 < size)
    (v : Value) (n : Nat) (xs : List Value) (hown : w.ownsRow base e size v n xs)
    (a : Addr) (m c : Nat) (news : List Value) (hl : news.length = m * size) (hnews : ∀ j u, news[j]? = some u → w.cell? (a.add j) = some u) (h1 : ∀ u ∈ news, u.oneCell' = true)
    (h63 : n + m ≤ maxLen) (hbytes : (n + m) * bytes ≤ 140737488355328) (hbase : base ≤ w.heap.size) :
    ∃ v' w', (Builtin.append_ #[t, t] ty #[v, .slice (some a) m c]).run P w = .ok v' w' ∧ w'.ownsRow base e size v' (n + m) (xs ++ news) ∧ w.grownBy w' v.ownBlock ∧ Moved w v v' := by
  obtain ⟨v', w', hr, h2, h3, _⟩ := run_append_own (P := P) w base t ty e i z size bytes ht hi hz hsize hby hzs hsz v n xs hown a m c news hl hnews h1 h63 hbytes hbase
  refine ⟨v', w', hr, h2, h3, ?_⟩
  rcases hown.2 with ⟨rfl, rfl⟩ | ⟨g, cap, cur, rfl, hbg, hg, hnc, hcm, hcs, htake⟩
  · obtain ⟨v2, w2, hr2, h22, _, _⟩ := run_append_own (P := P) w w.heap.size t ty e i z size bytes ht hi hz hsize hby hzs hsz (.slice none 0 0) 0 [] (World.ownsRow_nil w _ e size) a m c news hl hnews h1 h63 hbytes (Nat.le_refl _)
    rw [hr] at hr2
    obtain ⟨rfl, rfl⟩ : v' = v2 ∧ w' = w2 := by simpa using hr2
    exact fun k hk => .inr (h22.lt k hk).1
  · by_cases hroom : n + m ≤ cap
    · obtain ⟨w2, hr2, _, _⟩ := run_append_fits (P := P) w base t ty e i size ht hi hsize g n cap xs hown a m c news hl hnews h1 hroom
      rw [hr] at hr2
      obtain ⟨rfl, rfl⟩ : v' = .slice (some ⟨g, 0, none⟩) (n + m) cap ∧ w' = w2 := by simpa using hr2
      exact fun k hk => .inl (by simpa [Value.ownBlock] using hk)
    · obtain ⟨v2, w2, hr2, h22, _⟩ := run_append_arg_grows (P := P) w t ty e i z size bytes ht hi hz hsize hby hzs hsz ⟨g, 0, none⟩ n cap xs hown.1 (hown.cells (g := g) rfl) a m c news hl hnews (by omega) h63 hbytes
      rw [hr] at hr2
      obtain ⟨rfl, rfl⟩ : v' = v2 ∧ w' = w2 := by simpa using hr2
      exact fun k hk => .inr (h22.lt k hk).1

theorem wpList_append_moved {ops : Array Oper} {rest : List Oper} {o : Oper} {a : Act} {Q : Exit → Act → World → Prop} (hgd : o.guard = none) (s x : Operand) (t : TypeId)
    (ho : o.op = .call { callee := .builtin .append, args := #[s, x], argTypes := #[t, t] })
    (base : Nat) (e : TypeId) (i : TypeInfo) (z : Value) (size bytes : Nat) (ht : P.underlying t = some (.slice e)) (hi : P.info? e = some i) (hz : i.zero = some z)
    (hsize : i.size = size) (hby : i.bytes = bytes) (hzs : z.cells.size = size) (hsz : 0 < size)
    (v : Value) (n : Nat) (xs : List Value) (hs : a.eval s = v) (hown : w.ownsRow base e size v n xs)
    (ad : Addr) (m c : Nat) (news : List Value) (hx : a.eval x = .slice (some ad) m c) (hl : news.length = m * size) (hnews : ∀ j u, news[j]? = some u → w.cell? (ad.add j) = some u) (h1 : ∀ u ∈ news, u.oneCell' = true)
    (h63 : n + m ≤ maxLen) (hbytes : (n + m) * bytes ≤ 140737488355328) (hbase : base ≤ w.heap.size)
    (h : ∀ v' w', w'.ownsRow base e size v' (n + m) (xs ++ news) → w.grownBy w' v.ownBlock → Moved w v v' → wpList P ops Q rest (a.put o.dst v') w') : wpList P ops Q (o :: rest) a w := by
  refine wpList_plain hgd fun K hK => ?_
  obtain ⟨v', w', hr, h2, h3, h4⟩ := run_append_moved (P := P) w base t o.type e i z size bytes ht hi hz hsize hby hzs hsz v n xs hown ad m c news hl hnews h1 h63 hbytes hbase
  unfold Oper.wp execOp
  simp only [ho, resolve, invoke, builtin, Sem.run_bind, Sem.run_pure, Result.andThen_ok, List.map_toArray, List.map_cons, List.map_nil, hs, hx, hr]
  exact hK _ _ (h v' w' h2 h3 h4)
end
/-- a ring behind a store into its places and another one of its n -/
theorem set_end {T E : TypeId} {F : Value → Prop} {w : World} {b g cap m : Nat} {ps : List Value} {first n most gone P : Nat} (u : Value) (k n' : Nat) (hblk : w.heap[b]? = some (ringObj T (.slice (some ⟨g, 0, none⟩) m cap) first n most gone)) (hown : w.ownsRow (b + 1) E 1 (.slice (some ⟨g, 0, none⟩) m cap) m ps) (hm : m = ps.length) (hel : ∀ v ∈ ps.set P u, F v) (hfit : rg.Fit (ps.set P u).length first n' most) (x : Int) (hx : x = (n' : Int)) :
    RingAt T E F (((w.drewN k).setCell ⟨g, P, none⟩ u).setCell ⟨b, 2, none⟩ (.int .i64 x)) b (.slice (some ⟨g, 0, none⟩) m cap) (ps.set P u) first n' most gone ∧ Kept w (((w.drewN k).setCell ⟨g, P, none⟩ u).setCell ⟨b, 2, none⟩ (.int .i64 x)) (Tch b (.slice (some ⟨g, 0, none⟩) m cap)) := by
  subst hx
  subst hm
  have hb := hown.lt g rfl
  have h1 : ((w.drewN k).setCell ⟨g, P, none⟩ u).heap[b]? = some (ringObj T (.slice (some ⟨g, 0, none⟩) ps.length cap) first n most gone) := heap_set_other (w.drewN k) ⟨g, P, none⟩ u (by show b ≠ g; omega) hblk
  have h2 : ((w.drewN k).setCell ⟨g, P, none⟩ u).ownsRow (b + 1) E 1 (.slice (some ⟨g, 0, none⟩) ps.length cap) ps.length (ps.set P u) := own_set (w := w.drewN k) hown P u
  refine ⟨⟨ring_set2 h1 n', ?_, hel, hfit⟩, (((Kept.refl w _).drewN k).setCell (fun _ => .inr rfl) _).setCell (fun _ => .inl rfl) _⟩
  rw [List.length_set]
  exact ownsRow_setCell_below h2 (Nat.lt_succ_self b) _
theorem Kept.of_drewN {w w' : World} {k : Nat} {S : Nat → Prop} (h : Kept (w.drewN k) w' S) : Kept w w' S := ⟨h.os, h.tape, h.output, h.size, h.block⟩
theorem RingAt.drewN {T E : TypeId} {F : Value → Prop} {w : World} {b : Nat} {pv : Value} {ps : List Value} {first n most gone : Nat} (h : RingAt T E F w b pv ps first n most gone) (k : Nat) : RingAt T E F (w.drewN k) b pv ps first n most gone := ⟨h.blk, h.own, h.el, h.fit⟩
/-- the same append, as one step of a region that draws its order -/
theorem step_append_moved {P : Program} {ops : Array Oper} {o : Oper} {a : Act} {w : World} {K : Act → World → Prop} {Q : Exit → Act → World → Prop} {E : Prop}
    (hg : o.guard = none) (s x : Operand) (t : TypeId) (hop : o.op = Op.call { callee := Callee.builtin Builtin.append, args := #[s, x], argTypes := #[t, t] })
    (base : Nat) (e : TypeId) (i : TypeInfo) (z : Value) (size bytes : Nat) (ht : P.underlying t = some (.slice e)) (hi : P.info? e = some i) (hz : i.zero = some z)
    (hsize : i.size = size) (hby : i.bytes = bytes) (hzs : z.cells.size = size) (hsz : 0 < size)
    (v : Value) (n : Nat) (xs : List Value) (hs : a.eval s = v) (hown : w.ownsRow base e size v n xs)
    (ad : Addr) (m c : Nat) (news : List Value) (hx : a.eval x = .slice (some ad) m c) (hl : news.length = m * size) (hnews : ∀ j u, news[j]? = some u → w.cell? (ad.add j) = some u) (h1 : ∀ u ∈ news, u.oneCell' = true)
    (h63 : n + m ≤ maxLen) (hbytes : (n + m) * bytes ≤ 140737488355328) (hbase : base ≤ w.heap.size)
    (hK : ∀ v' w', w'.ownsRow base e size v' (n + m) (xs ++ news) → w.grownBy w' v.ownBlock → Moved w v v' → K (a.put o.dst v') w') :
    if Region.wanted o (yielded ops a.tmps) = true then Oper.wp P o a w K Q else E := by
  have hw : Region.wanted o (yielded ops a.tmps) = true := by simp [Region.wanted, hg]
  rw [if_pos hw]
  obtain ⟨v', w', hrun, r1, r2, r3⟩ := run_append_moved (P := P) w base t o.type e i z size bytes ht hi hz hsize hby hzs hsz v n xs hown ad m c news hl hnews h1 h63 hbytes hbase
  unfold Oper.wp
  simp [execOp, hop, resolve, invoke, builtin, hs, hx, hrun, Result.andThen]
  exact hK v' w' r1 r2 r3
theorem below_drewN {B : Nat} {a w : World} (h : Below B a w) (n : Nat) : Below B a (w.drewN n) := ⟨h.os, h.tape, h.output, h.size, h.block⟩
theorem below_grow {B : Nat} {w wr w1 : World} {j : Nat} {o : Obj} {row : Option Nat} (h : Below B w wr) (hg : ((wr.drewN j).alloc o).grownBy w1 row) (hB : B ≤ wr.heap.size) (hr : ∀ k, row = some k → B ≤ k) : Below B w w1 :=
  ((below_drewN h j).alloc hB o).grown hg (by simp; omega) hr
theorem own_new {w : World} {base : Nat} {e : TypeId} {size : Nat} {v : Value} {n : Nat} {xs : List Value} (h : w.ownsRow base e size v n xs) (j : Nat) (o : Obj) : ((w.drewN j).alloc o).ownsRow base e size v n xs := World.ownsRow.alloc (w := w.drewN j) h o
theorem news_new (w : World) (j : Nat) (v : Value) (e : TypeId) : ∀ (i : Nat) (u : Value), [v][i]? = some u → ((w.drewN j).alloc (.cells #[v] e)).cell? ((⟨w.heap.size, 0, none⟩ : Addr).add i) = some u := cells_one_new (w.drewN j) v e
theorem own_base {w : World} {base base' : Nat} {e : TypeId} {size : Nat} {v : Value} {n : Nat} {xs : List Value} (h : w.ownsRow base e size v n xs) (hb : base' ≤ base) : w.ownsRow base' e size v n xs := by
  refine ⟨h.1, ?_⟩
  rcases h.2 with h' | ⟨g, cap, cur, rfl, hg, rest⟩
  · exact .inl h'
  · exact .inr ⟨g, cap, cur, rfl, by omega, rest⟩
theorem ring_set3 {T : TypeId} {w : World} {b : Nat} {pv : Value} {first n most gone : Nat} (h : w.heap[b]? = some (ringObj T pv first n most gone)) (u : Nat) : (w.setCell ⟨b, 3, none⟩ (.int .i64 u)).heap[b]? = some (ringObj T pv first n u gone) := by
  rw [heap_setCell_same w b 3 _ T _ h]; rfl
end Go.Proofs.Ytaklkhjgdopbgaa
