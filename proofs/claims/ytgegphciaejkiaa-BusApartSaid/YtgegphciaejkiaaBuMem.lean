/- Memory of a bus: frames, rows, slots, events. -/
import Derived.Test.YtgegphciaejkiaaRows
import Derived.WalkSpells
import Derived.WalkLawsBesides
import Derived.BigQuiet
import Derived.Deep.RegionHeld3
import Derived.Deep.RegionWith
import Derived.Deep.RegionLaw
import Derived.Deep.LoopGhost
import Derived.WalkKit
import Derived.Lib.Hide
import Derived.Laws.OwnMore
import Derived.ArgAppend
import Derived.Deep.QuietTactic
import Derived.ProofKit
import Derived.OpenShut
import Derived.Carry
import Derived.Lib.SmallJoins
import Derived.Lib.SliceRun
import Derived.Laws.Slices
import Derived.IntWalk
import Derived.Deep.DeepCutAuto
import Derived.Laws.ResultCell
import Derived.Deep.AppendLies
import Derived.Lib.AppendZeros
import Derived.Maps.AppendAt
import Derived.Laws.ResultCell
namespace Go.Proofs.Ytgegphciaejkiaa
open Go.RowKit
/-- what a call may turn: new blocks, and those of S -/
structure Fr (S : Nat → Prop) (w w' : World) : Prop where
  os : w'.os = w.os
  tape : w'.tape = w.tape
  output : w'.output = w.output
  size : w.heap.size ≤ w'.heap.size
  block : ∀ k, k < w.heap.size → ¬ S k → w'.heap[k]? = w.heap[k]?
theorem Fr.refl (S : Nat → Prop) (w : World) : Fr S w w := ⟨rfl, rfl, rfl, Nat.le_refl _, fun _ _ _ => rfl⟩
theorem Fr.of_below {w w' : World} (h : Below w.heap.size w w') (S : Nat → Prop) : Fr S w w' := ⟨h.os, h.tape, h.output, h.size, fun k hk _ => h.block k hk⟩
theorem Fr.trans {S S' : Nat → Prop} {a b c : World} (h : Fr S a b) (g : Fr S' b c) (hs : ∀ k, k < a.heap.size → S' k → S k) : Fr S a c :=
  ⟨g.os.trans h.os, g.tape.trans h.tape, g.output.trans h.output, Nat.le_trans h.size g.size, fun k hk hn => (g.block k (Nat.lt_of_lt_of_le hk h.size) (fun x => hn (hs k hk x))).trans (h.block k hk hn)⟩
theorem Fr.then {S : Nat → Prop} {a b c : World} (h : Fr S a b) (g : Fr S b c) : Fr S a c := h.trans g fun _ _ x => x
theorem Fr.below {S : Nat → Prop} {a b c : World} (h : Fr S a b) (g : Below b.heap.size b c) : Fr S a c := h.then (Fr.of_below g S)
theorem Fr.wider {S S' : Nat → Prop} {a b : World} (h : Fr S a b) (hs : ∀ k, k < a.heap.size → S k → S' k) : Fr S' a b := ⟨h.os, h.tape, h.output, h.size, fun k hk hn => h.block k hk fun x => hn (hs k hk x)⟩
theorem Fr.to_below {S : Nat → Prop} {a b : World} (h : Fr S a b) (B : Nat) (hB : B ≤ a.heap.size) (hs : ∀ k, k < B → ¬ S k) : Below B a b := ⟨h.os, h.tape, h.output, h.size, fun k hk => h.block k (by omega) (hs k hk)⟩
theorem Fr.setCell {S : Nat → Prop} {a b : World} (h : Fr S a b) (x : Addr) (u : Value) (hx : a.heap.size ≤ x.block ∨ S x.block) : Fr S a (b.setCell x u) :=
  ⟨h.os, h.tape, h.output, by simpa using h.size, fun k hk hn => (Below.heap_setCell b x u k (fun e => by subst e; rcases hx with h1 | h1 <;> first | omega | exact hn h1)).trans (h.block k hk hn)⟩
theorem Fr.alloc {S : Nat → Prop} {a b : World} (h : Fr S a b) (o : Obj) : Fr S a (b.alloc o) := h.below ((Below.refl _ _).alloc (Nat.le_refl _) o)
theorem Fr.of_grown {w w' : World} {row : Option Nat} (h : w.grownBy w' row) : Fr (fun k => row = some k) w w' := ⟨h.os, h.tape, h.output, h.size, fun k hk hn => h.block k hk (fun e => hn e.symm)⟩
theorem Fr.drew {S : Nat → Prop} {a b : World} (h : Fr S a b) : Fr S a b.drew := ⟨h.os, h.tape, h.output, h.size, h.block⟩
theorem Fr.drewN {S : Nat → Prop} {a b : World} (h : Fr S a b) (n : Nat) : Fr S a (b.drewN n) := ⟨h.os, h.tape, h.output, h.size, h.block⟩
theorem cell_of_eq {w w' : World} {b : Nat} (h : w'.heap[b]? = w.heap[b]?) (k : Nat) : w'.cell? ⟨b, k, none⟩ = w.cell? ⟨b, k, none⟩ := by simp [World.cell?, h]
theorem cell_of_heap {w : World} {p k : Nat} {cur : Array Value} {t : TypeId} (h : w.heap[p]? = some (.cells cur t (0, 0))) : w.cell? ⟨p, k, none⟩ = cur[k]? := by simp [World.cell?, h]
theorem thaw {w : World} {p k : Nat} {cur : Array Value} {t : TypeId} (h : w.heap[p]? = some (.cells cur t (0, 0))) : w.frozen? ⟨p, k, none⟩ = false := by simp [World.frozen?, h]
theorem heap_lt {w : World} {k : Nat} {o : Obj} (h : w.heap[k]? = some o) : k < w.heap.size := (Array.getElem?_eq_some_iff.1 h).1
theorem heap_set_other (w : World) (a : Addr) (u : Value) {k : Nat} (h : k ≠ a.block) {o : Obj} (hk : w.heap[k]? = some o) : (w.setCell a u).heap[k]? = some o := (Below.heap_setCell w a u k h).trans hk
theorem below_one (W : World) (o : Obj) : Below W.heap.size W (W.alloc o) := (Below.refl _ _).alloc (Nat.le_refl _) o
theorem below_dN {B : Nat} {a w : World} (h : Below B a w) (n : Nat) : Below B a (w.drewN n) := ⟨h.os, h.tape, h.output, h.size, h.block⟩
theorem below_of_dN {B : Nat} {w w' : World} {j : Nat} (h : Below B (w.drewN j) w') : Below B w w' := ⟨h.os, h.tape, h.output, h.size, h.block⟩
theorem addr_b0 (b i : Nat) : (⟨b, 0, none⟩ : Addr).add i = ⟨b, i, none⟩ := by
  unfold Addr.add
  split <;> simp_all
theorem addr_plain (b o i : Nat) : (⟨b, o, none⟩ : Addr).add i = ⟨b, o + i, none⟩ := by
  unfold Addr.add
  split <;> simp_all
theorem ret_bool {a b : Bool} (h : a = b) : Ending.returned (.bool a) = .returned (.bool b) := by rw [h]
theorem ret_int {a b : Int} (h : a = b) : Ending.returned (.int .i64 a) = .returned (.int .i64 b) := by rw [h]
theorem row_below {w w' : World} {B : Nat} {e : TypeId} {size : Nat} {v : Value} {n : Nat} {xs : List Value} (h : w.ownsRow B e size v n xs) (hb : Below w.heap.size w w') : w'.ownsRow B e size v n xs := by
  refine ⟨h.1, ?_⟩
  rcases h.2 with h' | ⟨g, cap, cur, rfl, hg, hgg, rest⟩
  · exact .inl h'
  · exact .inr ⟨g, cap, cur, rfl, hg, (hb.block g (Array.getElem?_eq_some_iff.1 hgg).1).trans hgg, rest⟩
theorem own_slice {w : World} {base : Nat} {e : TypeId} {size : Nat} {v : Value} {n : Nat} {xs : List Value} (h : w.ownsRow base e size v n xs) : ∃ ao cap, v = .slice ao n cap := by
  rcases h.2 with ⟨rfl, rfl⟩ | ⟨g, cap, cur, rfl, _⟩
  · exact ⟨_, _, rfl⟩
  · exact ⟨_, _, rfl⟩
theorem own_base {w : World} {base base' : Nat} {e : TypeId} {size : Nat} {v : Value} {n : Nat} {xs : List Value} (h : w.ownsRow base e size v n xs) (hb : base' ≤ base) : w.ownsRow base' e size v n xs := by
  refine ⟨h.1, ?_⟩
  rcases h.2 with h' | ⟨g, cap, cur, rfl, hg, rest⟩
  · exact .inl h'
  · exact .inr ⟨g, cap, cur, rfl, by omega, rest⟩
theorem own_type {w : World} {B : Nat} {e : TypeId} {size : Nat} {v : Value} {n : Nat} {xs : List Value} (h : w.ownsRow B e size v n xs) {g : Nat} (hg : v.ownBlock = some g) : ∃ cur, w.heap[g]? = some (.cells cur e (0, 0)) := by
  rcases h.2 with ⟨rfl, _⟩ | ⟨g', cap, cur, rfl, hB, hgg, rest⟩
  · cases hg
  · obtain rfl : g' = g := Option.some.inj hg
    exact ⟨cur, hgg⟩
/-- a row is kept where its block is -/
theorem own_keep {w w' : World} {B : Nat} {e : TypeId} {size : Nat} {v : Value} {n : Nat} {xs : List Value} (h : w.ownsRow B e size v n xs) (hk : ∀ g cur, B ≤ g → g < w.heap.size → v.ownBlock = some g → w.heap[g]? = some (.cells cur e (0, 0)) → w'.heap[g]? = w.heap[g]?) : w'.ownsRow B e size v n xs := by
  refine ⟨h.1, ?_⟩
  rcases h.2 with h' | ⟨g, cap, cur, rfl, hB, hg, rest⟩
  · exact .inl h'
  · exact .inr ⟨g, cap, cur, rfl, hB, (hk g cur hB (Array.getElem?_eq_some_iff.1 hg).1 rfl hg).trans hg, rest⟩
/-- a row of n things of a size, wherever it lies; its block is one of D -/
def RowIn (w : World) (D : Nat → Prop) (V : Value) (size n : Nat) (cs : List Value) : Prop :=
  ∃ o cap, V = .slice o n cap ∧ n ≤ cap ∧ cap ≤ 9223372036854775807 ∧ cs.length = n * size ∧ (n = 0 ∨ ∃ b off, o = some ⟨b, off, none⟩ ∧ D b ∧ b < w.heap.size ∧ ∀ k v, cs[k]? = some v → w.cell? ⟨b, off + k, none⟩ = some v)
theorem RowIn.keep {w w' : World} {D D' : Nat → Prop} {V : Value} {size n : Nat} {cs : List Value} (h : RowIn w D V size n cs) (hk : ∀ k, D k → k < w.heap.size → w'.heap[k]? = w.heap[k]?) (hs : w.heap.size ≤ w'.heap.size) (hd : ∀ k, D k → k < w.heap.size → D' k) : RowIn w' D' V size n cs := by
  obtain ⟨o, cap, e, h1, h2, h3, h4⟩ := h
  refine ⟨o, cap, e, h1, h2, h3, h4.imp id ?_⟩
  rintro ⟨b, off, e1, hb, hlt, hc⟩
  exact ⟨b, off, e1, hd b hb hlt, Nat.lt_of_lt_of_le hlt hs, fun k v hv => (cell_of_eq (hk b hb hlt) _).trans (hc k v hv)⟩
theorem RowIn.below {w w' : World} {D : Nat → Prop} {V : Value} {size n : Nat} {cs : List Value} (h : RowIn w D V size n cs) (hb : Below w.heap.size w w') : RowIn w' D V size n cs :=
  h.keep (fun k _ hk => hb.block k hk) hb.size fun _ h _ => h
theorem RowIn.fr {S : Nat → Prop} {w w' : World} {D : Nat → Prop} {V : Value} {size n : Nat} {cs : List Value} (h : RowIn w D V size n cs) (hb : Fr S w w') (hs : ∀ k, D k → k < w.heap.size → ¬ S k) : RowIn w' D V size n cs :=
  h.keep (fun k hd hk => hb.block k hk (hs k hd hk)) hb.size fun _ h _ => h
theorem RowIn.wide {w : World} {D D' : Nat → Prop} {V : Value} {size n : Nat} {cs : List Value} (h : RowIn w D V size n cs) (hd : ∀ k, D k → k < w.heap.size → D' k) : RowIn w D' V size n cs := h.keep (fun _ _ _ => rfl) (Nat.le_refl _) hd
theorem RowIn.nil (w : World) (D : Nat → Prop) (size : Nat) : RowIn w D (.slice none 0 0) size 0 [] := ⟨none, 0, rfl, Nat.le_refl _, by decide, by simp, .inl rfl⟩
theorem RowIn.of_own {w : World} {B : Nat} {e : TypeId} {size : Nat} {V : Value} {n : Nat} {cs : List Value} (h : w.ownsRow B e size V n cs) (hl : cs.length = n * size) (D : Nat → Prop) (hD : ∀ g, V.ownBlock = some g → D g) : RowIn w D V size n cs := by
  rcases h.2 with ⟨rfl, h0⟩ | ⟨g, cap, cur, rfl, hB, hg, hc, hm, hs, ht⟩
  · exact ⟨none, 0, by rw [h0], by omega, by decide, hl, .inl h0⟩
  · refine ⟨_, cap, rfl, hc, hm, hl, .inr ⟨g, 0, rfl, hD g rfl, (Array.getElem?_eq_some_iff.1 hg).1, fun k v hv => ?_⟩⟩
    rw [cell_of_heap hg, ← Array.getElem?_toList, Nat.zero_add]
    have : (cur.toList.take cs.length)[k]? = some v := by rw [hl, ht]; exact hv
    rw [List.getElem?_take] at this
    split at this
    · exact this
    · cases this
theorem RowIn.lens {w : World} {D : Nat → Prop} {o : Option Addr} {m cap size n : Nat} {cs : List Value} (h : RowIn w D (.slice o m cap) size n cs) : m = n ∧ n ≤ cap ∧ cap ≤ 9223372036854775807 := by
  obtain ⟨o', cap', e, h1, h2, -⟩ := h
  obtain ⟨-, rfl, rfl⟩ := Value.slice.inj e
  exact ⟨rfl, h1, h2⟩
/-- a thing of a row: where it lies -/
theorem RowIn.at_ {w : World} {D : Nat → Prop} {o : Option Addr} {m cap size n : Nat} {cs : List Value} (h : RowIn w D (.slice o m cap) size n cs) (k : Nat) (hk : k < n) : ∃ b off, o = some ⟨b, off, none⟩ ∧ D b ∧ b < w.heap.size ∧ ∀ j v, cs[j]? = some v → w.cell? ⟨b, off + j, none⟩ = some v := by
  obtain ⟨o', cap', e, h1, h2, h3, h4⟩ := h
  obtain ⟨rfl, -, -⟩ := Value.slice.inj e
  rcases h4 with h4 | h4
  · omega
  · exact h4
abbrev inC (l : List Int) : List Value := l.map fun x => Value.int .i64 x
theorem infoInt : (Try.prog.info? 3).map (fun i => (i.zero, i.size, i.bytes)) = some (some (Value.int .i64 0), 1, 8) := by kernel_rfl
abbrev NsIn (w : World) (D : Nat → Prop) (V : Value) (l : List Int) : Prop := RowIn w D V 1 l.length (inC l)
def BoolAns (w w' : World) (e : Ending) (r : Bool) : Prop := e = .returned (.bool r) ∧ Below w.heap.size w w'
def IntsAns (w w' : World) (e : Ending) (l : List Int) : Prop := ∃ V, e = .returned V ∧ w'.ownsRow w.heap.size 3 1 V l.length (inC l) ∧ Below w.heap.size w w'
theorem inC_snoc (l : List Int) (i : Int) : inC (l ++ [i]) = inC l ++ [.int .i64 i] := by simp [inC]
/-- a number more behind a row of one's own; the world ahead of the literal is w0 -/
theorem wpList_num (w0 : World) (i : Int) {ops : Array Oper} {rest : List Oper} {op : Oper} {a : Act} {Q : Exit → Act → World → Prop} (hgd : op.guard = none) (s x : Operand)
    (ho : op.op = Op.call { callee := Callee.builtin Builtin.append, args := #[s, x], argTypes := #[36, 36] }) (B : Nat) (V : Value) (l l' : List Int) (hl' : l ++ [i] = l') (hs : a.eval s = V) (hown : w0.ownsRow B 3 1 V l.length (inC l))
    (g : Nat) (hg0 : g = w0.heap.size) (hx : a.eval x = .slice (some ⟨g, 0, none⟩) 1 1) (hlen : l.length ≤ 1000) (hB : B ≤ w0.heap.size)
    (h : ∀ V' w', w'.ownsRow B 3 1 V' l'.length (inC l') → w0.grownBy w' V.ownBlock → wpList Try.prog ops Q rest (a.put op.dst V') w') : wpList Try.prog ops Q (op :: rest) a (w0.alloc (.cells #[.int .i64 i] 3)) := by
  subst hg0
  subst hl'
  refine wpList_plain hgd fun K hK => ?_
  obtain ⟨i0, hi, hz0, hz1, hz2⟩ := info_parts infoInt
  have hb0 := below_one w0 (.cells #[.int .i64 i] 3)
  have hn := heap_alloc_new w0 (.cells #[.int .i64 i] 3)
  obtain ⟨V', w', hrun, r1, r2, _⟩ := run_append_own (P := Try.prog) _ B 36 op.type 3 i0 _ 1 8 Try.underlying36 hi hz0 hz1 hz2 rfl (by decide) V l.length (inC l) (row_below hown hb0)
    ⟨w0.heap.size, 0, none⟩ 1 1 [.int .i64 i] rfl (fun j u hu => by rw [addr_b0, cell_of_heap hn]; simpa using hu) (fun u hu => by simp at hu; subst hu; rfl) (by unfold maxLen; omega) (by omega) (by simp; omega)
  unfold Oper.wp execOp
  simp only [ho, resolve, invoke, builtin, Sem.run_bind, Sem.run_pure, Result.andThen_ok, List.map_toArray, List.map_cons, List.map_nil, hs, hx, hrun]
  refine hK _ _ (h V' w' ?_ ⟨r2.os, r2.tape, r2.output, Nat.le_trans hb0.size r2.size, fun k hk hne => (r2.block k (Nat.lt_of_lt_of_le hk hb0.size) hne).trans (hb0.block k hk)⟩)
  rw [List.length_append, List.length_singleton, inC_snoc]
  exact r1
/-- a row of numbers that is one's own, from B on; all ahead of B stays -/
structure NR (B : Nat) (W0 W : World) (V : Value) (l : List Int) : Prop where
  own : W.ownsRow B 3 1 V l.length (inC l)
  bel : Below B W0 W
theorem NR.push {B : Nat} {W0 W W' : World} {V V' : Value} {l l' : List Int} (h : NR B W0 W V l) (hB : B ≤ W.heap.size) (hr : W'.ownsRow B 3 1 V' l'.length (inC l')) (hg : W.grownBy W' V.ownBlock) : NR B W0 W' V' l' :=
  ⟨hr, h.bel.trans ((Below.refl B W).grown hg hB (fun k hk => (h.own.lt k hk).1))⟩
/-- a row behind a row of one's own -/
theorem wpList_rows (S T : TypeId) (z b : Nat) (hS : Try.prog.underlying S = some (.slice T)) {z0 : Value} (hT : (Try.prog.info? T).map (fun i => (i.zero, i.size, i.bytes)) = some (some z0, z, b)) (hzs : z0.cells.size = z) (hz : 0 < z)
    {w : World} {ops : Array Oper} {rest : List Oper} {op : Oper} {a : Act} {Q : Exit → Act → World → Prop} (hgd : op.guard = none) (s x : Operand)
    (ho : op.op = .call { callee := .builtin .append, args := #[s, x], argTypes := #[S, S] }) (B : Nat) (V : Value) (n : Nat) (cs : List Value) (hs : a.eval s = V) (hown : w.ownsRow B T z V n cs) (hBw : B ≤ w.heap.size)
    (ad : Addr) (m cap : Nat) (D : Nat → Prop) (ks : List Value) (hx : a.eval x = .slice (some ad) m cap) (hk : RowIn w D (.slice (some ad) m cap) z m ks) (hm : 0 < m) (hone : ∀ u ∈ ks, u.oneCell' = true) (hn : n + m ≤ 8192) (hbb : (n + m) * b ≤ 140737488355328) (n' : Nat) (hn' : n + m = n') (ks' : List Value) (hks' : cs ++ ks = ks')
    (h : ∀ V' w', w'.ownsRow B T z V' n' ks' → w.grownBy w' V.ownBlock → wpList Try.prog ops Q rest (a.put op.dst V') w') :
    wpList Try.prog ops Q (op :: rest) a w := by
  subst hn'
  subst hks'
  refine wpList_plain hgd fun K hK => ?_
  obtain ⟨i0, hi, hz0, hz1, hz2⟩ := info_parts hT
  obtain ⟨bb, off, e1, hD, hlt, hc⟩ := RowIn.at_ hk 0 hm
  obtain rfl := Option.some.inj e1
  have h3 : ks.length = m * z := by obtain ⟨_, _, _, _, _, h3, _⟩ := hk; exact h3
  have hnews : ∀ j u, ks[j]? = some u → w.cell? ((⟨bb, off, none⟩ : Addr).add j) = some u := fun j u hu => by
    rw [addr_plain]
    exact hc j u hu
  obtain ⟨V', w', hrun, r1, r2, r3, r4⟩ := run_append_own_at (P := Try.prog) w B S op.type T i0 _ z b hS hi hz0 hz1 hz2 hzs hz V n cs hown ⟨bb, off, none⟩ m cap ks h3 hnews hone (by unfold maxLen; omega) hbb hBw
  unfold Oper.wp execOp
  simp only [ho, resolve, invoke, builtin, Sem.run_bind, Sem.run_pure, Result.andThen_ok, List.map_toArray, List.map_cons, List.map_nil, hs, hx, hrun]
  exact hK _ _ (h V' w' r1 r2)

/-! ### events, slots -/
namespace bu
structure Ev where
  (kind a b : Int)
  text : ByteArray
structure Slot where
  on : Bool
  kinds : Nat → Bool
  queue : List Ev
  dropped : Int
def Slot.zero : Slot := ⟨false, fun _ => false, [], 0⟩
def upd (S : Nat → Slot) (i : Nat) (s : Slot) : Nat → Slot := fun j => if j = i then s else S j
theorem upd_same (S : Nat → Slot) (i : Nat) (s : Slot) : upd S i s i = s := if_pos rfl
theorem upd_other (S : Nat → Slot) {i j : Nat} (s : Slot) (h : j ≠ i) : upd S i s j = S j := if_neg h
end bu
abbrev evV (e : bu.Ev) : Value := .agg #[.int .i64 e.kind, .int .i64 e.a, .int .i64 e.b, .string e.text]
def evC (e : bu.Ev) : List Value := [.int .i64 e.kind, .int .i64 e.a, .int .i64 e.b, .string e.text]
def evsC (l : List bu.Ev) : List Value := l.flatMap evC
theorem evsC_len (l : List bu.Ev) : (evsC l).length = l.length * 4 := by
  induction l with
  | nil => rfl
  | cons v l ih => show (evC v ++ evsC l).length = _; rw [List.length_append, ih, List.length_cons]; show 4 + _ = _; omega
theorem evsC_app (a b : List bu.Ev) : evsC (a ++ b) = evsC a ++ evsC b := by simp [evsC]
theorem evsC_one (l : List bu.Ev) : ∀ u ∈ evsC l, u.oneCell' = true := by
  intro u hu
  unfold evsC at hu
  obtain ⟨i, -, hu⟩ := List.mem_flatMap.1 hu
  simp only [evC, List.mem_cons, List.not_mem_nil, or_false] at hu
  rcases hu with rfl | rfl | rfl | rfl <;> rfl
abbrev EvRow (w : World) (B : Nat) (V : Value) (l : List bu.Ev) : Prop := w.ownsRow B 31 4 V l.length (evsC l)
/-- a slot among a bus's cells -/
structure SlotA (A : Array Value) (i : Nat) (s : bu.Slot) (V : Value) : Prop where
  on : A[i * 11]? = some (.bool s.on)
  ks : ∀ k, k < 8 → A[i * 11 + 1 + k]? = some (.bool (s.kinds k))
  qu : A[i * 11 + 9]? = some V
  dr : A[i * 11 + 10]? = some (.int .i64 s.dropped)
theorem SlotA.other {A : Array Value} {j : Nat} {s : bu.Slot} {V : Value} (h : SlotA A j s V) {i r : Nat} (hr : r < 11) (hij : j ≠ i) (u : Value) : SlotA (A.setIfInBounds (i * 11 + r) u) j s V := by
  have key : ∀ x, x < 11 → (A.setIfInBounds (i * 11 + r) u)[j * 11 + x]? = A[j * 11 + x]? := fun x hx => by
    rw [Array.getElem?_setIfInBounds, if_neg (by omega)]
  exact ⟨(key 0 (by omega)).trans h.on, fun k hk => by rw [Nat.add_assoc, key (1 + k) (by omega), ← Nat.add_assoc]; exact h.ks k hk, (key 9 (by omega)).trans h.qu, (key 10 (by omega)).trans h.dr⟩
theorem SlotA.set {A : Array Value} (hA : A.size = 44) {i : Nat} (hi : i < 4) {s : bu.Slot} {V : Value} (h : SlotA A i s V) (r : Nat) (hr : r < 11) (u : Value) (s' : bu.Slot) (V' : Value)
    (h0 : (if r = 0 then u else .bool s.on) = .bool s'.on) (h1 : ∀ k, k < 8 → (if r = 1 + k then u else .bool (s.kinds k)) = .bool (s'.kinds k)) (h9 : (if r = 9 then u else V) = V') (h10 : (if r = 10 then u else .int .i64 s.dropped) = .int .i64 s'.dropped) : SlotA (A.setIfInBounds (i * 11 + r) u) i s' V' := by
  have key : ∀ x v, x < 11 → A[i * 11 + x]? = some v → (A.setIfInBounds (i * 11 + r) u)[i * 11 + x]? = some (if r = x then u else v) := fun x v hx hv => by
    rw [Array.getElem?_setIfInBounds]
    by_cases e : r = x
    · subst e
      rw [if_pos rfl, if_pos (by omega), if_pos rfl]
    · rw [if_neg (by omega), if_neg e, hv]
  refine ⟨?_, fun k hk => ?_, ?_, ?_⟩
  · rw [← h0]; exact key 0 _ (by omega) h.on
  · rw [← h1 k hk, Nat.add_assoc]; exact key (1 + k) _ (by omega) (by rw [← Nat.add_assoc]; exact h.ks k hk)
  · rw [← h9]; exact key 9 _ (by omega) h.qu
  · rw [← h10]; exact key 10 _ (by omega) h.dr
/-- a bus in block q: its slots, where their queues lie -/
structure BuAt (w : World) (q : Nat) (S : Nat → bu.Slot) (V : Nat → Value) : Prop where
  box : ∃ A, w.heap[q]? = some (.cells A 61 (0, 0)) ∧ A.size = 44 ∧ ∀ i, i < 4 → SlotA A i (S i) (V i)
  row : ∀ i, i < 4 → EvRow w q (V i) (S i).queue
  apart : ∀ i j, i < 4 → j < 4 → i ≠ j → ∀ g, (V i).ownBlock = some g → (V j).ownBlock ≠ some g
/-- a bus's blocks -/
def Own (q : Nat) (V : Nat → Value) (y : Nat) : Prop := y = q ∨ ∃ i, i < 4 ∧ (V i).ownBlock = some y
theorem BuAt.lt {w : World} {q : Nat} {S : Nat → bu.Slot} {V : Nat → Value} (h : BuAt w q S V) : q < w.heap.size := by
  obtain ⟨A, h1, -⟩ := h.box
  exact heap_lt h1
theorem BuAt.ne {w : World} {q : Nat} {S : Nat → bu.Slot} {V : Nat → Value} (h : BuAt w q S V) {i : Nat} (hi : i < 4) : (V i).ownBlock ≠ some q := fun e => by
  obtain ⟨cur, hc⟩ := own_type (h.row i hi) e
  obtain ⟨A, h1, -⟩ := h.box
  rw [h1] at hc
  injection hc with hc
  injection hc with _ e
  exact absurd e (by decide)
theorem BuAt.own_lt {w : World} {q : Nat} {S : Nat → bu.Slot} {V : Nat → Value} (h : BuAt w q S V) {y : Nat} (hy : Own q V y) : q ≤ y ∧ y < w.heap.size := by
  rcases hy with rfl | ⟨i, hi, e⟩
  · exact ⟨Nat.le_refl _, h.lt⟩
  · exact (h.row i hi).lt y e
theorem BuAt.keep {w w' : World} {q : Nat} {S : Nat → bu.Slot} {V : Nat → Value} (h : BuAt w q S V) (hk : ∀ y, Own q V y → w'.heap[y]? = w.heap[y]?) : BuAt w' q S V := by
  obtain ⟨A, h1, h2⟩ := h.box
  exact ⟨⟨A, (hk q (.inl rfl)).trans h1, h2⟩, fun i hi => own_keep (h.row i hi) fun g cur _ _ e _ => hk g (.inr ⟨i, hi, e⟩), h.apart⟩
theorem BuAt.below {w w' : World} {q : Nat} {S : Nat → bu.Slot} {V : Nat → Value} (h : BuAt w q S V) (hb : Below w.heap.size w w') : BuAt w' q S V := h.keep fun y hy => hb.block y (h.own_lt hy).2
/-- one cell of a slot is stored -/
theorem BuAt.set {w : World} {q : Nat} {S : Nat → bu.Slot} {V : Nat → Value} (h : BuAt w q S V) {i : Nat} (hi : i < 4) (r : Nat) (hr : r < 11) (u : Value) (s' : bu.Slot) (hq : s'.queue = (S i).queue)
    (h0 : (if r = 0 then u else .bool (S i).on) = .bool s'.on) (h1 : ∀ k, k < 8 → (if r = 1 + k then u else .bool ((S i).kinds k)) = .bool (s'.kinds k)) (h9 : (if r = 9 then u else V i) = V i) (h10 : (if r = 10 then u else .int .i64 (S i).dropped) = .int .i64 s'.dropped) :
    BuAt (w.setCell ⟨q, i * 11 + r, none⟩ u) q (bu.upd S i s') V := by
  obtain ⟨A, e1, e2, e3⟩ := h.box
  refine ⟨⟨A.setIfInBounds (i * 11 + r) u, heap_setCell_same w q _ _ _ u e1, by simpa using e2, fun j hj => ?_⟩, fun j hj => ?_, h.apart⟩
  · by_cases e : j = i
    · subst e
      rw [bu.upd_same]
      exact (e3 j hj).set e2 hj r hr u s' (V j) h0 h1 h9 h10
    · rw [bu.upd_other _ _ e]
      exact (e3 j hj).other hr e u
  · have hrow : EvRow (w.setCell ⟨q, i * 11 + r, none⟩ u) q (V j) (S j).queue := own_keep (h.row j hj) fun g cur _ _ e _ => Below.heap_setCell _ _ _ g (fun x => h.ne hj (by rw [e, x]))
    by_cases e : j = i
    · subst e
      rw [bu.upd_same, hq]
      exact hrow
    · rw [bu.upd_other _ _ e]
      exact hrow
/-- a queue, and where it lies -/
theorem BuAt.setQ {w w' : World} {q : Nat} {S : Nat → bu.Slot} {V : Nat → Value} (h : BuAt w q S V) {i : Nat} (hi : i < 4) (V' : Value) (l : List bu.Ev) (hk : ∀ y, Own q V y → (V i).ownBlock ≠ some y → w'.heap[y]? = w.heap[y]?) (hr : EvRow w' q V' l) (hv : V'.ownBlock = (V i).ownBlock ∨ ∃ y, V'.ownBlock = some y ∧ w.heap.size ≤ y) :
    BuAt (w'.setCell ⟨q, i * 11 + 9, none⟩ V') q (bu.upd S i { S i with queue := l }) (fun j => if j = i then V' else V j) := by
  obtain ⟨A, e1, e2, e3⟩ := h.box
  have hq : w'.heap[q]? = some (.cells A 61 (0, 0)) := (hk q (.inl rfl) (h.ne hi)).trans e1
  refine ⟨⟨A.setIfInBounds (i * 11 + 9) V', heap_setCell_same w' q _ _ _ V' hq, by simpa using e2, fun j hj => ?_⟩, fun j hj => ?_, fun j k hj hk2 hjk g => ?_⟩
  · by_cases e : j = i
    · subst e
      rw [bu.upd_same]
      simp only [if_pos]
      exact (e3 j hj).set e2 hj 9 (by omega) V' _ V' (by simp) (fun k hk => by rw [if_neg (by omega)]) (by simp) (by simp)
    · rw [bu.upd_other _ _ e]
      simp only [if_neg e]
      exact (e3 j hj).other (by omega) e V'
  · have hb : ∀ y, y ≠ q → (w'.setCell ⟨q, i * 11 + 9, none⟩ V').heap[y]? = w'.heap[y]? := fun y hy => Below.heap_setCell _ _ _ y hy
    by_cases e : j = i
    · subst e
      rw [bu.upd_same]
      simp only [if_pos]
      exact own_keep hr fun g cur _ _ e hg => hb g (fun x => by
        subst x
        rw [hq] at hg
        injection hg with hg
        injection hg with _ e
        exact absurd e (by decide))
    · rw [bu.upd_other _ _ e]
      simp only [if_neg e]
      exact own_keep (h.row j hj) fun g cur _ _ e4 _ => (hb g (fun x => h.ne hj (by rw [e4, x]))).trans (hk g (.inr ⟨j, hj, e4⟩) (fun x => h.apart i j hi hj (Ne.symm e) g x e4))
  · show (if j = i then V' else V j).ownBlock = some g → (if k = i then V' else V k).ownBlock ≠ some g
    by_cases ej : j = i
    · subst ej
      have ek : ¬ k = j := fun x => hjk x.symm
      rw [if_pos rfl, if_neg ek]
      intro hg hg2
      rcases hv with hv | ⟨y, hv, hy⟩
      · exact h.apart j k hj hk2 hjk g (hv.symm.trans hg) hg2
      · have h5 := ((h.row k hk2).lt g hg2).2
        rw [hv] at hg
        have := Option.some.inj hg
        omega
    · rw [if_neg ej]
      by_cases ek : k = i
      · subst ek
        rw [if_pos rfl]
        intro hg hg2
        rcases hv with hv | ⟨y, hv, hy⟩
        · exact h.apart j k hj hk2 hjk g hg (hv.symm.trans hg2)
        · have h5 := ((h.row j hj).lt g hg).2
          rw [hv] at hg2
          have := Option.some.inj hg2
          omega
      · rw [if_neg ek]
        exact h.apart j k hj hk2 hjk g
theorem BuAt.cells {w : World} {q : Nat} {S : Nat → bu.Slot} {V : Nat → Value} (h : BuAt w q S V) {i : Nat} (hi : i < 4) : w.cell? ⟨q, i * 11, none⟩ = some (.bool (S i).on) ∧ (∀ k, k < 8 → w.cell? ⟨q, i * 11 + 1 + k, none⟩ = some (.bool ((S i).kinds k))) ∧ w.cell? ⟨q, i * 11 + 9, none⟩ = some (V i) ∧ w.cell? ⟨q, i * 11 + 10, none⟩ = some (.int .i64 (S i).dropped) := by
  obtain ⟨A, e1, -, e3⟩ := h.box
  have s := e3 i hi
  exact ⟨(cell_of_heap e1).trans s.on, fun k hk => (cell_of_heap e1).trans (s.ks k hk), (cell_of_heap e1).trans s.qu, (cell_of_heap e1).trans s.dr⟩
theorem BuAt.thaw {w : World} {q : Nat} {S : Nat → bu.Slot} {V : Nat → Value} (h : BuAt w q S V) (k : Nat) : w.frozen? ⟨q, k, none⟩ = false := by
  obtain ⟨A, e1, -⟩ := h.box
  exact Go.Proofs.Ytgegphciaejkiaa.thaw e1
end Go.Proofs.Ytgegphciaejkiaa
