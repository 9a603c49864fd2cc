/- Memory: frames; rows of bytes, of instructions, of functions; a module's value. -/
import Derived.Test.YtbmcmcdgdhabaaaDoorMdBack
import Derived.Test.YtbmcmcdgdhabaaaDoorRows
import Derived.WalkSpells
import Derived.WalkLawsBesides
import Derived.BigQuiet
import Derived.Deep.RegionHeld3
import Derived.Deep.RegionWith
import Derived.Deep.RegionLaw
import Derived.Deep.LoopGhost
import Derived.WalkKit
import Derived.Lib.Hide
import Derived.Laws.OwnMore
import Derived.ArgAppend
import Derived.Deep.QuietTactic
import Derived.ProofKit
import Derived.OpenShut
import Derived.Carry
import Derived.Lib.SmallJoins
import Derived.Lib.SliceRun
import Derived.Laws.Slices
import Derived.IntWalk
import Derived.Deep.DeepCutAuto
import Derived.Laws.ResultCell
import Derived.Deep.AppendLies
import Derived.Lib.AppendZeros
namespace Go.Proofs.YtbmcmcdgdhabaaaDoor
open Go.RowKit
/-- what a call may turn: new blocks, and those of S -/
structure Fr (S : Nat → Prop) (w w' : World) : Prop where
  os : w'.os = w.os
  tape : w'.tape = w.tape
  output : w'.output = w.output
  size : w.heap.size ≤ w'.heap.size
  block : ∀ k, k < w.heap.size → ¬ S k → w'.heap[k]? = w.heap[k]?
theorem Fr.refl (S : Nat → Prop) (w : World) : Fr S w w := ⟨rfl, rfl, rfl, Nat.le_refl _, fun _ _ _ => rfl⟩
theorem Fr.of_below {w w' : World} (h : Below w.heap.size w w') (S : Nat → Prop) : Fr S w w' := ⟨h.os, h.tape, h.output, h.size, fun k hk _ => h.block k hk⟩
theorem Fr.trans {S S' : Nat → Prop} {a b c : World} (h : Fr S a b) (g : Fr S' b c) (hs : ∀ k, k < a.heap.size → S' k → S k) : Fr S a c :=
  ⟨g.os.trans h.os, g.tape.trans h.tape, g.output.trans h.output, Nat.le_trans h.size g.size, fun k hk hn => (g.block k (Nat.lt_of_lt_of_le hk h.size) (fun x => hn (hs k hk x))).trans (h.block k hk hn)⟩
theorem Fr.then {S : Nat → Prop} {a b c : World} (h : Fr S a b) (g : Fr S b c) : Fr S a c := h.trans g fun _ _ x => x
theorem Fr.below {S : Nat → Prop} {a b c : World} (h : Fr S a b) (g : Below b.heap.size b c) : Fr S a c := h.then (Fr.of_below g S)
theorem Fr.wider {S S' : Nat → Prop} {a b : World} (h : Fr S a b) (hs : ∀ k, k < a.heap.size → S k → S' k) : Fr S' a b := ⟨h.os, h.tape, h.output, h.size, fun k hk hn => h.block k hk fun x => hn (hs k hk x)⟩
theorem Fr.to_below {S : Nat → Prop} {a b : World} (h : Fr S a b) (B : Nat) (hB : B ≤ a.heap.size) (hs : ∀ k, k < B → ¬ S k) : Below B a b := ⟨h.os, h.tape, h.output, h.size, fun k hk => h.block k (by omega) (hs k hk)⟩
theorem Fr.setCell {S : Nat → Prop} {a b : World} (h : Fr S a b) (x : Addr) (u : Value) (hx : a.heap.size ≤ x.block ∨ S x.block) : Fr S a (b.setCell x u) :=
  ⟨h.os, h.tape, h.output, by simpa using h.size, fun k hk hn => (Below.heap_setCell b x u k (fun e => by subst e; rcases hx with h1 | h1 <;> first | omega | exact hn h1)).trans (h.block k hk hn)⟩
theorem Fr.alloc {S : Nat → Prop} {a b : World} (h : Fr S a b) (o : Obj) : Fr S a (b.alloc o) := h.below ((Below.refl _ _).alloc (Nat.le_refl _) o)
theorem Fr.of_grown {w w' : World} {row : Option Nat} (h : w.grownBy w' row) : Fr (fun k => row = some k) w w' := ⟨h.os, h.tape, h.output, h.size, fun k hk hn => h.block k hk (fun e => hn e.symm)⟩
theorem Fr.drew {S : Nat → Prop} {a b : World} (h : Fr S a b) : Fr S a b.drew := ⟨h.os, h.tape, h.output, h.size, h.block⟩
theorem Fr.drewN {S : Nat → Prop} {a b : World} (h : Fr S a b) (n : Nat) : Fr S a (b.drewN n) := ⟨h.os, h.tape, h.output, h.size, h.block⟩
theorem cell_of_eq {w w' : World} {b : Nat} (h : w'.heap[b]? = w.heap[b]?) (k : Nat) : w'.cell? ⟨b, k, none⟩ = w.cell? ⟨b, k, none⟩ := by simp [World.cell?, h]
theorem cell_of_heap {w : World} {p k : Nat} {cur : Array Value} {t : TypeId} (h : w.heap[p]? = some (.cells cur t (0, 0))) : w.cell? ⟨p, k, none⟩ = cur[k]? := by simp [World.cell?, h]
theorem thaw {w : World} {p k : Nat} {cur : Array Value} {t : TypeId} (h : w.heap[p]? = some (.cells cur t (0, 0))) : w.frozen? ⟨p, k, none⟩ = false := by simp [World.frozen?, h]
theorem heap_lt {w : World} {k : Nat} {o : Obj} (h : w.heap[k]? = some o) : k < w.heap.size := (Array.getElem?_eq_some_iff.1 h).1
theorem heap_set_other (w : World) (a : Addr) (u : Value) {k : Nat} (h : k ≠ a.block) {o : Obj} (hk : w.heap[k]? = some o) : (w.setCell a u).heap[k]? = some o := (Below.heap_setCell w a u k h).trans hk
theorem below_one (W : World) (o : Obj) : Below W.heap.size W (W.alloc o) := (Below.refl _ _).alloc (Nat.le_refl _) o
theorem below_dN {B : Nat} {a w : World} (h : Below B a w) (n : Nat) : Below B a (w.drewN n) := ⟨h.os, h.tape, h.output, h.size, h.block⟩
theorem below_of_dN {B : Nat} {w w' : World} {j : Nat} (h : Below B (w.drewN j) w') : Below B w w' := ⟨h.os, h.tape, h.output, h.size, h.block⟩
theorem addr_b0 (b i : Nat) : (⟨b, 0, none⟩ : Addr).add i = ⟨b, i, none⟩ := by
  unfold Addr.add
  split <;> simp_all
theorem addr_plain (b o i : Nat) : (⟨b, o, none⟩ : Addr).add i = ⟨b, o + i, none⟩ := by
  unfold Addr.add
  split <;> simp_all
theorem ret_bool {a b : Bool} (h : a = b) : Ending.returned (.bool a) = .returned (.bool b) := by rw [h]
theorem ret_int {a b : Int} (h : a = b) : Ending.returned (.int .i64 a) = .returned (.int .i64 b) := by rw [h]
theorem row_below {w w' : World} {B : Nat} {e : TypeId} {size : Nat} {v : Value} {n : Nat} {xs : List Value} (h : w.ownsRow B e size v n xs) (hb : Below w.heap.size w w') : w'.ownsRow B e size v n xs := by
  refine ⟨h.1, ?_⟩
  rcases h.2 with h' | ⟨g, cap, cur, rfl, hg, hgg, rest⟩
  · exact .inl h'
  · exact .inr ⟨g, cap, cur, rfl, hg, (hb.block g (Array.getElem?_eq_some_iff.1 hgg).1).trans hgg, rest⟩
theorem own_slice {w : World} {base : Nat} {e : TypeId} {size : Nat} {v : Value} {n : Nat} {xs : List Value} (h : w.ownsRow base e size v n xs) : ∃ ao cap, v = .slice ao n cap := by
  rcases h.2 with ⟨rfl, rfl⟩ | ⟨g, cap, cur, rfl, _⟩
  · exact ⟨_, _, rfl⟩
  · exact ⟨_, _, rfl⟩
theorem own_base {w : World} {base base' : Nat} {e : TypeId} {size : Nat} {v : Value} {n : Nat} {xs : List Value} (h : w.ownsRow base e size v n xs) (hb : base' ≤ base) : w.ownsRow base' e size v n xs := by
  refine ⟨h.1, ?_⟩
  rcases h.2 with h' | ⟨g, cap, cur, rfl, hg, rest⟩
  · exact .inl h'
  · exact .inr ⟨g, cap, cur, rfl, by omega, rest⟩
theorem own_type {w : World} {B : Nat} {e : TypeId} {size : Nat} {v : Value} {n : Nat} {xs : List Value} (h : w.ownsRow B e size v n xs) {g : Nat} (hg : v.ownBlock = some g) : ∃ cur, w.heap[g]? = some (.cells cur e (0, 0)) := by
  rcases h.2 with ⟨rfl, _⟩ | ⟨g', cap, cur, rfl, hB, hgg, rest⟩
  · cases hg
  · obtain rfl : g' = g := Option.some.inj hg
    exact ⟨cur, hgg⟩
/-- a row is kept where its block is -/
theorem own_keep {w w' : World} {B : Nat} {e : TypeId} {size : Nat} {v : Value} {n : Nat} {xs : List Value} (h : w.ownsRow B e size v n xs) (hk : ∀ g cur, B ≤ g → g < w.heap.size → v.ownBlock = some g → w.heap[g]? = some (.cells cur e (0, 0)) → w'.heap[g]? = w.heap[g]?) : w'.ownsRow B e size v n xs := by
  refine ⟨h.1, ?_⟩
  rcases h.2 with h' | ⟨g, cap, cur, rfl, hB, hg, rest⟩
  · exact .inl h'
  · exact .inr ⟨g, cap, cur, rfl, hB, (hk g cur hB (Array.getElem?_eq_some_iff.1 hg).1 rfl hg).trans hg, rest⟩
/-- a row of n things of a size, wherever it lies; its block is one of D -/
def RowIn (w : World) (D : Nat → Prop) (V : Value) (size n : Nat) (cs : List Value) : Prop :=
  ∃ o cap, V = .slice o n cap ∧ n ≤ cap ∧ cap ≤ 9223372036854775807 ∧ cs.length = n * size ∧ (n = 0 ∨ ∃ b off, o = some ⟨b, off, none⟩ ∧ D b ∧ b < w.heap.size ∧ ∀ k v, cs[k]? = some v → w.cell? ⟨b, off + k, none⟩ = some v)
theorem RowIn.keep {w w' : World} {D D' : Nat → Prop} {V : Value} {size n : Nat} {cs : List Value} (h : RowIn w D V size n cs) (hk : ∀ k, D k → k < w.heap.size → w'.heap[k]? = w.heap[k]?) (hs : w.heap.size ≤ w'.heap.size) (hd : ∀ k, D k → k < w.heap.size → D' k) : RowIn w' D' V size n cs := by
  obtain ⟨o, cap, e, h1, h2, h3, h4⟩ := h
  refine ⟨o, cap, e, h1, h2, h3, h4.imp id ?_⟩
  rintro ⟨b, off, e1, hb, hlt, hc⟩
  exact ⟨b, off, e1, hd b hb hlt, Nat.lt_of_lt_of_le hlt hs, fun k v hv => (cell_of_eq (hk b hb hlt) _).trans (hc k v hv)⟩
theorem RowIn.below {w w' : World} {D : Nat → Prop} {V : Value} {size n : Nat} {cs : List Value} (h : RowIn w D V size n cs) (hb : Below w.heap.size w w') : RowIn w' D V size n cs :=
  h.keep (fun k _ hk => hb.block k hk) hb.size fun _ h _ => h
theorem RowIn.fr {S : Nat → Prop} {w w' : World} {D : Nat → Prop} {V : Value} {size n : Nat} {cs : List Value} (h : RowIn w D V size n cs) (hb : Fr S w w') (hs : ∀ k, D k → k < w.heap.size → ¬ S k) : RowIn w' D V size n cs :=
  h.keep (fun k hd hk => hb.block k hk (hs k hd hk)) hb.size fun _ h _ => h
theorem RowIn.wide {w : World} {D D' : Nat → Prop} {V : Value} {size n : Nat} {cs : List Value} (h : RowIn w D V size n cs) (hd : ∀ k, D k → k < w.heap.size → D' k) : RowIn w D' V size n cs := h.keep (fun _ _ _ => rfl) (Nat.le_refl _) hd
theorem RowIn.nil (w : World) (D : Nat → Prop) (size : Nat) : RowIn w D (.slice none 0 0) size 0 [] := ⟨none, 0, rfl, Nat.le_refl _, by decide, by simp, .inl rfl⟩
theorem RowIn.of_own {w : World} {B : Nat} {e : TypeId} {size : Nat} {V : Value} {n : Nat} {cs : List Value} (h : w.ownsRow B e size V n cs) (hl : cs.length = n * size) (D : Nat → Prop) (hD : ∀ g, V.ownBlock = some g → D g) : RowIn w D V size n cs := by
  rcases h.2 with ⟨rfl, h0⟩ | ⟨g, cap, cur, rfl, hB, hg, hc, hm, hs, ht⟩
  · exact ⟨none, 0, by rw [h0], by omega, by decide, hl, .inl h0⟩
  · refine ⟨_, cap, rfl, hc, hm, hl, .inr ⟨g, 0, rfl, hD g rfl, (Array.getElem?_eq_some_iff.1 hg).1, fun k v hv => ?_⟩⟩
    rw [cell_of_heap hg, ← Array.getElem?_toList, Nat.zero_add]
    have : (cur.toList.take cs.length)[k]? = some v := by rw [hl, ht]; exact hv
    rw [List.getElem?_take] at this
    split at this
    · exact this
    · cases this
theorem RowIn.lens {w : World} {D : Nat → Prop} {o : Option Addr} {m cap size n : Nat} {cs : List Value} (h : RowIn w D (.slice o m cap) size n cs) : m = n ∧ n ≤ cap ∧ cap ≤ 9223372036854775807 := by
  obtain ⟨o', cap', e, h1, h2, -⟩ := h
  obtain ⟨-, rfl, rfl⟩ := Value.slice.inj e
  exact ⟨rfl, h1, h2⟩
/-- a thing of a row: where it lies -/
theorem RowIn.at_ {w : World} {D : Nat → Prop} {o : Option Addr} {m cap size n : Nat} {cs : List Value} (h : RowIn w D (.slice o m cap) size n cs) (k : Nat) (hk : k < n) : ∃ b off, o = some ⟨b, off, none⟩ ∧ D b ∧ b < w.heap.size ∧ ∀ j v, cs[j]? = some v → w.cell? ⟨b, off + j, none⟩ = some v := by
  obtain ⟨o', cap', e, h1, h2, h3, h4⟩ := h
  obtain ⟨rfl, -, -⟩ := Value.slice.inj e
  rcases h4 with h4 | h4
  · omega
  · exact h4
/-- bytes as cells -/
def byC (l : List UInt8) : List Value := l.map fun c => Value.int .u8 (c.toNat : Nat)
theorem byC_len (l : List UInt8) : (byC l).length = l.length := by simp [byC]
theorem byC_app (a b : List UInt8) : byC (a ++ b) = byC a ++ byC b := by simp [byC]
theorem byC_at (l : List UInt8) (k : Nat) (h : k < l.length) : (byC l)[k]? = some (.int .u8 (l[k].toNat : Nat)) := by simp [byC, h]
abbrev BsIn (w : World) (D : Nat → Prop) (V : Value) (l : List UInt8) : Prop := RowIn w D V 1 l.length (byC l)
theorem BsIn.cell {w : World} {D : Nat → Prop} {o : Option Addr} {m cap : Nat} {l : List UInt8} (h : BsIn w D (.slice o m cap) l) (k : Nat) (hk : k < l.length) : ∃ b off, o = some ⟨b, off, none⟩ ∧ b < w.heap.size ∧ w.cell? ⟨b, off + k, none⟩ = some (.int .u8 (l[k].toNat : Nat)) := by
  obtain ⟨b, off, e, -, hlt, hc⟩ := RowIn.at_ h k hk
  exact ⟨b, off, e, hlt, hc k _ (byC_at l k hk)⟩
/-- a slice's end: under a name of its own, so that a walk does not part on it -/
def slo (o : Option Addr) (cap l : Nat) : Option Addr := if cap = l then o else o.map (·.add l)
theorem slo_some {o : Option Addr} {cap l b off : Nat} (h : o = some ⟨b, off, none⟩) (hl : l < cap) : slo o cap l = some ⟨b, off + l, none⟩ := by
  unfold slo
  rw [if_neg (by omega), h, Option.map_some, addr_plain]
theorem BsIn.drop {w : World} {D : Nat → Prop} {o : Option Addr} {m cap : Nat} {l : List UInt8} (h : BsIn w D (.slice o m cap) l) (k : Nat) (hk : k ≤ l.length) : BsIn w D (.slice (slo o cap k) (l.length - k) (cap - k)) (l.drop k) := by
  obtain ⟨o', cap', e, h1, h2, h3, h4⟩ := h
  obtain ⟨rfl, rfl, rfl⟩ := Value.slice.inj e
  refine ⟨_, _, by rw [List.length_drop], by rw [List.length_drop]; omega, by omega, by rw [byC_len, Nat.mul_one], ?_⟩
  by_cases hk2 : k = l.length
  · exact .inl (by rw [List.length_drop]; omega)
  · rcases h4 with h4 | ⟨b, off, rfl, hd, hlt, hc⟩
    · omega
    · refine .inr ⟨b, off + k, slo_some rfl (by omega), hd, hlt, fun j v hv => ?_⟩
      rw [Nat.add_assoc]
      refine hc (k + j) v ?_
      rw [← hv]
      unfold byC
      rw [List.map_drop, List.getElem?_drop]
theorem BsIn.take {w : World} {D : Nat → Prop} {o : Option Addr} {m cap : Nat} {l : List UInt8} (h : BsIn w D (.slice o m cap) l) (k : Nat) (hk : k ≤ l.length) : BsIn w D (.slice o k cap) (l.take k) := by
  obtain ⟨o', cap', e, h1, h2, h3, h4⟩ := h
  obtain ⟨rfl, rfl, rfl⟩ := Value.slice.inj e
  refine ⟨_, _, by rw [List.length_take, Nat.min_eq_left hk], by rw [List.length_take]; omega, h2, by rw [byC_len, Nat.mul_one], ?_⟩
  rcases h4 with h4 | ⟨b, off, rfl, hd, hlt, hc⟩
  · exact .inl (by rw [List.length_take]; omega)
  · refine .inr ⟨b, off, rfl, hd, hlt, fun j v hv => hc j v ?_⟩
    unfold byC at hv ⊢
    rw [List.map_take, List.getElem?_take] at hv
    split at hv
    · exact hv
    · cases hv
set_option maxRecDepth 100000 in
theorem run_blo (o : Option Addr) (n cap : Nat) (k : IntKind) (l : Nat) (hl : (l : Int) ≤ (n : Int)) (wx : World) : (Instr.slice 23 (.slice o n cap) (some (.int k (l : Int))) none none).run Tryd.prog wx = .ok (.slice (slo o cap l) (n - l) (cap - l)) wx := by
  rw [run_slice_l wx 23 o n cap Tryd.underlying23 k l (by omega) (by omega)]
  have hz : (sizeOf (Tryd.prog.elem 23)).run Tryd.prog wx = .ok 1 wx := by kernel_rfl
  rw [hz]
  simp [Result.andThen, sliced, slo]
theorem addr_add0 (a : Addr) : a.add 0 = a := by unfold Addr.add; split <;> simp_all
set_option maxRecDepth 100000 in
theorem run_bhi (o : Option Addr) (n cap : Nat) (k : IntKind) (l : Nat) (hl : (l : Int) ≤ (n : Int)) (hc : n ≤ cap) (wx : World) : (Instr.slice 23 (.slice o n cap) none (some (.int k (l : Int))) none).run Tryd.prog wx = .ok (.slice o l cap) wx := by
  rw [run_slice_h wx 23 o n cap Tryd.underlying23 k l (by omega) (by omega)]
  have hz : (sizeOf (Tryd.prog.elem 23)).run Tryd.prog wx = .ok 1 wx := by kernel_rfl
  rw [hz]
  have e : (fun x : Addr => x.add 0) = id := funext addr_add0
  simp [Result.andThen, sliced, e]

/-! ### modules -/
abbrev insV (i : md.Ins) : Value := .agg #[.int .i64 i.op, .int .i64 i.n]
def insC (i : md.Ins) : List Value := [.int .i64 i.op, .int .i64 i.n]
def codeC (l : List md.Ins) : List Value := l.flatMap insC
theorem codeC_len (l : List md.Ins) : (codeC l).length = l.length * 2 := by
  induction l with
  | nil => rfl
  | cons v l ih => show (insC v ++ codeC l).length = _; rw [List.length_append, ih, List.length_cons]; show 2 + _ = _; omega
theorem codeC_snoc (l : List md.Ins) (i : md.Ins) : codeC (l ++ [i]) = codeC l ++ insC i := by simp [codeC]
theorem codeC_at : ∀ (l : List md.Ins) (k : Nat) (h : k < l.length), (codeC l)[k * 2]? = some (.int .i64 l[k].op) ∧ (codeC l)[k * 2 + 1]? = some (.int .i64 l[k].n)
  | [], k, h => by simp at h
  | i :: l, 0, h => ⟨rfl, rfl⟩
  | i :: l, k + 1, h => by
    have := codeC_at l k (by simpa using h)
    rw [show (k + 1) * 2 = k * 2 + 1 + 1 by omega]
    exact this
abbrev InsIn (w : World) (D : Nat → Prop) (V : Value) (l : List md.Ins) : Prop := RowIn w D V 2 l.length (codeC l)
theorem InsIn.cell {w : World} {D : Nat → Prop} {o : Option Addr} {m cap : Nat} {l : List md.Ins} (h : InsIn w D (.slice o m cap) l) (k : Nat) (hk : k < l.length) : ∃ b off, o = some ⟨b, off, none⟩ ∧ D b ∧ b < w.heap.size ∧ w.cell? ⟨b, off + k * 2, none⟩ = some (.int .i64 l[k].op) ∧ w.cell? ⟨b, off + k * 2 + 1, none⟩ = some (.int .i64 l[k].n) := by
  obtain ⟨b, off, e, hd, hlt, hc⟩ := RowIn.at_ h k hk
  obtain ⟨h1, h2⟩ := codeC_at l k hk
  exact ⟨b, off, e, hd, hlt, hc _ _ h1, by rw [Nat.add_assoc]; exact hc _ _ h2⟩
/-- a function's cells: its numbers, and where its code lies -/
def FnC (w : World) (D : Nat → Prop) (f : md.Fn) (cs : List Value) : Prop := ∃ VC, cs = [.int .i64 f.params, .int .i64 f.results, .int .i64 f.locals, VC] ∧ InsIn w D VC f.code
def FnsC (w : World) (D : Nat → Prop) : List md.Fn → List Value → Prop
  | [], cs => cs = []
  | f :: r, cs => ∃ c0 c1, cs = c0 ++ c1 ∧ FnC w D f c0 ∧ FnsC w D r c1
def FnsIn (w : World) (D : Nat → Prop) (V : Value) (fs : List md.Fn) : Prop := ∃ cs, RowIn w D V 4 fs.length cs ∧ FnsC w D fs cs
theorem FnC.keep {w w' : World} {D D' : Nat → Prop} (hk : ∀ k, D k → k < w.heap.size → w'.heap[k]? = w.heap[k]?) (hs : w.heap.size ≤ w'.heap.size) (hd : ∀ k, D k → k < w.heap.size → D' k) {f : md.Fn} {cs : List Value} (h : FnC w D f cs) : FnC w' D' f cs := by
  obtain ⟨VC, e, h1⟩ := h
  exact ⟨VC, e, RowIn.keep h1 hk hs hd⟩
theorem FnsC.keep {w w' : World} {D D' : Nat → Prop} (hk : ∀ k, D k → k < w.heap.size → w'.heap[k]? = w.heap[k]?) (hs : w.heap.size ≤ w'.heap.size) (hd : ∀ k, D k → k < w.heap.size → D' k) : ∀ (l : List md.Fn) (cs : List Value), FnsC w D l cs → FnsC w' D' l cs
  | [], cs, h => h
  | f :: r, cs, h => by
    obtain ⟨c0, c1, e, h0, h1⟩ := h
    exact ⟨c0, c1, e, FnC.keep hk hs hd h0, FnsC.keep hk hs hd r c1 h1⟩
theorem FnsIn.keep {w w' : World} {D D' : Nat → Prop} {V : Value} {fs : List md.Fn} (h : FnsIn w D V fs) (hk : ∀ k, D k → k < w.heap.size → w'.heap[k]? = w.heap[k]?) (hs : w.heap.size ≤ w'.heap.size) (hd : ∀ k, D k → k < w.heap.size → D' k) : FnsIn w' D' V fs := by
  obtain ⟨kc, h1, h2⟩ := h
  exact ⟨kc, h1.keep hk hs hd, FnsC.keep hk hs hd _ _ h2⟩
theorem FnsIn.below {w w' : World} {D : Nat → Prop} {V : Value} {fs : List md.Fn} (h : FnsIn w D V fs) (hb : Below w.heap.size w w') : FnsIn w' D V fs :=
  h.keep (fun k _ hk => hb.block k hk) hb.size fun _ h _ => h
theorem FnsC.snoc {w : World} {D : Nat → Prop} {f : md.Fn} {c : List Value} (hf : FnC w D f c) : ∀ (l : List md.Fn) (cs : List Value), FnsC w D l cs → FnsC w D (l ++ [f]) (cs ++ c)
  | [], cs, h => by
    obtain rfl : cs = [] := h
    exact ⟨c, [], by simp, hf, rfl⟩
  | g :: r, cs, h => by
    obtain ⟨c0, c1, rfl, h0, h1⟩ := h
    exact ⟨c0, c1 ++ c, by simp, h0, FnsC.snoc hf r c1 h1⟩
theorem FnC.four {w : World} {D : Nat → Prop} {f : md.Fn} {c : List Value} (h : FnC w D f c) : c.length = 4 := by
  obtain ⟨VC, rfl, -⟩ := h
  rfl
theorem FnsC.at_ {w : World} {D : Nat → Prop} : ∀ (l : List md.Fn) (cs : List Value), FnsC w D l cs → ∀ (k : Nat) (h : k < l.length), ∃ VC, cs[k * 4]? = some (.int .i64 l[k].params) ∧ cs[k * 4 + 1]? = some (.int .i64 l[k].results) ∧ cs[k * 4 + 2]? = some (.int .i64 l[k].locals) ∧ cs[k * 4 + 3]? = some VC ∧ InsIn w D VC l[k].code
  | [], cs, _, k, h => by simp at h
  | f :: r, cs, h, 0, hk => by
    obtain ⟨c0, c1, rfl, ⟨VC, rfl, hc⟩, -⟩ := h
    exact ⟨VC, rfl, rfl, rfl, rfl, hc⟩
  | f :: r, cs, h, k + 1, hk => by
    obtain ⟨c0, c1, rfl, h0, h1⟩ := h
    have h4 := h0.four
    obtain ⟨VC, a0, a1, a2, a3, hc⟩ := FnsC.at_ r c1 h1 k (by simpa using hk)
    have key : ∀ j, j < 4 → (c0 ++ c1)[(k + 1) * 4 + j]? = c1[k * 4 + j]? := fun j hj => by
      rw [List.getElem?_append_right (by omega)]
      congr 1
      omega
    exact ⟨VC, (key 0 (by decide)).trans a0, (key 1 (by decide)).trans a1, (key 2 (by decide)).trans a2, (key 3 (by decide)).trans a3, hc⟩
/-- a function of a row -/
theorem FnsIn.cell {w : World} {D : Nat → Prop} {o : Option Addr} {m cap : Nat} {l : List md.Fn} (h : FnsIn w D (.slice o m cap) l) (k : Nat) (hk : k < l.length) : ∃ b off oc cc, o = some ⟨b, off, none⟩ ∧ D b ∧ b < w.heap.size ∧ w.cell? ⟨b, off + k * 4, none⟩ = some (.int .i64 l[k].params) ∧ w.cell? ⟨b, off + k * 4 + 1, none⟩ = some (.int .i64 l[k].results) ∧ w.cell? ⟨b, off + k * 4 + 2, none⟩ = some (.int .i64 l[k].locals) ∧ w.cell? ⟨b, off + k * 4 + 3, none⟩ = some (.slice oc l[k].code.length cc) ∧ InsIn w D (.slice oc l[k].code.length cc) l[k].code := by
  obtain ⟨cs, hr, hc⟩ := h
  obtain ⟨b, off, e, hd, hlt, hcell⟩ := RowIn.at_ hr k hk
  obtain ⟨VC, a0, a1, a2, a3, hi⟩ := FnsC.at_ l cs hc k hk
  obtain ⟨oc, cc, rfl, -⟩ := id hi
  exact ⟨b, off, oc, cc, e, hd, hlt, hcell _ _ a0, by rw [Nat.add_assoc]; exact hcell _ _ a1, by rw [Nat.add_assoc]; exact hcell _ _ a2, by rw [Nat.add_assoc]; exact hcell _ _ a3, hi⟩
/-- a module's parts in memory -/
structure ModIn (w : World) (D : Nat → Prop) (VD VF : Value) (m : md.Mod) : Prop where
  data : BsIn w D VD m.data
  fns : FnsIn w D VF m.funcs
theorem ModIn.keep {w w' : World} {D D' : Nat → Prop} {VD VF : Value} {m : md.Mod} (h : ModIn w D VD VF m) (hk : ∀ k, D k → k < w.heap.size → w'.heap[k]? = w.heap[k]?) (hs : w.heap.size ≤ w'.heap.size) (hd : ∀ k, D k → k < w.heap.size → D' k) : ModIn w' D' VD VF m :=
  ⟨RowIn.keep h.data hk hs hd, h.fns.keep hk hs hd⟩
theorem ModIn.below {w w' : World} {D : Nat → Prop} {VD VF : Value} {m : md.Mod} (h : ModIn w D VD VF m) (hb : Below w.heap.size w w') : ModIn w' D VD VF m := h.keep (fun k _ hk => hb.block k hk) hb.size fun _ h _ => h
theorem ModIn.slices {w : World} {D : Nat → Prop} {VD VF : Value} {m : md.Mod} (h : ModIn w D VD VF m) : ∃ od cd of cf, VD = .slice od m.data.length cd ∧ VF = .slice of m.funcs.length cf ∧ m.data.length ≤ cd ∧ cd ≤ 9223372036854775807 ∧ m.funcs.length ≤ cf ∧ cf ≤ 9223372036854775807 := by
  obtain ⟨od, cd, rfl, h1, h2, -⟩ := h.data
  obtain ⟨cs, ⟨of, cf, rfl, h3, h4, -⟩, -⟩ := h.fns
  exact ⟨od, cd, of, cf, rfl, rfl, h1, h2, h3, h4⟩
abbrev fnV (f : md.Fn) (VC : Value) : Value := .agg #[.int .i64 f.params, .int .i64 f.results, .int .i64 f.locals, VC]
abbrev modV (m : md.Mod) (VD VF : Value) : Value := .agg #[.int .i64 m.mem, VD, VF]
end Go.Proofs.YtbmcmcdgdhabaaaDoor
