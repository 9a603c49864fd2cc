/- Memory of a clock: frames, rows, timers. -/
import Derived.Test.YtfelmnhhldgobaaRows
import Derived.WalkSpells
import Derived.WalkLawsBesides
import Derived.BigQuiet
import Derived.Deep.RegionHeld3
import Derived.Deep.RegionWith
import Derived.Deep.RegionLaw
import Derived.Deep.LoopGhost
import Derived.WalkKit
import Derived.Lib.Hide
import Derived.Laws.OwnMore
import Derived.ArgAppend
import Derived.Deep.QuietTactic
import Derived.ProofKit
import Derived.OpenShut
import Derived.Carry
import Derived.Lib.SmallJoins
import Derived.Lib.SliceRun
import Derived.Laws.Slices
import Derived.IntWalk
import Derived.Deep.DeepCutAuto
import Derived.Laws.ResultCell
import Derived.Deep.AppendLies
import Derived.Lib.AppendZeros
import Derived.Maps.AppendAt
import Derived.Laws.ResultCell
namespace Go.Proofs.Ytfelmnhhldgobaa
open Go.RowKit
/-- what a call may turn: new blocks, and those of S -/
structure Fr (S : Nat → Prop) (w w' : World) : Prop where
  os : w'.os = w.os
  tape : w'.tape = w.tape
  output : w'.output = w.output
  size : w.heap.size ≤ w'.heap.size
  block : ∀ k, k < w.heap.size → ¬ S k → w'.heap[k]? = w.heap[k]?
theorem Fr.refl (S : Nat → Prop) (w : World) : Fr S w w := ⟨rfl, rfl, rfl, Nat.le_refl _, fun _ _ _ => rfl⟩
theorem Fr.of_below {w w' : World} (h : Below w.heap.size w w') (S : Nat → Prop) : Fr S w w' := ⟨h.os, h.tape, h.output, h.size, fun k hk _ => h.block k hk⟩
theorem Fr.trans {S S' : Nat → Prop} {a b c : World} (h : Fr S a b) (g : Fr S' b c) (hs : ∀ k, k < a.heap.size → S' k → S k) : Fr S a c :=
  ⟨g.os.trans h.os, g.tape.trans h.tape, g.output.trans h.output, Nat.le_trans h.size g.size, fun k hk hn => (g.block k (Nat.lt_of_lt_of_le hk h.size) (fun x => hn (hs k hk x))).trans (h.block k hk hn)⟩
theorem Fr.then {S : Nat → Prop} {a b c : World} (h : Fr S a b) (g : Fr S b c) : Fr S a c := h.trans g fun _ _ x => x
theorem Fr.below {S : Nat → Prop} {a b c : World} (h : Fr S a b) (g : Below b.heap.size b c) : Fr S a c := h.then (Fr.of_below g S)
theorem Fr.wider {S S' : Nat → Prop} {a b : World} (h : Fr S a b) (hs : ∀ k, k < a.heap.size → S k → S' k) : Fr S' a b := ⟨h.os, h.tape, h.output, h.size, fun k hk hn => h.block k hk fun x => hn (hs k hk x)⟩
theorem Fr.to_below {S : Nat → Prop} {a b : World} (h : Fr S a b) (B : Nat) (hB : B ≤ a.heap.size) (hs : ∀ k, k < B → ¬ S k) : Below B a b := ⟨h.os, h.tape, h.output, h.size, fun k hk => h.block k (by omega) (hs k hk)⟩
theorem Fr.setCell {S : Nat → Prop} {a b : World} (h : Fr S a b) (x : Addr) (u : Value) (hx : a.heap.size ≤ x.block ∨ S x.block) : Fr S a (b.setCell x u) :=
  ⟨h.os, h.tape, h.output, by simpa using h.size, fun k hk hn => (Below.heap_setCell b x u k (fun e => by subst e; rcases hx with h1 | h1 <;> first | omega | exact hn h1)).trans (h.block k hk hn)⟩
theorem Fr.alloc {S : Nat → Prop} {a b : World} (h : Fr S a b) (o : Obj) : Fr S a (b.alloc o) := h.below ((Below.refl _ _).alloc (Nat.le_refl _) o)
theorem Fr.of_grown {w w' : World} {row : Option Nat} (h : w.grownBy w' row) : Fr (fun k => row = some k) w w' := ⟨h.os, h.tape, h.output, h.size, fun k hk hn => h.block k hk (fun e => hn e.symm)⟩
theorem Fr.drew {S : Nat → Prop} {a b : World} (h : Fr S a b) : Fr S a b.drew := ⟨h.os, h.tape, h.output, h.size, h.block⟩
theorem Fr.drewN {S : Nat → Prop} {a b : World} (h : Fr S a b) (n : Nat) : Fr S a (b.drewN n) := ⟨h.os, h.tape, h.output, h.size, h.block⟩
theorem cell_of_eq {w w' : World} {b : Nat} (h : w'.heap[b]? = w.heap[b]?) (k : Nat) : w'.cell? ⟨b, k, none⟩ = w.cell? ⟨b, k, none⟩ := by simp [World.cell?, h]
theorem cell_of_heap {w : World} {p k : Nat} {cur : Array Value} {t : TypeId} (h : w.heap[p]? = some (.cells cur t (0, 0))) : w.cell? ⟨p, k, none⟩ = cur[k]? := by simp [World.cell?, h]
theorem thaw {w : World} {p k : Nat} {cur : Array Value} {t : TypeId} (h : w.heap[p]? = some (.cells cur t (0, 0))) : w.frozen? ⟨p, k, none⟩ = false := by simp [World.frozen?, h]
theorem heap_lt {w : World} {k : Nat} {o : Obj} (h : w.heap[k]? = some o) : k < w.heap.size := (Array.getElem?_eq_some_iff.1 h).1
theorem heap_set_other (w : World) (a : Addr) (u : Value) {k : Nat} (h : k ≠ a.block) {o : Obj} (hk : w.heap[k]? = some o) : (w.setCell a u).heap[k]? = some o := (Below.heap_setCell w a u k h).trans hk
theorem below_one (W : World) (o : Obj) : Below W.heap.size W (W.alloc o) := (Below.refl _ _).alloc (Nat.le_refl _) o
theorem below_dN {B : Nat} {a w : World} (h : Below B a w) (n : Nat) : Below B a (w.drewN n) := ⟨h.os, h.tape, h.output, h.size, h.block⟩
theorem below_of_dN {B : Nat} {w w' : World} {j : Nat} (h : Below B (w.drewN j) w') : Below B w w' := ⟨h.os, h.tape, h.output, h.size, h.block⟩
theorem addr_b0 (b i : Nat) : (⟨b, 0, none⟩ : Addr).add i = ⟨b, i, none⟩ := by
  unfold Addr.add
  split <;> simp_all
theorem addr_plain (b o i : Nat) : (⟨b, o, none⟩ : Addr).add i = ⟨b, o + i, none⟩ := by
  unfold Addr.add
  split <;> simp_all
theorem ret_bool {a b : Bool} (h : a = b) : Ending.returned (.bool a) = .returned (.bool b) := by rw [h]
theorem ret_int {a b : Int} (h : a = b) : Ending.returned (.int .i64 a) = .returned (.int .i64 b) := by rw [h]
theorem row_below {w w' : World} {B : Nat} {e : TypeId} {size : Nat} {v : Value} {n : Nat} {xs : List Value} (h : w.ownsRow B e size v n xs) (hb : Below w.heap.size w w') : w'.ownsRow B e size v n xs := by
  refine ⟨h.1, ?_⟩
  rcases h.2 with h' | ⟨g, cap, cur, rfl, hg, hgg, rest⟩
  · exact .inl h'
  · exact .inr ⟨g, cap, cur, rfl, hg, (hb.block g (Array.getElem?_eq_some_iff.1 hgg).1).trans hgg, rest⟩
theorem own_slice {w : World} {base : Nat} {e : TypeId} {size : Nat} {v : Value} {n : Nat} {xs : List Value} (h : w.ownsRow base e size v n xs) : ∃ ao cap, v = .slice ao n cap := by
  rcases h.2 with ⟨rfl, rfl⟩ | ⟨g, cap, cur, rfl, _⟩
  · exact ⟨_, _, rfl⟩
  · exact ⟨_, _, rfl⟩
theorem own_base {w : World} {base base' : Nat} {e : TypeId} {size : Nat} {v : Value} {n : Nat} {xs : List Value} (h : w.ownsRow base e size v n xs) (hb : base' ≤ base) : w.ownsRow base' e size v n xs := by
  refine ⟨h.1, ?_⟩
  rcases h.2 with h' | ⟨g, cap, cur, rfl, hg, rest⟩
  · exact .inl h'
  · exact .inr ⟨g, cap, cur, rfl, by omega, rest⟩
theorem own_type {w : World} {B : Nat} {e : TypeId} {size : Nat} {v : Value} {n : Nat} {xs : List Value} (h : w.ownsRow B e size v n xs) {g : Nat} (hg : v.ownBlock = some g) : ∃ cur, w.heap[g]? = some (.cells cur e (0, 0)) := by
  rcases h.2 with ⟨rfl, _⟩ | ⟨g', cap, cur, rfl, hB, hgg, rest⟩
  · cases hg
  · obtain rfl : g' = g := Option.some.inj hg
    exact ⟨cur, hgg⟩
/-- a row is kept where its block is -/
theorem own_keep {w w' : World} {B : Nat} {e : TypeId} {size : Nat} {v : Value} {n : Nat} {xs : List Value} (h : w.ownsRow B e size v n xs) (hk : ∀ g cur, B ≤ g → g < w.heap.size → v.ownBlock = some g → w.heap[g]? = some (.cells cur e (0, 0)) → w'.heap[g]? = w.heap[g]?) : w'.ownsRow B e size v n xs := by
  refine ⟨h.1, ?_⟩
  rcases h.2 with h' | ⟨g, cap, cur, rfl, hB, hg, rest⟩
  · exact .inl h'
  · exact .inr ⟨g, cap, cur, rfl, hB, (hk g cur hB (Array.getElem?_eq_some_iff.1 hg).1 rfl hg).trans hg, rest⟩
/-- a row of n things of a size, wherever it lies; its block is one of D -/
def RowIn (w : World) (D : Nat → Prop) (V : Value) (size n : Nat) (cs : List Value) : Prop :=
  ∃ o cap, V = .slice o n cap ∧ n ≤ cap ∧ cap ≤ 9223372036854775807 ∧ cs.length = n * size ∧ (n = 0 ∨ ∃ b off, o = some ⟨b, off, none⟩ ∧ D b ∧ b < w.heap.size ∧ ∀ k v, cs[k]? = some v → w.cell? ⟨b, off + k, none⟩ = some v)
theorem RowIn.keep {w w' : World} {D D' : Nat → Prop} {V : Value} {size n : Nat} {cs : List Value} (h : RowIn w D V size n cs) (hk : ∀ k, D k → k < w.heap.size → w'.heap[k]? = w.heap[k]?) (hs : w.heap.size ≤ w'.heap.size) (hd : ∀ k, D k → k < w.heap.size → D' k) : RowIn w' D' V size n cs := by
  obtain ⟨o, cap, e, h1, h2, h3, h4⟩ := h
  refine ⟨o, cap, e, h1, h2, h3, h4.imp id ?_⟩
  rintro ⟨b, off, e1, hb, hlt, hc⟩
  exact ⟨b, off, e1, hd b hb hlt, Nat.lt_of_lt_of_le hlt hs, fun k v hv => (cell_of_eq (hk b hb hlt) _).trans (hc k v hv)⟩
theorem RowIn.below {w w' : World} {D : Nat → Prop} {V : Value} {size n : Nat} {cs : List Value} (h : RowIn w D V size n cs) (hb : Below w.heap.size w w') : RowIn w' D V size n cs :=
  h.keep (fun k _ hk => hb.block k hk) hb.size fun _ h _ => h
theorem RowIn.fr {S : Nat → Prop} {w w' : World} {D : Nat → Prop} {V : Value} {size n : Nat} {cs : List Value} (h : RowIn w D V size n cs) (hb : Fr S w w') (hs : ∀ k, D k → k < w.heap.size → ¬ S k) : RowIn w' D V size n cs :=
  h.keep (fun k hd hk => hb.block k hk (hs k hd hk)) hb.size fun _ h _ => h
theorem RowIn.wide {w : World} {D D' : Nat → Prop} {V : Value} {size n : Nat} {cs : List Value} (h : RowIn w D V size n cs) (hd : ∀ k, D k → k < w.heap.size → D' k) : RowIn w D' V size n cs := h.keep (fun _ _ _ => rfl) (Nat.le_refl _) hd
theorem RowIn.nil (w : World) (D : Nat → Prop) (size : Nat) : RowIn w D (.slice none 0 0) size 0 [] := ⟨none, 0, rfl, Nat.le_refl _, by decide, by simp, .inl rfl⟩
theorem RowIn.of_own {w : World} {B : Nat} {e : TypeId} {size : Nat} {V : Value} {n : Nat} {cs : List Value} (h : w.ownsRow B e size V n cs) (hl : cs.length = n * size) (D : Nat → Prop) (hD : ∀ g, V.ownBlock = some g → D g) : RowIn w D V size n cs := by
  rcases h.2 with ⟨rfl, h0⟩ | ⟨g, cap, cur, rfl, hB, hg, hc, hm, hs, ht⟩
  · exact ⟨none, 0, by rw [h0], by omega, by decide, hl, .inl h0⟩
  · refine ⟨_, cap, rfl, hc, hm, hl, .inr ⟨g, 0, rfl, hD g rfl, (Array.getElem?_eq_some_iff.1 hg).1, fun k v hv => ?_⟩⟩
    rw [cell_of_heap hg, ← Array.getElem?_toList, Nat.zero_add]
    have : (cur.toList.take cs.length)[k]? = some v := by rw [hl, ht]; exact hv
    rw [List.getElem?_take] at this
    split at this
    · exact this
    · cases this
theorem RowIn.lens {w : World} {D : Nat → Prop} {o : Option Addr} {m cap size n : Nat} {cs : List Value} (h : RowIn w D (.slice o m cap) size n cs) : m = n ∧ n ≤ cap ∧ cap ≤ 9223372036854775807 := by
  obtain ⟨o', cap', e, h1, h2, -⟩ := h
  obtain ⟨-, rfl, rfl⟩ := Value.slice.inj e
  exact ⟨rfl, h1, h2⟩
/-- a thing of a row: where it lies -/
theorem RowIn.at_ {w : World} {D : Nat → Prop} {o : Option Addr} {m cap size n : Nat} {cs : List Value} (h : RowIn w D (.slice o m cap) size n cs) (k : Nat) (hk : k < n) : ∃ b off, o = some ⟨b, off, none⟩ ∧ D b ∧ b < w.heap.size ∧ ∀ j v, cs[j]? = some v → w.cell? ⟨b, off + j, none⟩ = some v := by
  obtain ⟨o', cap', e, h1, h2, h3, h4⟩ := h
  obtain ⟨rfl, -, -⟩ := Value.slice.inj e
  rcases h4 with h4 | h4
  · omega
  · exact h4
abbrev inC (l : List Int) : List Value := l.map fun x => Value.int .i64 x
theorem infoInt : (Try.prog.info? 3).map (fun i => (i.zero, i.size, i.bytes)) = some (some (Value.int .i64 0), 1, 8) := by kernel_rfl
abbrev NsIn (w : World) (D : Nat → Prop) (V : Value) (l : List Int) : Prop := RowIn w D V 1 l.length (inC l)
def BoolAns (w w' : World) (e : Ending) (r : Bool) : Prop := e = .returned (.bool r) ∧ Below w.heap.size w w'
def IntsAns (w w' : World) (e : Ending) (l : List Int) : Prop := ∃ V, e = .returned V ∧ w'.ownsRow w.heap.size 3 1 V l.length (inC l) ∧ Below w.heap.size w w'
/-- a row behind a row of one's own -/
theorem wpList_rows (S T : TypeId) (z b : Nat) (hS : Try.prog.underlying S = some (.slice T)) {z0 : Value} (hT : (Try.prog.info? T).map (fun i => (i.zero, i.size, i.bytes)) = some (some z0, z, b)) (hzs : z0.cells.size = z) (hz : 0 < z)
    {w : World} {ops : Array Oper} {rest : List Oper} {op : Oper} {a : Act} {Q : Exit → Act → World → Prop} (hgd : op.guard = none) (s x : Operand)
    (ho : op.op = .call { callee := .builtin .append, args := #[s, x], argTypes := #[S, S] }) (B : Nat) (V : Value) (n : Nat) (cs : List Value) (hs : a.eval s = V) (hown : w.ownsRow B T z V n cs) (hBw : B ≤ w.heap.size)
    (ad : Addr) (m cap : Nat) (D : Nat → Prop) (ks : List Value) (hx : a.eval x = .slice (some ad) m cap) (hk : RowIn w D (.slice (some ad) m cap) z m ks) (hm : 0 < m) (hone : ∀ u ∈ ks, u.oneCell' = true) (hn : n + m ≤ 8192) (hbb : (n + m) * b ≤ 140737488355328) (n' : Nat) (hn' : n + m = n') (ks' : List Value) (hks' : cs ++ ks = ks')
    (h : ∀ V' w', w'.ownsRow B T z V' n' ks' → w.grownBy w' V.ownBlock → wpList Try.prog ops Q rest (a.put op.dst V') w') :
    wpList Try.prog ops Q (op :: rest) a w := by
  subst hn'
  subst hks'
  refine wpList_plain hgd fun K hK => ?_
  obtain ⟨i0, hi, hz0, hz1, hz2⟩ := info_parts hT
  obtain ⟨bb, off, e1, hD, hlt, hc⟩ := RowIn.at_ hk 0 hm
  obtain rfl := Option.some.inj e1
  have h3 : ks.length = m * z := by obtain ⟨_, _, _, _, _, h3, _⟩ := hk; exact h3
  have hnews : ∀ j u, ks[j]? = some u → w.cell? ((⟨bb, off, none⟩ : Addr).add j) = some u := fun j u hu => by
    rw [addr_plain]
    exact hc j u hu
  obtain ⟨V', w', hrun, r1, r2, r3, r4⟩ := run_append_own_at (P := Try.prog) w B S op.type T i0 _ z b hS hi hz0 hz1 hz2 hzs hz V n cs hown ⟨bb, off, none⟩ m cap ks h3 hnews hone (by unfold maxLen; omega) hbb hBw
  unfold Oper.wp execOp
  simp only [ho, resolve, invoke, builtin, Sem.run_bind, Sem.run_pure, Result.andThen_ok, List.map_toArray, List.map_cons, List.map_nil, hs, hx, hrun]
  exact hK _ _ (h V' w' r1 r2)

/-! ### timers -/
namespace tm
structure T where
  (id owner due every : Int)
deriving DecidableEq
def T.zero : T := ⟨0, 0, 0, 0⟩
instance : Inhabited T := ⟨T.zero⟩
end tm
abbrev tV (t : tm.T) : Value := .agg #[.int .i64 t.id, .int .i64 t.owner, .int .i64 t.due, .int .i64 t.every]
abbrev dV (t : tm.T) : Value := .agg #[.int .i64 t.id, .int .i64 t.owner, .int .i64 t.due]
abbrev tO (t : tm.T) : Obj := .cells #[.int .i64 t.id, .int .i64 t.owner, .int .i64 t.due, .int .i64 t.every] 70
abbrev dO (t : tm.T) : Obj := .cells #[.int .i64 t.id, .int .i64 t.owner, .int .i64 t.due] 57
def tC (t : tm.T) : List Value := [.int .i64 t.id, .int .i64 t.owner, .int .i64 t.due, .int .i64 t.every]
def tsC (l : List tm.T) : List Value := l.flatMap tC
theorem tsC_cons (t : tm.T) (l : List tm.T) : tsC (t :: l) = tC t ++ tsC l := rfl
theorem tsC_len : ∀ l : List tm.T, (tsC l).length = l.length * 4
  | [] => rfl
  | x :: l => by rw [tsC_cons, List.length_append, tsC_len l, List.length_cons]; simp [tC]; omega
theorem tsC_app (a b : List tm.T) : tsC (a ++ b) = tsC a ++ tsC b := by simp [tsC]
theorem tsC_at : ∀ (l : List tm.T) (i : Nat) (t : tm.T) (k : Nat), l[i]? = some t → k < 4 → (tsC l)[i * 4 + k]? = (tC t)[k]?
  | [], i, t, k, h, _ => by simp at h
  | x :: l, 0, t, k, h, hk => by
    simp only [List.getElem?_cons_zero, Option.some.injEq] at h
    subst h
    rw [tsC_cons, Nat.zero_mul, Nat.zero_add, List.getElem?_append_left (by simpa [tC] using hk)]
  | x :: l, i + 1, t, k, h, hk => by
    have hl : (tC x).length = 4 := rfl
    rw [tsC_cons, List.getElem?_append_right (by rw [hl]; omega), hl, show (i + 1) * 4 + k - 4 = i * 4 + k by omega]
    exact tsC_at l i t k (by simpa using h) hk
theorem tsC_one (l : List tm.T) : ∀ u ∈ tsC l, u.oneCell' = true := by
  intro u hu
  obtain ⟨e, -, he⟩ := List.mem_flatMap.1 hu
  simp only [tC, List.mem_cons, List.not_mem_nil, or_false] at he
  rcases he with rfl | rfl | rfl | rfl <;> rfl
theorem infoT : (Try.prog.info? 70).map (fun i => (i.zero, i.size, i.bytes)) = some (some (Value.agg #[.int .i64 0, .int .i64 0, .int .i64 0, .int .i64 0]), 4, 32) := by kernel_rfl
theorem infoD : (Try.prog.info? 57).map (fun i => (i.zero, i.size, i.bytes)) = some (some (Value.agg #[.int .i64 0, .int .i64 0, .int .i64 0]), 3, 24) := by kernel_rfl
abbrev TRow (w : World) (B : Nat) (V : Value) (l : List tm.T) : Prop := w.ownsRow B 70 4 V l.length (tsC l)
/-- the cells of a queue -/
structure QIn (w : World) (g n cap : Nat) (l : List tm.T) : Prop where
  len : l.length = n
  nc : n ≤ cap
  cm : cap ≤ 9223372036854775807
  at_ : ∃ cur, w.heap[g]? = some (.cells cur 70 (0, 0)) ∧ cur.size = cap * 4 ∧ ∀ i t k, l[i]? = some t → k < 4 → cur[i * 4 + k]? = (tC t)[k]?
theorem QIn.lt {w : World} {g n cap : Nat} {l : List tm.T} (h : QIn w g n cap l) : g < w.heap.size := by
  obtain ⟨cur, hg, -⟩ := h.at_
  exact heap_lt hg
theorem QIn.keep {w w' : World} {g n cap : Nat} {l : List tm.T} (h : QIn w g n cap l) (hk : w'.heap[g]? = w.heap[g]?) : QIn w' g n cap l := by
  obtain ⟨cur, hg, hc⟩ := h.at_
  exact ⟨h.len, h.nc, h.cm, cur, hk.trans hg, hc⟩
theorem QIn.cell {w : World} {g n cap : Nat} {l : List tm.T} (h : QIn w g n cap l) {i : Nat} {t : tm.T} (hi : l[i]? = some t) : (w.cell? ⟨g, i * 4, none⟩ = some (.int .i64 t.id) ∧ w.cell? ⟨g, i * 4 + 1, none⟩ = some (.int .i64 t.owner) ∧ w.cell? ⟨g, i * 4 + 2, none⟩ = some (.int .i64 t.due) ∧ w.cell? ⟨g, i * 4 + 3, none⟩ = some (.int .i64 t.every)) := by
  obtain ⟨cur, hg, -, hc⟩ := h.at_
  have := fun k hk => hc i t k hi hk
  exact ⟨(cell_of_heap hg).trans (this 0 (by decide)), (cell_of_heap hg).trans (this 1 (by decide)), (cell_of_heap hg).trans (this 2 (by decide)), (cell_of_heap hg).trans (this 3 (by decide))⟩
theorem QIn.thaw {w : World} {g n cap : Nat} {l : List tm.T} (h : QIn w g n cap l) (k : Nat) : w.frozen? ⟨g, k, none⟩ = false := by
  obtain ⟨cur, hg, -⟩ := h.at_
  exact Go.Proofs.Ytfelmnhhldgobaa.thaw hg
/-- a timer stored into a queue -/
abbrev setT (X : World) (g i : Nat) (t : tm.T) : World := (((X.setCell ⟨g, i * 4, none⟩ (.int .i64 t.id)).setCell ⟨g, i * 4 + 1, none⟩ (.int .i64 t.owner)).setCell ⟨g, i * 4 + 2, none⟩ (.int .i64 t.due)).setCell ⟨g, i * 4 + 3, none⟩ (.int .i64 t.every)
theorem QIn.set {w : World} {g n cap : Nat} {l : List tm.T} (h : QIn w g n cap l) (i : Nat) (hi : i < cap) (t : tm.T) : QIn (setT w g i t) g n cap (l.set i t) := by
  obtain ⟨cur, hg, hs, hc⟩ := h.at_
  refine ⟨by rw [List.length_set]; exact h.len, h.nc, h.cm, _, heap_setCell_same _ g (i * 4 + 3) _ _ _ (heap_setCell_same _ g (i * 4 + 2) _ _ _ (heap_setCell_same _ g (i * 4 + 1) _ _ _ (heap_setCell_same w g (i * 4) _ _ _ hg))), by simp [hs], fun j u k hj hk => ?_⟩
  by_cases e : j = i
  · subst e
    have hjl : j < l.length := by simpa using (List.getElem?_eq_some_iff.1 hj).1
    rw [List.getElem?_set_self hjl] at hj
    obtain rfl := Option.some.inj hj
    have hk4 : k = 0 ∨ k = 1 ∨ k = 2 ∨ k = 3 := by omega
    have hsz : j * 4 + 3 < cur.size := by omega
    simp only [Array.getElem?_setIfInBounds, Array.size_setIfInBounds]
    rcases hk4 with rfl | rfl | rfl | rfl
    · rw [if_neg (by omega), if_neg (by omega), if_neg (by omega), if_pos (by omega), if_pos (by omega)]; rfl
    · rw [if_neg (by omega), if_neg (by omega), if_pos (by omega), if_pos (by omega)]; rfl
    · rw [if_neg (by omega), if_pos (by omega), if_pos (by omega)]; rfl
    · rw [if_pos (by omega), if_pos (by omega)]; rfl
  · rw [List.getElem?_set_ne (Ne.symm e)] at hj
    simp only [Array.getElem?_setIfInBounds]
    rw [if_neg (by omega), if_neg (by omega), if_neg (by omega), if_neg (by omega)]
    exact hc j u k hj hk
theorem setT_far (X : World) (g i : Nat) (t : tm.T) (k : Nat) (hk : k ≠ g) : (setT X g i t).heap[k]? = X.heap[k]? :=
  (Below.heap_setCell _ _ _ k hk).trans ((Below.heap_setCell _ _ _ k hk).trans ((Below.heap_setCell _ _ _ k hk).trans (Below.heap_setCell _ _ _ k hk)))
theorem QIn.take {w : World} {g n cap : Nat} {l : List tm.T} (h : QIn w g n cap l) (m : Nat) (hm : m ≤ n) : QIn w g m cap (l.take m) := by
  obtain ⟨cur, hg, hs, hc⟩ := h.at_
  refine ⟨by rw [List.length_take, h.len]; omega, Nat.le_trans hm h.nc, h.cm, cur, hg, hs, fun i t k hi hk => hc i t k ?_ hk⟩
  rw [List.getElem?_take] at hi
  split at hi
  · exact hi
  · cases hi
theorem QIn.row {w : World} {g n cap B : Nat} {l : List tm.T} (h : QIn w g n cap l) (hB : B ≤ g) : TRow w B (.slice (some ⟨g, 0, none⟩) n cap) l := by
  obtain ⟨cur, hg, hs, hc⟩ := h.at_
  have hl := h.len
  have hn := h.nc
  have hcm := h.cm
  refine ⟨tsC_len l, .inr ⟨g, cap, cur, by rw [hl], hB, hg, by omega, by unfold maxLen; omega, hs, ?_⟩⟩
  refine List.ext_getElem? fun k => ?_
  rw [List.getElem?_take]
  split
  · rename_i hk
    have hi : k / 4 < l.length := by omega
    have e : k = k / 4 * 4 + k % 4 := by omega
    rw [Array.getElem?_toList, e, hc (k / 4) _ (k % 4) (List.getElem?_eq_getElem hi) (by omega), tsC_at l (k / 4) _ (k % 4) (List.getElem?_eq_getElem hi) (by omega)]
  · rename_i hk
    rw [List.getElem?_eq_none (by rw [tsC_len]; omega)]
theorem QIn.of_row {w : World} {B : Nat} {o : Option Addr} {n cap : Nat} {l : List tm.T} (h : TRow w B (.slice o n cap) l) (hl : 0 < l.length) : ∃ g, o = some ⟨g, 0, none⟩ ∧ B ≤ g ∧ n = l.length ∧ QIn w g n cap l := by
  rcases h.2 with ⟨h1, h2⟩ | ⟨g', cap', cur, h1, hB, hg, hc, hm, hs, ht⟩
  · omega
  · injection h1 with a1 a2 a3
    subst a1 a2 a3
    refine ⟨g', rfl, hB, rfl, rfl, hc, by unfold maxLen at hm; omega, cur, hg, hs, fun i t k hi hk => ?_⟩
    have hlt := (List.getElem?_eq_some_iff.1 hi).1
    have := tsC_at l i t k hi hk
    rw [← ht, List.getElem?_take, if_pos (by omega), Array.getElem?_toList] at this
    exact this
end Go.Proofs.Ytfelmnhhldgobaa
