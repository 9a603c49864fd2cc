/- Memory: frames, slices of numbers, slices of sizes; SameInts; appends. -/
import Derived.Test.YteilaoiimlpbkaaSolMath
import Derived.Test.YteilaoiimlpbkaaRows
import Derived.WalkSpells
import Derived.WalkLawsBesides
import Derived.BigQuiet
import Derived.Deep.RegionHeld3
import Derived.Deep.RegionWith
import Derived.Deep.LoopGhost
import Derived.WalkKit
import Derived.Lib.Hide
import Derived.Laws.OwnMore
import Derived.ArgAppend
import Derived.Deep.QuietTactic
import Derived.ProofKit
import Derived.OpenShut
import Derived.Carry
import Derived.Lib.SmallJoins
import Derived.Lib.SliceRun
import Derived.Laws.Slices
import Derived.IntWalk
import Derived.Deep.DeepCutAuto
import Derived.Laws.ResultCell
namespace Go.Proofs.Yteilaoiimlpbkaa
open Go.RowKit

/-- w' is w but for new blocks, and for those that S names -/
structure Kept (w w' : World) (S : Nat → Prop) : Prop where
  os : w'.os = w.os
  tape : w'.tape = w.tape
  output : w'.output = w.output
  size : w.heap.size ≤ w'.heap.size
  block : ∀ k, k < w.heap.size → ¬ S k → w'.heap[k]? = w.heap[k]?
theorem Kept.refl (w : World) (S : Nat → Prop) : Kept w w S := ⟨rfl, rfl, rfl, Nat.le_refl _, fun _ _ _ => rfl⟩
theorem Kept.trans {a b c : World} {S S' : Nat → Prop} (h : Kept a b S) (k : Kept b c S') (hs : ∀ k, k < a.heap.size → S' k → S k) : Kept a c S :=
  ⟨k.os.trans h.os, k.tape.trans h.tape, k.output.trans h.output, Nat.le_trans h.size k.size, fun i hi hn => (k.block i (Nat.lt_of_lt_of_le hi h.size) (fun h' => hn (hs i hi h'))).trans (h.block i hi hn)⟩
theorem Kept.alloc {a w : World} {S : Nat → Prop} (h : Kept a w S) (o : Obj) : Kept a (w.alloc o) S :=
  ⟨h.os, h.tape, h.output, by simp; have := h.size; omega, fun k hk hn => (Below.heap_alloc w o k (Nat.lt_of_lt_of_le hk h.size)).trans (h.block k hk hn)⟩
theorem Kept.setCell {a w : World} {S : Nat → Prop} (h : Kept a w S) {p : Addr} (hp : p.block < a.heap.size → S p.block) (u : Value) : Kept a (w.setCell p u) S :=
  ⟨h.os, h.tape, h.output, by simpa using h.size, fun k hk hn => (Below.heap_setCell w p u k (fun e => hn (by subst e; exact hp hk))).trans (h.block k hk hn)⟩
theorem Kept.grown {a w w' : World} {S : Nat → Prop} {row : Option Nat} (h : Kept a w S) (hg : w.grownBy w' row) (hr : ∀ k, row = some k → k < a.heap.size → S k) : Kept a w' S :=
  ⟨hg.os.trans h.os, hg.tape.trans h.tape, hg.output.trans h.output, Nat.le_trans h.size hg.size, fun k hk hn => (hg.block k (Nat.lt_of_lt_of_le hk h.size) (fun e => hn (hr k e.symm hk))).trans (h.block k hk hn)⟩
theorem Kept.drew {a w : World} {S : Nat → Prop} (h : Kept a w S) : Kept a w.drew S := ⟨h.os, h.tape, h.output, h.size, h.block⟩
theorem Kept.below {w w' : World} {S : Nat → Prop} {B : Nat} (h : Kept w w' S) (hB : B ≤ w.heap.size) (hS : ∀ k, S k → B ≤ k) : Below B w w' :=
  ⟨h.os, h.tape, h.output, h.size, fun k hk => h.block k (Nat.lt_of_lt_of_le hk hB) (fun hs => by have := hS k hs; omega)⟩
theorem Kept.of_below {w w' : World} (h : Below w.heap.size w w') (S : Nat → Prop) : Kept w w' S := ⟨h.os, h.tape, h.output, h.size, fun k hk _ => h.block k hk⟩
theorem Kept.weaken {w w' : World} {S S' : Nat → Prop} (h : Kept w w' S) (hs : ∀ k, k < w.heap.size → S k → S' k) : Kept w w' S' := ⟨h.os, h.tape, h.output, h.size, fun k hk hn => h.block k hk (fun h' => hn (hs k hk h'))⟩
theorem Kept.same {w w' : World} {S : Nat → Prop} (h : Kept w w' S) {k : Nat} {o : Obj} (hk : w.heap[k]? = some o) (hn : ¬ S k) : w'.heap[k]? = some o := (h.block k (Array.getElem?_eq_some_iff.1 hk).1 hn).trans hk
theorem Kept.row {w w' : World} {S : Nat → Prop} (h : Kept w w' S) {base : Nat} {e : TypeId} {size : Nat} {v : Value} {n : Nat} {xs : List Value} (ho : w.ownsRow base e size v n xs) (hn : ∀ k, v.ownBlock = some k → ¬ S k) : w'.ownsRow base e size v n xs := by
  refine ⟨ho.1, ?_⟩
  rcases ho.2 with h' | ⟨g, cap, cur, rfl, hb, hgg, rest⟩
  · exact .inl h'
  · exact .inr ⟨g, cap, cur, rfl, hb, h.same hgg (hn g rfl), rest⟩
theorem Kept.cell {w w' : World} {S : Nat → Prop} (h : Kept w w' S) {a : Addr} {v : Value} (hc : w.cell? a = some v) (hn : ¬ S a.block) : w'.cell? a = some v :=
  (World.cell?_of_block (h.block a.block (World.block_lt_of_cell? w a hc) hn)).trans hc

theorem row_below {w w' : World} {B : Nat} {e : TypeId} {size : Nat} {v : Value} {n : Nat} {xs : List Value} (h : w.ownsRow B e size v n xs) (hb : Below w.heap.size w w') : w'.ownsRow B e size v n xs := by
  refine ⟨h.1, ?_⟩
  rcases h.2 with h' | ⟨g, cap, cur, rfl, hg, hgg, rest⟩
  · exact .inl h'
  · exact .inr ⟨g, cap, cur, rfl, hg, (hb.block g (Array.getElem?_eq_some_iff.1 hgg).1).trans hgg, rest⟩
theorem own_slice {w : World} {base : Nat} {e : TypeId} {size : Nat} {v : Value} {n : Nat} {xs : List Value} (h : w.ownsRow base e size v n xs) : ∃ ao cap, v = .slice ao n cap := by
  rcases h.2 with ⟨rfl, rfl⟩ | ⟨g, cap, cur, rfl, _⟩
  · exact ⟨_, _, rfl⟩
  · exact ⟨_, _, rfl⟩
theorem own_some {w : World} {base : Nat} {e : TypeId} {size : Nat} {v : Value} {n : Nat} {xs : List Value} (h : w.ownsRow base e size v n xs) (hn : 0 < n) : ∃ g cap, v = .slice (some ⟨g, 0, none⟩) n cap ∧ base ≤ g ∧ g < w.heap.size ∧ n ≤ cap ∧ cap ≤ maxLen := by
  rcases h.2 with ⟨rfl, h0⟩ | ⟨g, cap, cur, rfl, hb, hg, hc, hm, _⟩
  · omega
  · exact ⟨g, cap, rfl, hb, (Array.getElem?_eq_some_iff.1 hg).1, hc, hm⟩
theorem own_cell {w : World} {base : Nat} {e : TypeId} {g cap n : Nat} {xs : List Value} (h : w.ownsRow base e 1 (.slice (some ⟨g, 0, none⟩) n cap) n xs) {d : Value} {j : Nat} (hj : j < n) : w.cell? ⟨g, j, none⟩ = some (xs.getD j d) := by
  rw [h.cellAt j (by omega)]
  have : j < xs.length := by rw [h.1]; omega
  simp [List.getD, this]
theorem own_set {w : World} {base : Nat} {e : TypeId} {g cap n : Nat} {xs : List Value} (h : w.ownsRow base e 1 (.slice (some ⟨g, 0, none⟩) n cap) n xs) (j : Nat) (u : Value) :
    (w.setCell ⟨g, j, none⟩ u).ownsRow base e 1 (.slice (some ⟨g, 0, none⟩) n cap) n (xs.set j u) := (h.stored j u).1
theorem own_len {w : World} {base : Nat} {e : TypeId} {v : Value} {n : Nat} {xs : List Value} (h : w.ownsRow base e 1 v n xs) : xs.length = n := by rw [h.1]; omega
theorem heap_set_other (w : World) (a : Addr) (u : Value) {k : Nat} (h : k ≠ a.block) {o : Obj} (hk : w.heap[k]? = some o) : (w.setCell a u).heap[k]? = some o := (Below.heap_setCell w a u k h).trans hk

theorem Kept.drewN {a w : World} {S : Nat → Prop} (h : Kept a w S) (n : Nat) : Kept a (w.drewN n) S := ⟨h.os, h.tape, h.output, h.size, h.block⟩
theorem cells_one_new (w : World) (v : Value) (e : TypeId) : ∀ (j : Nat) (u : Value), [v][j]? = some u → (w.alloc (.cells #[v] e)).cell? ((⟨w.heap.size, 0, none⟩ : Addr).add j) = some u := by
  intro j u hj
  match j, hj with
  | 0, hj => simp at hj; subst hj; simp [Addr.add]
theorem Kept.of_drewN {w w' : World} {k : Nat} {S : Nat → Prop} (h : Kept (w.drewN k) w' S) : Kept w w' S := ⟨h.os, h.tape, h.output, h.size, h.block⟩
theorem below_drewN {B : Nat} {a w : World} (h : Below B a w) (n : Nat) : Below B a (w.drewN n) := ⟨h.os, h.tape, h.output, h.size, h.block⟩
theorem below_grow {B : Nat} {w wr w1 : World} {j : Nat} {o : Obj} {row : Option Nat} (h : Below B w wr) (hg : ((wr.drewN j).alloc o).grownBy w1 row) (hB : B ≤ wr.heap.size) (hr : ∀ k, row = some k → B ≤ k) : Below B w w1 :=
  ((below_drewN h j).alloc hB o).grown hg (by simp; omega) hr
theorem own_new {w : World} {base : Nat} {e : TypeId} {size : Nat} {v : Value} {n : Nat} {xs : List Value} (h : w.ownsRow base e size v n xs) (j : Nat) (o : Obj) : ((w.drewN j).alloc o).ownsRow base e size v n xs := World.ownsRow.alloc (w := w.drewN j) h o
theorem news_new (w : World) (j : Nat) (v : Value) (e : TypeId) : ∀ (i : Nat) (u : Value), [v][i]? = some u → ((w.drewN j).alloc (.cells #[v] e)).cell? ((⟨w.heap.size, 0, none⟩ : Addr).add i) = some u := cells_one_new (w.drewN j) v e
theorem own_base {w : World} {base base' : Nat} {e : TypeId} {size : Nat} {v : Value} {n : Nat} {xs : List Value} (h : w.ownsRow base e size v n xs) (hb : base' ≤ base) : w.ownsRow base' e size v n xs := by
  refine ⟨h.1, ?_⟩
  rcases h.2 with h' | ⟨g, cap, cur, rfl, hg, rest⟩
  · exact .inl h'
  · exact .inr ⟨g, cap, cur, rfl, by omega, rest⟩
theorem ret_bool {a b : Bool} (h : a = b) : Ending.returned (.bool a) = .returned (.bool b) := by rw [h]

/-- numbers in the cells of a slice -/
structure Ints (w : World) (o : Option Addr) (n cap : Nat) (zs : List Int) : Prop where
  len : zs.length = n
  le : n ≤ cap
  max : cap ≤ maxLen
  at_ : n = 0 ∨ ∃ b off, o = some ⟨b, off, none⟩ ∧ b < w.heap.size ∧ ∀ k, k < n → w.cell? ⟨b, off + k, none⟩ = some (.int .i64 (zs.getD k 0))
theorem Ints.same {w w' : World} {o : Option Addr} {n cap : Nat} {zs : List Int} (H : Ints w o n cap zs) (hb : ∀ k, k < w.heap.size → (∀ off, o = some ⟨k, off, none⟩ → w'.heap[k]? = w.heap[k]?)) (hs : w.heap.size ≤ w'.heap.size) : Ints w' o n cap zs :=
  ⟨H.len, H.le, H.max, H.at_.imp id fun ⟨b, off, h1, h2, h3⟩ => ⟨b, off, h1, Nat.lt_of_lt_of_le h2 hs, fun k hk => (World.cell?_of_block (a := ⟨b, off + k, none⟩) (hb b h2 off h1)).trans (h3 k hk)⟩⟩
theorem Ints.below {w w' : World} {o : Option Addr} {n cap : Nat} {zs : List Int} (H : Ints w o n cap zs) (hb : Below w.heap.size w w') : Ints w' o n cap zs :=
  H.same (fun k hk _ _ => hb.block k hk) hb.size
theorem Ints.drewN {w : World} {o : Option Addr} {n cap : Nat} {zs : List Int} (H : Ints w o n cap zs) (j : Nat) : Ints (w.drewN j) o n cap zs := ⟨H.len, H.le, H.max, H.at_⟩
theorem Ints.cell {w : World} {o : Option Addr} {n cap : Nat} {zs : List Int} (H : Ints w o n cap zs) {k : Nat} (hk : k < n) : ∃ b off, o = some ⟨b, off, none⟩ ∧ b < w.heap.size ∧ w.cell? ⟨b, off + k, none⟩ = some (.int .i64 (zs.getD k 0)) := by
  rcases H.at_ with h0 | ⟨b, off, h1, h2, h3⟩
  · omega
  · exact ⟨b, off, h1, h2, h3 k hk⟩
theorem Ints.of_own {w : World} {base : Nat} {e : TypeId} {v : Value} {n : Nat} {zs : List Int} (h : w.ownsRow base e 1 v n (zs.map (Value.int .i64))) : ∃ o cap, v = .slice o n cap ∧ Ints w o n cap zs := by
  have hl : zs.length = n := by have := own_len h; simpa using this
  by_cases h0 : n = 0
  · subst h0
    rcases h.2 with ⟨rfl, _⟩ | ⟨g, cap, cur, rfl, _, _, hc, hm, _⟩
    · exact ⟨_, _, rfl, hl, Nat.le_refl _, Nat.zero_le _, .inl rfl⟩
    · exact ⟨_, _, rfl, hl, hc, hm, .inl rfl⟩
  · obtain ⟨g, cap, rfl, hg, hlt, hc, hm⟩ := own_some h (by omega)
    refine ⟨_, _, rfl, hl, hc, hm, .inr ⟨g, 0, rfl, hlt, fun k hk => ?_⟩⟩
    have := own_cell (d := Value.int .i64 0) h hk
    rw [Nat.zero_add, this]
    simp [List.getD, List.getElem?_map]
    try (cases zs[k]? <;> rfl)

theorem same_step {xs ys : List Int} {k : Nat} (h : ∀ i, i < k → xs.getD i 0 = ys.getD i 0) (hk : xs.getD k 0 = ys.getD k 0) : ∀ i, i < k + 1 → xs.getD i 0 = ys.getD i 0 := by
  intro i hi
  by_cases e : i = k
  · subst e; exact hk
  · exact h i (by omega)
theorem same_all {xs ys : List Int} {n : Nat} (hx : xs.length = n) (hy : ys.length = n) (h : ∀ i, i < n → xs.getD i 0 = ys.getD i 0) : xs = ys := by
  apply List.ext_getElem (by omega)
  intro i h1 h2
  have := h i (by omega)
  simpa [List.getD, h1, h2] using this

set_option maxHeartbeats 800000 in
theorem same_any (o : Option Addr) (n cap : Nat) (xs : List Int) (o' : Option Addr) (n' cap' : Nat) (ys : List Int) (w : World) (hx : Ints w o n cap xs) (hy : Ints w o' n' cap' ys) :
    Calls Try.prog 10 #[.slice o n cap, .slice o' n' cap'] w fun e w' => e = .returned (.bool (decide (xs = ys))) ∧ ∃ nq, w' = w.drewN nq := by
  have hm : cap ≤ 9223372036854775807 := hx.max
  have hm' : cap' ≤ 9223372036854775807 := hy.max
  have hle := hx.le
  have hle' := hy.le
  by_cases hn : n = n'
  · subst hn
    have HX := Lib.hid hx; have HY := Lib.hid hy
    clear hx hy
    go_enter Try.func10, Try.ntmps10
    go_wp2_with fail
    go_loopg [5] n (fun gg s5 wr => ∃ k j : Nat, s5 = .int .i64 k ∧ k ≤ n ∧ n - k ≤ gg ∧ Hid (∀ i, i < k → xs.getD i 0 = ys.getD i 0) ∧ Hid (wr = w.drewN j))
    case atStart => exact ⟨0, 0, rfl, Nat.zero_le _, by omega, Lib.hid (fun i hi => by omega), Lib.hid rfl⟩
    case round =>
      obtain ⟨k, j, rfl, hk, hgg, hall, hw⟩ := hrel
      by_cases hlt : k < n
      · obtain ⟨b, off, rfl, hb, k0⟩ := (show Ints wr _ _ _ _ from hw.out ▸ HX.out.drewN j).cell hlt
        obtain ⟨b', off', rfl, hb', k0'⟩ := (show Ints wr _ _ _ _ from hw.out ▸ HY.out.drewN j).cell hlt
        have hst := fun h => same_step (k := k) hall.out h
        have hne : xs.getD k 0 ≠ ys.getD k 0 → decide (xs = ys) = false := fun h => decide_eq_false (fun e => h (by rw [e]))
        generalize xs.getD k 0 = x at *
        generalize ys.getD k 0 = y at *
        have HS := Lib.hid hst; have HN := Lib.hid hne
        clear hst hne
        have hki : ((k : Int) < (n : Int)) := by omega
        by_cases e : x = y
        · have HSS := Lib.hid (HS.out e)
          have e1 : (x == y) = true := by simpa using e
          have e2 : (x != y) = false := by simpa using e
          clear e
          go_wp2_with fail
          go_quiet (fail)
          go_wp2_with fail
          go_roundg (n - (k + 1))
          case measure => omega
          case rel => exact ⟨k + 1, j + nq, by go_num, by omega, Nat.le_refl _, HSS, Lib.hid (by rw [hw.out, World.drewN_drewN])⟩
        · have HNN := Lib.hid (HN.out e)
          have e1 : (x == y) = false := by simpa using e
          have e2 : (x != y) = true := by simpa using e
          clear e
          go_wp2_with fail
          go_quiet (fail)
          go_wp2_with fail
          go_ret
          exact ⟨ret_bool HNN.out.symm, j + nq, by rw [hw.out, World.drewN_drewN]⟩
      · obtain rfl : k = n := by omega
        have HD := Lib.hid (show decide (xs = ys) = true from decide_eq_true (same_all HX.out.len HY.out.len hall.out))
        go_wp2_with fail
        go_ret
        exact ⟨ret_bool HD.out.symm, j, hw.out⟩
  · have HD := Lib.hid (show decide (xs = ys) = false from decide_eq_false (fun e => hn (by rw [← hx.len, ← hy.len, e])))
    have hi : ((n : Int) != (n' : Int)) = true := by simp; omega
    have hi2 : ((n : Int) == (n' : Int)) = false := by simp; omega
    clear hx hy
    go_enter Try.func10, Try.ntmps10
    go_wp2_with fail
    go_ret
    exact ⟨ret_bool HD.out.symm, 0, rfl⟩

theorem addr_add0 (a : Addr) : a.add 0 = a := by unfold Addr.add; split <;> simp_all
/-- where a slice's end lies: under a name of its own, so that a walk does not part on it -/
def slo (o : Option Addr) (cap l : Nat) : Option Addr := if cap = l then o else o.map (·.add l)
set_option maxRecDepth 100000 in
theorem run_slo (o : Option Addr) (n cap : Nat) (k : IntKind) (l : Nat) (hl : (l : Int) ≤ (n : Int)) (wx : World) : (Instr.slice 24 (.slice o n cap) (some (.int k (l : Int))) none none).run Try.prog wx = .ok (.slice (slo o cap l) (n - l) (cap - l)) wx := by
  rw [run_slice_l wx 24 o n cap Try.underlying24 k l (by omega) (by omega)]
  have hz : (sizeOf (Try.prog.elem 24)).run Try.prog wx = .ok 1 wx := by kernel_rfl
  rw [hz]
  simp [Result.andThen, sliced, slo]
/-- a slice's end -/
theorem slice_lo {w : World} {o : Option Addr} {n cap : Nat} {zs : List Int} (H : Ints w o n cap zs) (l : Nat) (hl : l ≤ n) : Ints w (slo o cap l) (n - l) (cap - l) (zs.drop l) := by
  have hle := H.le
  have hm := H.max
  refine ⟨by rw [List.length_drop, H.len], by omega, by omega, ?_⟩
  rcases H.at_ with h0 | ⟨b, off, rfl, hb, hc⟩
  · exact .inl (by omega)
  · by_cases hcl : cap = l
    · exact .inl (by omega)
    · right
      refine ⟨b, off + l, by rw [slo, if_neg hcl]; simp [Addr.add], hb, fun k hk => ?_⟩
      rw [Nat.add_assoc, hc (l + k) (by omega)]
      simp [List.getD, List.getElem?_drop]
theorem slo_block (o : Option Addr) (cap l : Nat) : ∀ a', slo o cap l = some a' → ∃ a, o = some a ∧ a'.block = a.block := by
  intro a' h
  unfold slo at h
  split at h
  · exact ⟨a', h, rfl⟩
  · cases o with
    | none => simp at h
    | some a =>
      refine ⟨a, rfl, ?_⟩
      simp at h
      rw [← h]
      unfold Addr.add
      split <;> rfl
set_option maxRecDepth 100000 in
/-- a slice's beginning -/
theorem slice_hi {w : World} {o : Option Addr} {n cap : Nat} {zs : List Int} (H : Ints w o n cap zs) (l : Nat) (hl : l ≤ n) (x : Int) (hx : x = (l : Int)) :
    (∀ (k : IntKind) (wx : World), (Instr.slice 24 (.slice o n cap) none (some (.int k x)) none).run Try.prog wx = .ok (.slice o l cap) wx) ∧ Ints w o l cap (zs.take l) := by
  subst hx
  have hle := H.le
  refine ⟨fun k wx => ?_, ⟨by rw [List.length_take, H.len]; omega, by omega, H.max, ?_⟩⟩
  · rw [run_slice_h wx 24 o n cap Try.underlying24 k l (by omega) (by omega)]
    have hz : (sizeOf (Try.prog.elem 24)).run Try.prog wx = .ok 1 wx := by kernel_rfl
    rw [hz]
    have e : (fun x : Addr => x.add 0) = id := funext addr_add0
    simp [Result.andThen, sliced, e]
  · rcases H.at_ with h0 | ⟨b, off, rfl, hb, hc⟩
    · exact .inl (by omega)
    · right
      exact ⟨b, off, rfl, hb, fun k hk => by rw [hc k (by omega)]; simp [List.getD, hk]⟩
/-- the lesser, the greater: under names of their own, so that a walk does not part on them -/
def mn (x y : Int) : Int := if y < x then y else x
def mx (x y : Int) : Int := if x < y then y else x
theorem run_mn {P : Program} {w : World} (ts : Array TypeId) (t : TypeId) (k k' : IntKind) (x y : Int) : (Builtin.min_ ts t #[.int k x, .int k' y]).run P w = .ok (.int k (mn x y)) w := run_min_int2 w ts t k k' x y
theorem run_mx {P : Program} {w : World} (ts : Array TypeId) (t : TypeId) (k k' : IntKind) (x y : Int) : (Builtin.max_ ts t #[.int k x, .int k' y]).run P w = .ok (.int k (mx x y)) w := run_max_int2 w ts t k k' x y
theorem mn_nat (a b : Nat) : mn (a : Int) (b : Int) = ((min a b : Nat) : Int) := by unfold mn; omega
theorem below_of_drewN {B : Nat} {w w' : World} {j : Nat} (h : Below B (w.drewN j) w') : Below B w w' := ⟨h.os, h.tape, h.output, h.size, h.block⟩

/-- numbers that lie in other memory than block b does -/
def Off (o : Option Addr) (n b : Nat) : Prop := n ≠ 0 → ∀ a, o = some a → a.block < b
theorem Ints.kept {w w' : World} {o : Option Addr} {n cap b : Nat} {zs : List Int} (H : Ints w o n cap zs) (hk : Kept w w' (· = b)) (ho : Off o n b) : Ints w' o n cap zs := by
  refine ⟨H.len, H.le, H.max, ?_⟩
  rcases H.at_ with h0 | ⟨bb, off, rfl, h2, h3⟩
  · exact .inl h0
  · by_cases h0 : n = 0
    · exact .inl h0
    · exact .inr ⟨bb, off, rfl, Nat.lt_of_lt_of_le h2 hk.size, fun k hk' => hk.cell (h3 k hk') (fun e => by have := ho h0 _ rfl; simp at this e; omega)⟩
theorem Off.slo {o : Option Addr} {n b cap l : Nat} (h : Off o n b) : Off (slo o cap l) (n - l) b := by
  intro h0 a ha
  obtain ⟨a', ha', e⟩ := slo_block o cap l a ha
  rw [e]; exact h (by omega) a' ha'
theorem Off.le {o : Option Addr} {n m b : Nat} (h : Off o n b) (hm : m ≤ n) : Off o m b := fun h0 => h (by omega)
theorem Off.nil (n b : Nat) : Off none n b := fun _ a h => by cases h
theorem Off.of {w : World} {o : Option Addr} {n cap b : Nat} {zs : List Int} (H : Ints w o n cap zs) (hb : w.heap.size ≤ b) : Off o n b := by
  intro h0 a ha
  rcases H.at_ with h | ⟨bb, off, h1, h2, _⟩
  · exact absurd h h0
  · rw [h1] at ha; cases ha; show bb < b; omega
theorem Ints.nil (w : World) : Ints w none 0 0 [] := ⟨rfl, Nat.le_refl _, Nat.zero_le _, .inl rfl⟩
theorem getD_take (l : List Int) (k j : Nat) (h : j < k) : (l.take k).getD j 0 = l.getD j 0 := by simp [List.getD, h]
theorem getD_drop (l : List Int) (k j : Nat) : (l.drop k).getD j 0 = l.getD (k + j) 0 := by simp [List.getD]
theorem Ints.new (w : World) (T : TypeId) (zs : List Int) (h : zs.length ≤ 1000) : Ints (w.alloc (.cells (zs.map (Value.int .i64)).toArray T)) (some ⟨w.heap.size, 0, none⟩) zs.length zs.length zs := by
  refine ⟨rfl, Nat.le_refl _, by unfold maxLen; omega, .inr ⟨w.heap.size, 0, rfl, by simp, fun k hk => ?_⟩⟩
  have he : (w.alloc (.cells (zs.map (Value.int .i64)).toArray T)).heap[w.heap.size]? = some (.cells (zs.map (Value.int .i64)).toArray T) := by
    show (w.heap.push _)[w.heap.size]? = _
    simp
  show (match (w.alloc (.cells (zs.map (Value.int .i64)).toArray T)).heap[w.heap.size]? with
    | some (.cells c _ _) => c[0 + k]?
    | _ => none) = _
  rw [he]
  simp [hk]
/-- numbers behind a row of the call's own: from whatever slice they come -/
theorem run_append_ints {P : Program} (w : World) (base : Nat) (t ty e : TypeId) (i : TypeInfo) (z : Value) (ht : P.underlying t = some (.slice e)) (hi : P.info? e = some i) (hz : i.zero = some z)
    (hsize : i.size = 1) (hby : i.bytes = 8) (hzs : z.cells.size = 1) (v : Value) (n : Nat) (xs : List Int) (hown : w.ownsRow base e 1 v n (xs.map (Value.int .i64)))
    (o : Option Addr) (m c : Nat) (zs : List Int) (hx : Ints w o m c zs) (hnm : n + m ≤ 1000000) (hbase : base ≤ w.heap.size) :
    ∃ v' w', (Builtin.append_ #[t, t] ty #[v, .slice o m c]).run P w = .ok v' w' ∧ w'.ownsRow base e 1 v' (n + m) ((xs ++ zs).map (Value.int .i64)) ∧ w.grownBy w' v.ownBlock := by
  have hlen := hx.len
  cases o with
  | none =>
    obtain rfl : m = 0 := by
      rcases hx.at_ with h | ⟨_, _, h, _⟩
      · exact h
      · cases h
    obtain rfl : zs = [] := List.length_eq_zero_iff.1 hlen
    refine ⟨v, w, ?_, by simpa using hown, World.grownBy.refl w _⟩
    rcases hown.2 with ⟨rfl, rfl⟩ | ⟨g, cap, cur, rfl, _, _, hnc, _⟩
    · simp [Builtin.append_, run_underlying ht, sizeOf, typeInfo, hi, Builtin.lenOf, Builtin.firstCells]
    · simp [Builtin.append_, run_underlying ht, sizeOf, typeInfo, hi, Builtin.lenOf, Builtin.firstCells, hnc, storeCells]
  | some ad =>
    have hc : ∀ j u, (zs.map (Value.int .i64))[j]? = some u → w.cell? (ad.add j) = some u := by
      intro j u hu
      rcases hx.at_ with h | ⟨b, off, h, _, hk⟩
      · obtain rfl : zs = [] := List.length_eq_zero_iff.1 (by omega)
        simp at hu
      · cases h
        have hj : j < zs.length := by
          have := (List.getElem?_eq_some_iff.1 hu).1
          simpa using this
        have := hk j (by omega)
        simp [hj] at hu
        rw [show (⟨b, off, none⟩ : Addr).add j = ⟨b, off + j, none⟩ by simp [Addr.add], this, ← hu]
        simp [List.getD, hj]
    obtain ⟨v', w', hr, h2, h3, _⟩ := run_append_own (P := P) w base t ty e i z 1 8 ht hi hz hsize hby hzs (by decide) v n _ hown ad m c (zs.map (Value.int .i64)) (by simp [hlen]) hc (by intro u hu; simp at hu; obtain ⟨y, _, rfl⟩ := hu; rfl) (by unfold maxLen; omega) (by omega) hbase
    exact ⟨v', w', hr, by rw [List.map_append]; exact h2, h3⟩
theorem wpList_append_ints {P : Program} {w : World} {ops : Array Oper} {rest : List Oper} {op : Oper} {a : Act} {Q : Exit → Act → World → Prop} (hgd : op.guard = none) (s x : Operand) (t : TypeId)
    (ho : op.op = .call { callee := .builtin .append, args := #[s, x], argTypes := #[t, t] })
    (base : Nat) (e : TypeId) (i : TypeInfo) (z : Value) (ht : P.underlying t = some (.slice e)) (hi : P.info? e = some i) (hz : i.zero = some z)
    (hsize : i.size = 1) (hby : i.bytes = 8) (hzs : z.cells.size = 1) (v : Value) (n : Nat) (xs : List Int) (hs : a.eval s = v) (hown : w.ownsRow base e 1 v n (xs.map (Value.int .i64)))
    (o : Option Addr) (m c : Nat) (zs : List Int) (hx : a.eval x = .slice o m c) (hxi : Ints w o m c zs) (hnm : n + m ≤ 1000000) (hbase : base ≤ w.heap.size)
    (h : ∀ v' w', w'.ownsRow base e 1 v' (n + m) ((xs ++ zs).map (Value.int .i64)) → w.grownBy w' v.ownBlock → wpList P ops Q rest (a.put op.dst v') w') : wpList P ops Q (op :: rest) a w := by
  refine wpList_plain hgd fun K hK => ?_
  obtain ⟨v', w', hr, h2, h3⟩ := run_append_ints (P := P) w base t op.type e i z ht hi hz hsize hby hzs v n xs hown o m c zs hxi hnm hbase
  unfold Oper.wp execOp
  simp only [ho, resolve, invoke, builtin, Sem.run_bind, Sem.run_pure, Result.andThen_ok, List.map_toArray, List.map_cons, List.map_nil, hs, hx, hr]
  exact hK _ _ (h v' w' h2 h3)
theorem infoE : (Try.prog.info? 3).map (fun i => (i.zero, i.size, i.bytes)) = some (some (Value.int .i64 0), 1, 8) := by kernel_rfl

/-- sizes in the cells of a slice -/
structure SzIn (w : World) (o : Option Addr) (n cap : Nat) (L : List sl.Sz) : Prop where
  len : L.length = n
  le : n ≤ cap
  max : cap ≤ maxLen
  at_ : n = 0 ∨ ∃ b off, o = some ⟨b, off, none⟩ ∧ b < w.heap.size ∧ ∀ k, k < n → w.cell? ⟨b, off + k * 2, none⟩ = some (.int .i64 (L.getD k sl.z0).k) ∧ w.cell? ⟨b, off + k * 2 + 1, none⟩ = some (.int .i64 (L.getD k sl.z0).n)
theorem SzIn.cell {w : World} {o : Option Addr} {n cap : Nat} {L : List sl.Sz} (H : SzIn w o n cap L) {k : Nat} (hk : k < n) : ∃ b off, o = some ⟨b, off, none⟩ ∧ b < w.heap.size ∧ w.cell? ⟨b, off + k * 2, none⟩ = some (.int .i64 (L.getD k sl.z0).k) ∧ w.cell? ⟨b, off + k * 2 + 1, none⟩ = some (.int .i64 (L.getD k sl.z0).n) := by
  rcases H.at_ with h0 | ⟨b, off, h1, h2, h3⟩
  · omega
  · exact ⟨b, off, h1, h2, h3 k hk⟩
theorem SzIn.same {w w' : World} {o : Option Addr} {n cap : Nat} {L : List sl.Sz} (H : SzIn w o n cap L) (hb : ∀ k, k < w.heap.size → (∀ off, o = some ⟨k, off, none⟩ → w'.heap[k]? = w.heap[k]?)) (hs : w.heap.size ≤ w'.heap.size) : SzIn w' o n cap L :=
  ⟨H.len, H.le, H.max, H.at_.imp id fun ⟨b, off, h1, h2, h3⟩ => ⟨b, off, h1, Nat.lt_of_lt_of_le h2 hs, fun k hk => ⟨(World.cell?_of_block (a := ⟨b, off + k * 2, none⟩) (hb b h2 off h1)).trans (h3 k hk).1, (World.cell?_of_block (a := ⟨b, off + k * 2 + 1, none⟩) (hb b h2 off h1)).trans (h3 k hk).2⟩⟩⟩
theorem SzIn.below {w w' : World} {o : Option Addr} {n cap : Nat} {L : List sl.Sz} (H : SzIn w o n cap L) (hb : Below w.heap.size w w') : SzIn w' o n cap L :=
  H.same (fun k hk _ _ => hb.block k hk) hb.size
theorem SzIn.take {w : World} {o : Option Addr} {n cap : Nat} {L : List sl.Sz} (H : SzIn w o n cap L) (m : Nat) (hm : m ≤ n) : SzIn w o m cap (L.take m) :=
  ⟨by rw [List.length_take, H.len]; omega, Nat.le_trans hm H.le, H.max, H.at_.elim (fun h => .inl (by omega)) fun ⟨b, off, h1, h2, h3⟩ => .inr ⟨b, off, h1, h2, fun k hk => by
    have := h3 k (by omega)
    rw [show (L.take m).getD k sl.z0 = L.getD k sl.z0 by simp [List.getD, hk]]
    exact this⟩⟩
end Go.Proofs.Yteilaoiimlpbkaa
