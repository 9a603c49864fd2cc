/- Slices of numbers that come in or were made; SameInts; from a walk to a row. -/
import Derived.Test.YtaklkhjgdopbgaaRingAlive
import Derived.ProofKit
import Derived.OpenShut
import Derived.Carry
import Derived.Lib.SmallJoins
import Derived.Lib.SliceRun
import Derived.Laws.Slices
namespace Go.Proofs.Ytaklkhjgdopbgaa
open Go.ChangeShapes Go.WideShapes Go.ChangeAt Go.RowKit Go.Joins

theorem ret_bool {a b : Bool} (h : a = b) : Ending.returned (.bool a) = .returned (.bool b) := by rw [h]

/-- numbers in the cells of a slice -/
structure Ints (w : World) (o : Option Addr) (n cap : Nat) (zs : List Int) : Prop where
  len : zs.length = n
  le : n ≤ cap
  max : cap ≤ maxLen
  at_ : n = 0 ∨ ∃ b off, o = some ⟨b, off, none⟩ ∧ b < w.heap.size ∧ ∀ k, k < n → w.cell? ⟨b, off + k, none⟩ = some (.int .i64 (zs.getD k 0))
theorem Ints.same {w w' : World} {o : Option Addr} {n cap : Nat} {zs : List Int} (H : Ints w o n cap zs) (hb : ∀ k, k < w.heap.size → (∀ off, o = some ⟨k, off, none⟩ → w'.heap[k]? = w.heap[k]?)) (hs : w.heap.size ≤ w'.heap.size) : Ints w' o n cap zs :=
  ⟨H.len, H.le, H.max, H.at_.imp id fun ⟨b, off, h1, h2, h3⟩ => ⟨b, off, h1, Nat.lt_of_lt_of_le h2 hs, fun k hk => (World.cell?_of_block (a := ⟨b, off + k, none⟩) (hb b h2 off h1)).trans (h3 k hk)⟩⟩
theorem Ints.below {w w' : World} {o : Option Addr} {n cap : Nat} {zs : List Int} (H : Ints w o n cap zs) (hb : Below w.heap.size w w') : Ints w' o n cap zs :=
  H.same (fun k hk _ _ => hb.block k hk) hb.size
theorem Ints.drewN {w : World} {o : Option Addr} {n cap : Nat} {zs : List Int} (H : Ints w o n cap zs) (j : Nat) : Ints (w.drewN j) o n cap zs := ⟨H.len, H.le, H.max, H.at_⟩
theorem Ints.cell {w : World} {o : Option Addr} {n cap : Nat} {zs : List Int} (H : Ints w o n cap zs) {k : Nat} (hk : k < n) : ∃ b off, o = some ⟨b, off, none⟩ ∧ b < w.heap.size ∧ w.cell? ⟨b, off + k, none⟩ = some (.int .i64 (zs.getD k 0)) := by
  rcases H.at_ with h0 | ⟨b, off, h1, h2, h3⟩
  · omega
  · exact ⟨b, off, h1, h2, h3 k hk⟩
theorem Ints.of_own {w : World} {base : Nat} {e : TypeId} {v : Value} {n : Nat} {zs : List Int} (h : w.ownsRow base e 1 v n (zs.map (Value.int .i64))) : ∃ o cap, v = .slice o n cap ∧ Ints w o n cap zs := by
  have hl : zs.length = n := by have := own_len h; simpa using this
  by_cases h0 : n = 0
  · subst h0
    rcases h.2 with ⟨rfl, _⟩ | ⟨g, cap, cur, rfl, _, _, hc, hm, _⟩
    · exact ⟨_, _, rfl, hl, Nat.le_refl _, Nat.zero_le _, .inl rfl⟩
    · exact ⟨_, _, rfl, hl, hc, hm, .inl rfl⟩
  · obtain ⟨g, cap, rfl, hg, hlt, hc, hm⟩ := own_some h (by omega)
    refine ⟨_, _, rfl, hl, hc, hm, .inr ⟨g, 0, rfl, hlt, fun k hk => ?_⟩⟩
    have := own_cell (d := Value.int .i64 0) h hk
    rw [Nat.zero_add, this]
    simp [List.getD, List.getElem?_map]
    try (cases zs[k]? <;> rfl)

theorem same_step {xs ys : List Int} {k : Nat} (h : ∀ i, i < k → xs.getD i 0 = ys.getD i 0) (hk : xs.getD k 0 = ys.getD k 0) : ∀ i, i < k + 1 → xs.getD i 0 = ys.getD i 0 := by
  intro i hi
  by_cases e : i = k
  · subst e; exact hk
  · exact h i (by omega)
theorem same_all {xs ys : List Int} {n : Nat} (hx : xs.length = n) (hy : ys.length = n) (h : ∀ i, i < n → xs.getD i 0 = ys.getD i 0) : xs = ys := by
  apply List.ext_getElem (by omega)
  intro i h1 h2
  have := h i (by omega)
  simpa [List.getD, h1, h2] using this

set_option maxHeartbeats 800000 in
theorem same_any (o : Option Addr) (n cap : Nat) (xs : List Int) (o' : Option Addr) (n' cap' : Nat) (ys : List Int) (w : World) (hx : Ints w o n cap xs) (hy : Ints w o' n' cap' ys) :
    Calls Try.prog 21 #[.slice o n cap, .slice o' n' cap'] w fun e w' => e = .returned (.bool (decide (xs = ys))) ∧ ∃ nq, w' = w.drewN nq := by
  have hm : cap ≤ 9223372036854775807 := hx.max
  have hm' : cap' ≤ 9223372036854775807 := hy.max
  have hle := hx.le
  have hle' := hy.le
  by_cases hn : n = n'
  · subst hn
    have HX := Lib.hid hx; have HY := Lib.hid hy
    clear hx hy
    go_enter Try.func21, Try.ntmps21
    go_wp2_with fail
    go_loopg [5] n (fun gg s5 wr => ∃ k j : Nat, s5 = .int .i64 k ∧ k ≤ n ∧ n - k ≤ gg ∧ Hid (∀ i, i < k → xs.getD i 0 = ys.getD i 0) ∧ Hid (wr = w.drewN j))
    case atStart => exact ⟨0, 0, rfl, Nat.zero_le _, by omega, Lib.hid (fun i hi => by omega), Lib.hid rfl⟩
    case round =>
      obtain ⟨k, j, rfl, hk, hgg, hall, hw⟩ := hrel
      by_cases hlt : k < n
      · obtain ⟨b, off, rfl, hb, k0⟩ := (show Ints wr _ _ _ _ from hw.out ▸ HX.out.drewN j).cell hlt
        obtain ⟨b', off', rfl, hb', k0'⟩ := (show Ints wr _ _ _ _ from hw.out ▸ HY.out.drewN j).cell hlt
        have hst := fun h => same_step (k := k) hall.out h
        have hne : xs.getD k 0 ≠ ys.getD k 0 → decide (xs = ys) = false := fun h => decide_eq_false (fun e => h (by rw [e]))
        generalize xs.getD k 0 = x at *
        generalize ys.getD k 0 = y at *
        have HS := Lib.hid hst; have HN := Lib.hid hne
        clear hst hne
        have hki : ((k : Int) < (n : Int)) := by omega
        by_cases e : x = y
        · have HSS := Lib.hid (HS.out e)
          have e1 : (x == y) = true := by simpa using e
          have e2 : (x != y) = false := by simpa using e
          clear e
          go_wp2_with fail
          go_quiet (fail)
          go_wp2_with fail
          go_roundg (n - (k + 1))
          case measure => omega
          case rel => exact ⟨k + 1, j + nq, by go_num, by omega, Nat.le_refl _, HSS, Lib.hid (by rw [hw.out, World.drewN_drewN])⟩
        · have HNN := Lib.hid (HN.out e)
          have e1 : (x == y) = false := by simpa using e
          have e2 : (x != y) = true := by simpa using e
          clear e
          go_wp2_with fail
          go_quiet (fail)
          go_wp2_with fail
          go_ret
          exact ⟨ret_bool HNN.out.symm, j + nq, by rw [hw.out, World.drewN_drewN]⟩
      · obtain rfl : k = n := by omega
        have HD := Lib.hid (show decide (xs = ys) = true from decide_eq_true (same_all HX.out.len HY.out.len hall.out))
        go_wp2_with fail
        go_ret
        exact ⟨ret_bool HD.out.symm, j, hw.out⟩
  · have HD := Lib.hid (show decide (xs = ys) = false from decide_eq_false (fun e => hn (by rw [← hx.len, ← hy.len, e])))
    have hi : ((n : Int) != (n' : Int)) = true := by simp; omega
    have hi2 : ((n : Int) == (n' : Int)) = false := by simp; omega
    clear hx hy
    go_enter Try.func21, Try.ntmps21
    go_wp2_with fail
    go_ret
    exact ⟨ret_bool HD.out.symm, 0, rfl⟩

theorem addr_add0 (a : Addr) : a.add 0 = a := by unfold Addr.add; split <;> simp_all
/-- where a slice's end lies: under a name of its own, so that a walk does not part on it -/
def slo (o : Option Addr) (cap l : Nat) : Option Addr := if cap = l then o else o.map (·.add l)
theorem run_slo (o : Option Addr) (n cap : Nat) (k : IntKind) (l : Nat) (hl : (l : Int) ≤ (n : Int)) (wx : World) : (Instr.slice 26 (.slice o n cap) (some (.int k (l : Int))) none none).run Try.prog wx = .ok (.slice (slo o cap l) (n - l) (cap - l)) wx := by
  rw [run_slice_l wx 26 o n cap Try.underlying26 k l (by omega) (by omega)]
  have hz : (sizeOf (Try.prog.elem 26)).run Try.prog wx = .ok 1 wx := by kernel_rfl
  rw [hz]
  simp [Result.andThen, sliced, slo]
/-- a slice's end -/
theorem slice_lo {w : World} {o : Option Addr} {n cap : Nat} {zs : List Int} (H : Ints w o n cap zs) (l : Nat) (hl : l ≤ n) : Ints w (slo o cap l) (n - l) (cap - l) (zs.drop l) := by
  have hle := H.le
  have hm := H.max
  refine ⟨by rw [List.length_drop, H.len], by omega, by omega, ?_⟩
  rcases H.at_ with h0 | ⟨b, off, rfl, hb, hc⟩
  · exact .inl (by omega)
  · by_cases hcl : cap = l
    · exact .inl (by omega)
    · right
      refine ⟨b, off + l, by rw [slo, if_neg hcl]; simp [Addr.add], hb, fun k hk => ?_⟩
      rw [Nat.add_assoc, hc (l + k) (by omega)]
      simp [List.getD, List.getElem?_drop]
theorem slo_block (o : Option Addr) (cap l : Nat) : ∀ a', slo o cap l = some a' → ∃ a, o = some a ∧ a'.block = a.block := by
  intro a' h
  unfold slo at h
  split at h
  · exact ⟨a', h, rfl⟩
  · cases o with
    | none => simp at h
    | some a =>
      refine ⟨a, rfl, ?_⟩
      simp at h
      rw [← h]
      unfold Addr.add
      split <;> rfl
/-- a slice's beginning -/
theorem slice_hi {w : World} {o : Option Addr} {n cap : Nat} {zs : List Int} (H : Ints w o n cap zs) (l : Nat) (hl : l ≤ n) (x : Int) (hx : x = (l : Int)) :
    (∀ (k : IntKind) (wx : World), (Instr.slice 26 (.slice o n cap) none (some (.int k x)) none).run Try.prog wx = .ok (.slice o l cap) wx) ∧ Ints w o l cap (zs.take l) := by
  subst hx
  have hle := H.le
  refine ⟨fun k wx => ?_, ⟨by rw [List.length_take, H.len]; omega, by omega, H.max, ?_⟩⟩
  · rw [run_slice_h wx 26 o n cap Try.underlying26 k l (by omega) (by omega)]
    have hz : (sizeOf (Try.prog.elem 26)).run Try.prog wx = .ok 1 wx := by kernel_rfl
    rw [hz]
    have e : (fun x : Addr => x.add 0) = id := funext addr_add0
    simp [Result.andThen, sliced, e]
  · rcases H.at_ with h0 | ⟨b, off, rfl, hb, hc⟩
    · exact .inl (by omega)
    · right
      exact ⟨b, off, rfl, hb, fun k hk => by rw [hc k (by omega)]; simp [List.getD, hk]⟩
end Go.Proofs.Ytaklkhjgdopbgaa
