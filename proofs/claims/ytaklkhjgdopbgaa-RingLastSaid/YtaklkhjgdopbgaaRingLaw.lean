/- A ring's calls as the laws meet them (int). -/
import Derived.Test.YtaklkhjgdopbgaaRingIn
namespace Go.Proofs.Ytaklkhjgdopbgaa
open Go.RowKit

theorem is_drewN {w : World} {b : Nat} {pv : Value} {L : List Value} {most gone : Nat} (h : rI.Is w b pv L most gone) (j : Nat) : rI.Is (w.drewN j) b pv L most gone := by
  obtain ⟨ps, first, hr, hL⟩ := h
  exact ⟨ps, first, hr.drewN j, hL⟩
theorem at_in2 {b : Nat} {pv : Value} {L : List Value} {most gone : Nat} {w : World} (i : Nat) (x : Int) (h : rI.Is w b pv L most gone) (hi : i < L.length) (hx : L.getD i (Value.int .i64 0) = .int .i64 x) :
    Calls Try.prog 17 #[.pointer (some ⟨b, 0, none⟩), .int .i64 (i : Int)] w fun e w' => e = .returned (.tuple #[.int .i64 x, .bool true]) ∧ rI.Is w' b pv L most gone ∧ Below w.heap.size w w' :=
  (rI.at_in b pv L most gone i w h hi).mono fun e w' ⟨he, nq, hw⟩ => ⟨by rw [he, hx], by rw [hw]; exact is_drewN h nq, by rw [hw]; exact below_drewN (Below.refl _ _) nq⟩
/-- a Push in a row of them -/
theorem push_law (b : Nat) (pv : Value) (M : List Value) (T : Nat) (z : Int) (w : World) (h : rI.Is w b pv (rg.lastOf M T) T (M.length - T)) (hg : M.length < 4611686018427387904) :
    Calls Try.prog 11 #[.pointer (some ⟨b, 0, none⟩), .int .i64 z] w fun e w' => ∃ x ok pv', e = .returned (.tuple #[x, .bool ok]) ∧ ok = decide (T ≤ M.length) ∧ rI.Is w' b pv' (rg.lastOf (M ++ [Value.int .i64 z]) T) T ((M ++ [Value.int .i64 z]).length - T) ∧ Kept w w' (Tch b pv) ∧ Moved w pv pv' := by
  have h' : rI.Is w b pv (rg.lastOf M T) T (0 + (M.length - T)) := by rw [Nat.zero_add]; exact h
  by_cases hlt : M.length < T
  · refine (rI.push_more b pv M T 0 z w h' hlt).mono fun e w' ⟨he, pv', hi, hk, hm⟩ => ⟨_, _, pv', he, by rw [decide_eq_false (by omega)], ?_, hk, hm⟩
    rw [Nat.zero_add] at hi
    exact hi
  · refine (rI.push_over b pv M T 0 z w h' (by omega) (by omega)).mono fun e w' ⟨he, pv', hi, hk, hm⟩ => ⟨_, _, pv', he, by rw [decide_eq_true (by omega)], ?_, hk, hm⟩
    rw [Nat.zero_add] at hi
    exact hi
theorem push_below {w w' : World} {b B : Nat} {pv : Value} {L : List Value} {most gone : Nat} (h : rI.Is w b pv L most gone) (hk : Kept w w' (Tch b pv)) (hB : B ≤ b) : Below B w w' := by
  have hlt := h.lt
  refine hk.below (by omega) (fun k hk' => ?_)
  rcases hk' with rfl | hk'
  · exact hB
  · have := h.own k hk'; omega
theorem map_take_snoc (zs : List Int) (k : Nat) (h : k < zs.length) : (zs.map (Value.int .i64)).take (k + 1) = (zs.map (Value.int .i64)).take k ++ [Value.int .i64 (zs.getD k 0)] := by
  rw [List.take_succ_eq_append_getElem (by simpa using h)]
  simp [List.getD, h]
theorem len_take (zs : List Int) (k : Nat) (h : k ≤ zs.length) : ((zs.map (Value.int .i64)).take k).length = k := by simp; omega
theorem last_getD (M : List Value) (T : Nat) (z : Int) (hT : 0 < T) : (rg.lastOf (M ++ [Value.int .i64 z]) T).getD ((rg.lastOf (M ++ [Value.int .i64 z]) T).length - 1) (Value.int .i64 0) = .int .i64 z := by
  have h1 := rg.length_lastOf (M ++ [Value.int .i64 z]) T
  simp only [List.length_append, List.length_singleton] at h1
  rw [h1]
  unfold rg.lastOf
  simp only [List.getD, List.getElem?_drop, List.length_append, List.length_singleton]
  rw [show M.length + 1 - T + (min T (M.length + 1) - 1) = M.length by omega]
  simp
theorem len_law {w : World} {b : Nat} {pv : Value} {L : List Value} {most gone l : Nat} (h : rI.Is w b pv L most gone) (hl : L.length = l) :
    Calls Try.prog 18 #[.pointer (some ⟨b, 0, none⟩)] w fun e w' => e = .returned (.int .i64 (l : Int)) ∧ w = w' := by
  rw [← hl]; exact len_is h
theorem lastOf_map (zs : List Int) (T : Nat) : rg.lastOf (zs.map (Value.int .i64)) T = (rg.lastOf zs T).map (Value.int .i64) := by simp [rg.lastOf]
theorem getD_map (zs : List Int) (i : Nat) : (zs.map (Value.int .i64)).getD i (Value.int .i64 0) = .int .i64 (zs.getD i 0) := by
  simp [List.getD, List.getElem?_map]
  try (cases zs[i]? <;> rfl)
/-- All, as numbers -/
theorem all_law {w : World} {b : Nat} {pv : Value} {zs : List Int} {most gone l : Nat} (h : rI.Is w b pv (zs.map (Value.int .i64)) most gone) (hl : zs.length = l) :
    Calls Try.prog 20 #[.pointer (some ⟨b, 0, none⟩)] w fun e w' => ∃ o cap, e = .returned (.slice o l cap) ∧ Ints w' o l cap zs ∧ Below w.heap.size w w' :=
  (rI.all_any b pv _ most gone w h).mono fun e w' ⟨av, he, hr, hb⟩ => by
    rw [List.length_map, hl] at hr
    obtain ⟨o, cap, rfl, hi⟩ := Ints.of_own hr
    exact ⟨o, cap, he, hi, hb⟩
/-- a Push of which only the truth is looked at -/
theorem push_is {w : World} {b : Nat} {pv : Value} {L : List Value} {most gone : Nat} (z : Int) (h : rI.Is w b pv L most gone) (hg : gone < 4611686018427387904) :
    Calls Try.prog 11 #[.pointer (some ⟨b, 0, none⟩), .int .i64 z] w fun e w' => ∃ x, e = .returned (.tuple #[x, .bool (decide (L.length = most))]) ∧ ∃ pv' L' g', rI.Is w' b pv' L' most g' ∧ Kept w w' (Tch b pv) := by
  have hle := h.le.1
  by_cases hlt : L.length < most
  · refine (rI.push_room b pv L most gone z w h hlt).mono fun e w' ⟨he, pv', hi, hk, _⟩ => ⟨Value.int .i64 0, by rw [he, decide_eq_false (by omega)], _, _, _, hi, hk⟩
  · by_cases h0 : most = 0
    · subst h0
      refine (rI.push_none b pv L gone z w h hg).mono fun e w' ⟨he, pv', hi, hk, _⟩ => ⟨Value.int .i64 z, by rw [he, decide_eq_true (by omega)], _, _, _, hi, hk⟩
    · refine (rI.push_full b pv L most gone z w h (by omega) (by omega) hg).mono fun e w' ⟨he, pv', hi, hk, _⟩ => ⟨L.headD (Value.int .i64 0), by rw [he, decide_eq_true (by omega)], _, _, _, hi, hk⟩

/-- the lesser, the greater: under names of their own, so that a walk does not part on them -/
def mn (x y : Int) : Int := if y < x then y else x
def mx (x y : Int) : Int := if x < y then y else x
theorem run_mn {P : Program} {w : World} (ts : Array TypeId) (t : TypeId) (k k' : IntKind) (x y : Int) : (Builtin.min_ ts t #[.int k x, .int k' y]).run P w = .ok (.int k (mn x y)) w := run_min_int2 w ts t k k' x y
theorem run_mx {P : Program} {w : World} (ts : Array TypeId) (t : TypeId) (k k' : IntKind) (x y : Int) : (Builtin.max_ ts t #[.int k x, .int k' y]).run P w = .ok (.int k (mx x y)) w := run_max_int2 w ts t k k' x y
theorem mn_top (m : Int) : mn (mx m 0) 1000 = (rI.top m : Int) := by unfold mn mx rI.top; omega
theorem mn_nat (a b : Nat) : mn (a : Int) (b : Int) = ((min a b : Nat) : Int) := by unfold mn; omega
theorem lastOf_all {α : Type} (M : List α) (T : Nat) (h : M.length ≤ T) : rg.lastOf M T = M := by unfold rg.lastOf; rw [show M.length - T = 0 by omega]; rfl
theorem below_of_drewN {B : Nat} {w w' : World} {j : Nat} (h : Below B (w.drewN j) w') : Below B w w' := ⟨h.os, h.tape, h.output, h.size, h.block⟩
theorem all_law2 {w : World} {b : Nat} {pv : Value} {zs : List Int} {most gone l : Nat} (h : rI.Is w b pv (zs.map (Value.int .i64)) most gone) (hl : zs.length = l) (j : Nat) :
    Calls Try.prog 20 #[.pointer (some ⟨b, 0, none⟩)] (w.drewN j) fun e w' => ∃ o cap, e = .returned (.slice o l cap) ∧ Ints w' o l cap zs ∧ Below w.heap.size w w' :=
  (all_law (is_drewN h j) hl).mono fun _ _ ⟨o, cap, he, hi, hb⟩ => ⟨o, cap, he, hi, below_of_drewN hb⟩
end Go.Proofs.Ytaklkhjgdopbgaa
