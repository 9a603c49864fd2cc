/- TimerPeriods on lists: one timer with a period. -/
import Derived.Test.YtfelmnhhldgobaaTmAlive
namespace Go.Proofs.Ytfelmnhhldgobaa
open Go.RowKit
namespace tm
def tt (p a : Int) : T := ⟨1, 7, a, p⟩
def seq (p : Int) : Nat → Int → List T
  | 0, _ => []
  | j + 1, a => tt p a :: seq p j (a + p)
theorem seq_len (p : Int) : ∀ (j : Nat) (a : Int), (seq p j a).length = j
  | 0, _ => rfl
  | j + 1, a => by unfold seq; rw [List.length_cons, seq_len p j]
theorem seq_ix (p : Int) : ∀ (j i : Nat) (a : Int), i < j → ix (seq p j a) i = tt p (a + (i : Int) * p)
  | 0, i, a, h => by omega
  | j + 1, 0, a, _ => by show tt p a = _; simp
  | j + 1, i + 1, a, h => by
    show ix (seq p j (a + p)) i = _
    rw [seq_ix p j i (a + p) (by omega)]
    congr 1
    rw [Int.natCast_succ, Int.add_mul, Int.one_mul]
    omega
theorem tell_one (now last a p : Int) (hp : 0 < p) (ha : isT (a + p) = true) : tellR ⟨now, last, [tt p a]⟩ = (tt p a, ⟨now, last, [tt p (a + p)]⟩) := by
  show (tt p a, (⟨now, last, if 0 < p ∧ isT (a + p) = true then push [] ⟨1, 7, a + p, p⟩ else []⟩ : St)) = _
  rw [if_pos ⟨hp, ha⟩]
  rfl
theorem tells_one (now last till p : Int) (hp : 0 < p) (hpb : p ≤ 1073741824) (ht : till ≤ 1073741824) : ∀ (m : Nat) (a : Int), 0 ≤ a → a ≤ 2147483648 → ∃ j : Nat, j ≤ m ∧ tellsU m ⟨now, last, [tt p a]⟩ till = (seq p j a, ⟨now, last, [tt p (a + (j : Int) * p)]⟩) ∧ (∀ i : Nat, i < j → a + (i : Int) * p ≤ till) ∧ (j < m → till < a + (j : Int) * p) ∧ 0 ≤ a + (j : Int) * p ∧ a + (j : Int) * p ≤ 2147483648
  | 0, a, h0, h1 => ⟨0, Nat.le_refl _, by simp [tellsU, seq], fun i hi => by omega, fun h => by omega, by simpa using h0, by simpa using h1⟩
  | m + 1, a, h0, h1 => by
    by_cases hc : a ≤ till
    · obtain ⟨j, hj, he, hi, hl, hz, hu⟩ := tells_one now last till p hp hpb ht m (a + p) (by omega) (by omega)
      have ht2 : isT (a + p) = true := (isT_iff _).2 (by omega)
      have e2 : (((j + 1 : Nat) : Int)) * p = (j : Int) * p + p := by rw [Int.natCast_succ, Int.add_mul, Int.one_mul]
      refine ⟨j + 1, by omega, ?_, fun i hi2 => ?_, fun h => ?_, by omega, by omega⟩
      · have e : comesB ⟨now, last, [tt p a]⟩ till = true := by unfold comesB; exact decide_eq_true ⟨by simp, hc⟩
        unfold tellsU
        rw [if_pos e, tell_one now last a p hp ht2]
        simp only
        rw [he, e2]
        simp only [seq]
        rw [show a + p + (j : Int) * p = a + ((j : Int) * p + p) by omega]
      · cases i with
        | zero => simpa using hc
        | succ i =>
          have := hi i (by omega)
          have e3 : (((i + 1 : Nat) : Int)) * p = (i : Int) * p + p := by rw [Int.natCast_succ, Int.add_mul, Int.one_mul]
          omega
      · have := hl (by omega)
        omega
    · refine ⟨0, Nat.zero_le _, ?_, fun i hi => by omega, fun _ => by simp; omega, by simpa using h0, by simpa using h1⟩
      have e : comesB ⟨now, last, [tt p a]⟩ till = false := by unfold comesB; exact decide_eq_false fun h => hc h.2
      unfold tellsU
      rw [if_neg (by rw [e]; decide)]
      simp [seq]
theorem set_one (n p : Int) (hn : isT n = true) (hp : isT p = true) : setR St.zero 7 n p = ((1, 0), ⟨0, 1, [tt p n]⟩) := by
  have h0 : isT ((0 : Int) + n) = true := by rw [Int.zero_add]; exact hn
  have : setR St.zero 7 n p = ((1, 0), (⟨0, 1, [⟨1, 7, 0 + n, p⟩]⟩ : St)) := by
    unfold setR
    rw [if_neg (by rw [hn, hp]; show ¬ ((7 : Int) < 1 ∨ true = false ∨ true = false ∨ isT ((0 : Int) + n) = false); rw [h0]; decide), if_neg (by decide)]
    rfl
  rw [this, Int.zero_add]
  rfl
theorem good_one (now a p : Int) (h0 : 0 ≤ now) (h1 : now ≤ 1099511627776) (ha : isT a = true) (hp : isT p = true) : Good ⟨now, 1, [tt p a]⟩ := ⟨h0, h1, by simp, fun t ht => by
  obtain rfl := List.mem_singleton.1 ht
  exact ⟨ha, hp⟩⟩
theorem stop_one (now a p : Int) : stopR ⟨now, 1, [tt p a]⟩ 1 = (0, ⟨now, 1, []⟩) := by rfl
theorem next_one (now a p : Int) : nextR ⟨now, 1, [tt p a]⟩ = (a, true) := by rfl
/-- what a Pass tells: j times of it, then the clock -/
theorem pass_one (now till a p : Int) (hp : 0 < p) (hpb : p ≤ 1073741824) (ht : till ≤ 1073741824) (h0 : 0 ≤ now) (hnt : now ≤ till) (ha0 : 0 ≤ a) (ha1 : a ≤ 2147483648) : ∃ j : Nat, j ≤ 16 ∧ passR ⟨now, 1, [tt p a]⟩ till = ((seq p j a, 0), ⟨if j = 16 then a + 15 * p else till, 1, [tt p (a + (j : Int) * p)]⟩) ∧ (∀ i : Nat, i < j → a + (i : Int) * p ≤ till) ∧ (j < 16 → till < a + (j : Int) * p) ∧ 0 ≤ a + (j : Int) * p ∧ a + (j : Int) * p ≤ 2147483648 := by
  obtain ⟨j, hj, he, hi, hl, hz, hu⟩ := tells_one now 1 till p hp hpb ht 16 a ha0 ha1
  refine ⟨j, hj, ?_, hi, hl, hz, hu⟩
  have hT : isT till = true := (isT_iff _).2 (by omega)
  unfold passR
  rw [if_neg (by rw [hT]; simp; omega), he]
  simp only [seq_len]
  by_cases h16 : j = 16
  · rw [if_pos h16, if_pos h16, seq_ix p j 15 a (by omega)]
    rfl
  · rw [if_neg h16, if_neg h16]
end tm
end Go.Proofs.Ytfelmnhhldgobaa
