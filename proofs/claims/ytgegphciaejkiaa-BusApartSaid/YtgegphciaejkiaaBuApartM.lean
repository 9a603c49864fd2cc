/- BusApart on lists: slot 0 hangs on slot 0 alone. -/
import Derived.Test.YtgegphciaejkiaaBuTwo
namespace Go.Proofs.Ytgegphciaejkiaa
open Go.RowKit
namespace bu
theorem openA_one (S : Nat → Slot) : openA S 1 = if (S 0).on = true then some 0 else none := by
  unfold openA
  by_cases h : (S 0).on = true
  · rw [if_pos h, if_pos ⟨by omega, by omega, h⟩]; rfl
  · rw [if_neg h, if_neg fun x => h x.2.2]
theorem openA_same {S1 S2 : Nat → Slot} (h : S1 0 = S2 0) : openA S1 1 = openA S2 1 := by rw [openA_one, openA_one, h]
theorem openA_one_lt {S : Nat → Slot} {i : Nat} (h : openA S 1 = some i) : i = 0 := by have := (openA_lt h).2.2; omega
theorem doesS_same {S1 S2 : Nat → Slot} (h : S1 0 = S2 0) (x : Op) (hp : x.p = 1) : doesS S1 x 0 = doesS S2 x 0 := by
  have ho := openA_same h
  unfold doesS
  rw [hp]
  split
  · unfold openR
    rw [show slotAt 1 = some 0 from rfl]
    simp only
    rw [h]
    split
    · exact h
    · simp only; rw [upd_same, upd_same]
  split
  · unfold shutR
    rw [ho]
    split
    · exact h
    · rename_i i hi
      obtain rfl := openA_one_lt hi
      simp only; rw [upd_same, upd_same]
  split
  · unfold subR
    rw [ho]
    split
    · exact h
    · rename_i i hi
      obtain rfl := openA_one_lt hi
      simp only
      split
      · simp only; rw [upd_same, upd_same, h]
      · exact h
  split
  · unfold sendR
    rw [ho]
    split
    · exact h
    · rename_i i hi
      obtain rfl := openA_one_lt hi
      simp only; rw [upd_same, upd_same, h]
  split
  · unfold takeR
    rw [ho]
    split
    · exact h
    · rename_i i hi
      obtain rfl := openA_one_lt hi
      rw [h]
      split
      · exact h
      · simp only; rw [upd_same, upd_same]
  · exact h
theorem doesS_other (S : Nat → Slot) (x : Op) (hp : x.p ≠ 1) : doesS S x 0 = S 0 := by
  have key : ∀ i, openA S x.p = some i → (0 : Nat) ≠ i := fun i hi e => hp (by have := (openA_lt hi).2.2; omega)
  unfold doesS
  split
  · unfold openR
    split
    · rfl
    · rename_i i hi
      split
      · rfl
      · exact upd_other _ _ (fun e => hp (by have := (slotAt_lt hi).2; omega))
  split
  · unfold shutR
    split
    · rfl
    · rename_i i hi
      exact upd_other _ _ (key i hi)
  split
  · unfold subR
    split
    · rfl
    · rename_i i hi
      split
      · exact upd_other _ _ (key i hi)
      · rfl
  split
  · unfold sendR
    split
    · rfl
    · rename_i i hi
      exact upd_other _ _ (key i hi)
  split
  · unfold takeR
    split
    · rfl
    · rename_i i hi
      split
      · rfl
      · exact upd_other _ _ (key i hi)
  · rfl
theorem pub_same {S1 S2 : Nat → Slot} (h : S1 0 = S2 0) (e : Ev) : (pub S1 e 4).2 0 = (pub S2 e 4).2 0 := by rw [pub_at, pub_at, h]
theorem lenA_same {S1 S2 : Nat → Slot} (h : S1 0 = S2 0) : lenA S1 1 = lenA S2 1 := by
  unfold lenA
  rw [openA_same h]
  split
  · rfl
  · rename_i i hi
    obtain rfl := openA_one_lt hi
    rw [h]
theorem dropA_same {S1 S2 : Nat → Slot} (h : S1 0 = S2 0) : dropA S1 1 = dropA S2 1 := by
  unfold dropA
  rw [openA_same h]
  split
  · rfl
  · rename_i i hi
    obtain rfl := openA_one_lt hi
    rw [h]
theorem kindsA_same {S1 S2 : Nat → Slot} (h : S1 0 = S2 0) : kindsA S1 1 = kindsA S2 1 := by
  unfold kindsA
  rw [openA_same h]
  split
  · rfl
  · rename_i i hi
    obtain rfl := openA_one_lt hi
    rw [h]
theorem takeR_same {S1 S2 : Nat → Slot} (h : S1 0 = S2 0) : (takeR S1 1).1 = (takeR S2 1).1 ∧ (takeR S1 1).2 0 = (takeR S2 1).2 0 := by
  unfold takeR
  rw [openA_same h]
  split
  · exact ⟨rfl, h⟩
  · rename_i i hi
    obtain rfl := openA_one_lt hi
    rw [h]
    split
    · exact ⟨rfl, h⟩
    · exact ⟨rfl, by simp only; rw [upd_same, upd_same]⟩
/-- a queue that isn't empty gives its first event -/
theorem takeR_len (S : Nat → Slot) : (lenA S 1 = 0 ∧ (takeR S 1) = (none, S)) ∨ ∃ e S', takeR S 1 = (some e, S') ∧ lenA S' 1 + 1 = lenA S 1 := by
  unfold takeR lenA
  rw [openA_one]
  by_cases ho : (S 0).on = true
  · rw [if_pos ho]
    simp only
    cases hq : (S 0).queue with
    | nil => exact .inl ⟨rfl, rfl⟩
    | cons e l =>
      refine .inr ⟨e, _, rfl, ?_⟩
      rw [openA_one, upd_same]
      simp only
      rw [if_pos ho]
      simp only
      rw [upd_same]
      rfl
  · rw [if_neg ho]
    exact .inl ⟨rfl, rfl⟩
end bu
end Go.Proofs.Ytgegphciaejkiaa
