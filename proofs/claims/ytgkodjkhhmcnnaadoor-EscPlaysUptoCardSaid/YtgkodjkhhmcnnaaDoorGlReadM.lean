/- Bytes in pieces are read as at once; no Go. -/
import Derived.Test.YtgkodjkhhmcnnaaDoorGlRunesM
namespace Go.Proofs.YtgkodjkhhmcnnaaDoor.gl
open Go.Lib

theorem b_append (l r : List UInt8) (i : Nat) (h : i < l.length) : b (l ++ r) i = b l i := by
  unfold b
  simp only [List.getD]
  rw [List.getElem?_append_left h]
/-- full's tests, when it says yes -/
theorem full_parts {l : List UInt8} (h : full l = true) : firstT (b l 0) % 8 ≤ l.length ∨ (1 < l.length ∧ (b l 1 < accLo (firstT (b l 0) / 16) ∨ accHi (firstT (b l 0) / 16) < b l 1)) ∨ (2 < l.length ∧ (b l 2 < 128 ∨ 191 < b l 2)) := by
  unfold full at h
  split at h
  · simp at h
  · split at h
    · exact .inl (by assumption)
    · split at h
      · exact .inr (.inl (by assumption))
      · split at h
        · exact .inr (.inr (by assumption))
        · simp at h
theorem full_of {l : List UInt8} (h0 : l ≠ []) (h : firstT (b l 0) % 8 ≤ l.length ∨ (1 < l.length ∧ (b l 1 < accLo (firstT (b l 0) / 16) ∨ accHi (firstT (b l 0) / 16) < b l 1)) ∨ (2 < l.length ∧ (b l 2 < 128 ∨ 191 < b l 2))) : full l = true := by
  have hl : l.length ≠ 0 := fun h' => h0 (List.length_eq_zero_iff.1 h')
  unfold full
  rw [if_neg hl]
  split
  · rfl
  · split
    · rfl
    · split
      · rfl
      · rename_i g1 g2 g3
        rcases h with h | h | h
        · exact absurd h g1
        · exact absurd h g2
        · exact absurd h g3
set_option maxRecDepth 100000 in
set_option maxHeartbeats 4000000 in
theorem wN_more (n n' x0 x1 x2 x3 y1 y2 y3 : Nat) (h0 : x0 < 256) (hn : 1 ≤ n) (hnn : n ≤ n') (e1 : 1 < n → y1 = x1) (e2 : 2 < n → y2 = x2) (e3 : 3 < n → y3 = x3)
    (hf : firstT x0 % 8 ≤ n ∨ (1 < n ∧ (x1 < accLo (firstT x0 / 16) ∨ accHi (firstT x0 / 16) < x1)) ∨ (2 < n ∧ (x2 < 128 ∨ 191 < x2))) : wN n' x0 y1 y2 y3 = wN n x0 x1 x2 x3 := by
  rcases firstT_class x0 h0 with ⟨hx, e⟩ | ⟨hx, e⟩ | ⟨hx, e⟩ | ⟨hx, e⟩ | ⟨hx, e⟩ | ⟨hx, e⟩ | ⟨hx, e⟩ | ⟨hx, e⟩ | ⟨hx, e⟩
  · unfold wN; rw [if_pos hx, if_pos hx]
  · unfold wN
    rw [if_neg (by omega), if_neg (by omega), if_neg (by omega), if_neg (by omega), if_neg (by omega), if_neg (by omega), if_neg (by omega), if_neg (by omega)]
  all_goals
    rw [e] at hf
    unfold accLo accHi at hf
    simp only [Nat.reduceMod, Nat.reduceDiv, if_true, reduceCtorEq, if_false, Nat.reduceEqDiff] at hf
    unfold wN
  · rw [if_neg (show ¬ x0 < 128 by omega), if_neg (show ¬ x0 < 128 by omega), if_neg (show ¬ ((224 ≤ x0 ∧ x0 ≤ 239) ∧ _) by omega), if_neg (show ¬ ((224 ≤ x0 ∧ x0 ≤ 239) ∧ _) by omega), if_neg (show ¬ ((240 ≤ x0 ∧ x0 ≤ 244) ∧ _) by omega), if_neg (show ¬ ((240 ≤ x0 ∧ x0 ≤ 244) ∧ _) by omega)]
    split <;> split
    all_goals first | rfl | (exfalso; omega) | (apply Prod.ext <;> simp only <;> omega)
  · rw [if_neg (show ¬ x0 < 128 by omega), if_neg (show ¬ x0 < 128 by omega), if_neg (show ¬ ((194 ≤ x0 ∧ x0 ≤ 223) ∧ _) by omega), if_neg (show ¬ ((194 ≤ x0 ∧ x0 ≤ 223) ∧ _) by omega), if_neg (show ¬ ((240 ≤ x0 ∧ x0 ≤ 244) ∧ _) by omega), if_neg (show ¬ ((240 ≤ x0 ∧ x0 ≤ 244) ∧ _) by omega), if_pos (show x0 = 224 by omega), if_neg (show ¬ x0 = 237 by omega)]
    split <;> split
    all_goals first | rfl | (exfalso; omega) | (apply Prod.ext <;> simp only <;> omega)
  · rw [if_neg (show ¬ x0 < 128 by omega), if_neg (show ¬ x0 < 128 by omega), if_neg (show ¬ ((194 ≤ x0 ∧ x0 ≤ 223) ∧ _) by omega), if_neg (show ¬ ((194 ≤ x0 ∧ x0 ≤ 223) ∧ _) by omega), if_neg (show ¬ ((240 ≤ x0 ∧ x0 ≤ 244) ∧ _) by omega), if_neg (show ¬ ((240 ≤ x0 ∧ x0 ≤ 244) ∧ _) by omega), if_neg (show ¬ x0 = 224 by omega), if_neg (show ¬ x0 = 237 by omega)]
    split <;> split
    all_goals first | rfl | (exfalso; omega) | (apply Prod.ext <;> simp only <;> omega)
  · rw [if_neg (show ¬ x0 < 128 by omega), if_neg (show ¬ x0 < 128 by omega), if_neg (show ¬ ((194 ≤ x0 ∧ x0 ≤ 223) ∧ _) by omega), if_neg (show ¬ ((194 ≤ x0 ∧ x0 ≤ 223) ∧ _) by omega), if_neg (show ¬ ((240 ≤ x0 ∧ x0 ≤ 244) ∧ _) by omega), if_neg (show ¬ ((240 ≤ x0 ∧ x0 ≤ 244) ∧ _) by omega), if_neg (show ¬ x0 = 224 by omega), if_pos (show x0 = 237 by omega)]
    split <;> split
    all_goals first | rfl | (exfalso; omega) | (apply Prod.ext <;> simp only <;> omega)
  all_goals
    rw [if_neg (show ¬ x0 < 128 by omega), if_neg (show ¬ x0 < 128 by omega), if_neg (show ¬ ((194 ≤ x0 ∧ x0 ≤ 223) ∧ _) by omega), if_neg (show ¬ ((194 ≤ x0 ∧ x0 ≤ 223) ∧ _) by omega), if_neg (show ¬ ((224 ≤ x0 ∧ x0 ≤ 239) ∧ _) by omega), if_neg (show ¬ ((224 ≤ x0 ∧ x0 ≤ 239) ∧ _) by omega)]
  · rw [if_pos (show x0 = 240 by omega), if_neg (show ¬ x0 = 244 by omega)]
    split <;> split
    all_goals first | rfl | (exfalso; omega) | (apply Prod.ext <;> simp only <;> omega)
  · rw [if_neg (show ¬ x0 = 240 by omega), if_neg (show ¬ x0 = 244 by omega)]
    split <;> split
    all_goals first | rfl | (exfalso; omega) | (apply Prod.ext <;> simp only <;> omega)
  · rw [if_neg (show ¬ x0 = 240 by omega), if_pos (show x0 = 244 by omega)]
    split <;> split
    all_goals first | rfl | (exfalso; omega) | (apply Prod.ext <;> simp only <;> omega)
/-- what is known of bytes is known whatever comes behind them -/
theorem full_append {l : List UInt8} (r : List UInt8) (h : full l = true) : full (l ++ r) = true ∧ dec (l ++ r) = dec l := by
  have h0 := full_ne h
  have hl : 0 < l.length := List.length_pos_iff.2 h0
  have hp := full_parts h
  have hb0 := b_append l r 0 hl
  constructor
  · refine full_of (by simp [h0]) ?_
    rw [hb0, List.length_append]
    rcases hp with g | ⟨g1, g2⟩ | ⟨g1, g2⟩
    · exact .inl (by omega)
    · rw [b_append l r 1 g1]; exact .inr (.inl ⟨by omega, g2⟩)
    · rw [b_append l r 2 g1]; exact .inr (.inr ⟨by omega, g2⟩)
  · rw [whole_dec _ (by simp [h0]), whole_dec _ h0]
    have hw : whole (l ++ r) = whole l := by
      unfold whole
      rw [if_neg (by rw [List.length_append]; omega), if_neg (by omega), hb0, List.length_append]
      exact wN_more _ _ _ _ _ _ _ _ _ (b_lt _ _) hl (by omega) (b_append l r 1) (b_append l r 2) (b_append l r 3) hp
    rw [hw]
theorem read_append : ∀ (k : Nat) (l r : List UInt8), l.length ≤ k → read (l ++ r) = ((read l).1 ++ (read ((read l).2 ++ r)).1, (read ((read l).2 ++ r)).2)
  | 0, l, r, h => by
    obtain rfl : l = [] := List.length_eq_zero_iff.1 (by omega)
    rfl
  | k + 1, l, r, h => by
    cases hf : full l with
    | false => rw [read_stop hf]; rfl
    | true =>
      obtain ⟨h1, h2⟩ := full_append r hf
      have hs := dec_size l (full_ne hf)
      have ih := read_append k (l.drop (dec l).2) r (by rw [List.length_drop]; omega)
      rw [read_go h1, h2, List.drop_append_of_le_length hs.2, ih, read_go hf]
      rfl
/-- the runes of bytes that come in two parts -/
theorem runes_two (l r : List UInt8) : runes (l ++ r) = (read l).1 ++ runes ((read l).2 ++ r) := by
  unfold runes
  rw [read_append _ l r (Nat.le_refl _), List.append_assoc]
end Go.Proofs.YtgkodjkhhmcnnaaDoor.gl
