/- What a whole rune is, by the document's ranges; no Go. -/
import Derived.Test.YtgkodjkhhmcnnaaDoorGlMath
import Derived.Lib.DecodeNEq
namespace Go.Proofs.YtgkodjkhhmcnnaaDoor.gl
open Go.Lib

/-- by the document's ranges: how many bytes, and the rune; 0: none -/
def wN (n x0 x1 x2 x3 : Nat) : Nat × Nat :=
  if x0 < 128 then (1, x0)
  else if (194 ≤ x0 ∧ x0 ≤ 223) ∧ (1 < n ∧ 128 ≤ x1 ∧ x1 ≤ 191) then (2, x0 % 32 * 64 + x1 % 64)
  else if (224 ≤ x0 ∧ x0 ≤ 239) ∧ (1 < n ∧ (if x0 = 224 then 160 else 128) ≤ x1 ∧ x1 ≤ (if x0 = 237 then 159 else 191)) ∧ (2 < n ∧ 128 ≤ x2 ∧ x2 ≤ 191) then (3, x0 % 16 * 4096 + x1 % 64 * 64 + x2 % 64)
  else if (240 ≤ x0 ∧ x0 ≤ 244) ∧ (1 < n ∧ (if x0 = 240 then 144 else 128) ≤ x1 ∧ x1 ≤ (if x0 = 244 then 143 else 191)) ∧ (2 < n ∧ 128 ≤ x2 ∧ x2 ≤ 191) ∧ (3 < n ∧ 128 ≤ x3 ∧ x3 ≤ 191) then (4, x0 % 8 * 262144 + x1 % 64 * 4096 + x2 % 64 * 64 + x3 % 64)
  else (0, 0)
set_option maxRecDepth 100000 in
set_option maxHeartbeats 8000000 in
theorem wN_dec (n x0 x1 x2 x3 : Nat) (hn : 1 ≤ n) (h0 : x0 < 256) (h1 : x1 < 256) (h2 : x2 < 256) (h3 : x3 < 256) :
    decodeN n x0 x1 x2 x3 = if (wN n x0 x1 x2 x3).1 = 0 then (65533, 1) else ((wN n x0 x1 x2 x3).2, (wN n x0 x1 x2 x3).1) := by
  rcases (show x0 < 128 ∨ (128 ≤ x0 ∧ x0 < 194) ∨ (194 ≤ x0 ∧ x0 < 224) ∨ x0 = 224 ∨ ((225 ≤ x0 ∧ x0 < 237) ∨ (238 ≤ x0 ∧ x0 < 240)) ∨ x0 = 237 ∨ x0 = 240 ∨ (241 ≤ x0 ∧ x0 < 244) ∨ x0 = 244 ∨ 245 ≤ x0 by omega) with h | h | h | h | h | h | h | h | h | h
  · unfold decodeN wN; rw [if_pos h, if_pos h]; simp
  · have e : wN n x0 x1 x2 x3 = (0, 0) := by unfold wN; rw [if_neg (by omega), if_neg (by omega), if_neg (by omega), if_neg (by omega)]
    rw [e, if_pos rfl]
    unfold decodeN
    repeat' split
    all_goals first | rfl | (exfalso; omega)
  · rw [← slow_C2 n x0 x1 x2 x3 hn h1 h2 h3 h]
    unfold slowN wN
    rw [if_neg (show ¬ x0 < 128 by omega), if_neg (show ¬ ((224 ≤ x0 ∧ x0 ≤ 239) ∧ _) by omega), if_neg (show ¬ ((240 ≤ x0 ∧ x0 ≤ 244) ∧ _) by omega)]
    repeat' split
    all_goals first | rfl | (exfalso; omega) | (simp_all; done) | (exfalso; simp_all; omega)
  · rw [← slow_E0 n x0 x1 x2 x3 hn h1 h2 h3 h]
    subst h
    unfold slowN wN
    rw [if_neg (show ¬ 224 < 128 by omega), if_neg (show ¬ ((194 ≤ 224 ∧ 224 ≤ 223) ∧ _) by omega), if_neg (show ¬ ((240 ≤ 224 ∧ 224 ≤ 244) ∧ _) by omega)]
    repeat' split
    all_goals first | rfl | (exfalso; omega) | (simp_all; done) | (exfalso; simp_all; omega)
  · rw [← slow_E1 n x0 x1 x2 x3 hn h1 h2 h3 h]
    unfold slowN wN
    rw [if_neg (show ¬ x0 < 128 by omega), if_neg (show ¬ ((194 ≤ x0 ∧ x0 ≤ 223) ∧ _) by omega), if_neg (show ¬ ((240 ≤ x0 ∧ x0 ≤ 244) ∧ _) by omega), if_neg (show ¬ x0 = 224 by omega), if_neg (show ¬ x0 = 237 by omega)]
    repeat' split
    all_goals first | rfl | (exfalso; omega) | (simp_all; done) | (exfalso; simp_all; omega)
  · rw [← slow_ED n x0 x1 x2 x3 hn h1 h2 h3 h]
    subst h
    unfold slowN wN
    rw [if_neg (show ¬ 237 < 128 by omega), if_neg (show ¬ ((194 ≤ 237 ∧ 237 ≤ 223) ∧ _) by omega), if_neg (show ¬ ((240 ≤ 237 ∧ 237 ≤ 244) ∧ _) by omega)]
    repeat' split
    all_goals first | rfl | (exfalso; omega) | (simp_all; done) | (exfalso; simp_all; omega)
  · rw [← slow_F0 n x0 x1 x2 x3 hn h1 h2 h3 h]
    subst h
    unfold slowN wN
    rw [if_neg (show ¬ 240 < 128 by omega), if_neg (show ¬ ((194 ≤ 240 ∧ 240 ≤ 223) ∧ _) by omega), if_neg (show ¬ ((224 ≤ 240 ∧ 240 ≤ 239) ∧ _) by omega)]
    repeat' split
    all_goals first | rfl | (exfalso; omega) | (simp_all; done) | (exfalso; simp_all; omega)
  · rw [← slow_F1 n x0 x1 x2 x3 hn h1 h2 h3 h]
    unfold slowN wN
    rw [if_neg (show ¬ x0 < 128 by omega), if_neg (show ¬ ((194 ≤ x0 ∧ x0 ≤ 223) ∧ _) by omega), if_neg (show ¬ ((224 ≤ x0 ∧ x0 ≤ 239) ∧ _) by omega), if_neg (show ¬ x0 = 240 by omega), if_neg (show ¬ x0 = 244 by omega)]
    repeat' split
    all_goals first | rfl | (exfalso; omega) | (simp_all; done) | (exfalso; simp_all; omega)
  · rw [← slow_F4 n x0 x1 x2 x3 hn h1 h2 h3 h]
    subst h
    unfold slowN wN
    rw [if_neg (show ¬ 244 < 128 by omega), if_neg (show ¬ ((194 ≤ 244 ∧ 244 ≤ 223) ∧ _) by omega), if_neg (show ¬ ((224 ≤ 244 ∧ 244 ≤ 239) ∧ _) by omega)]
    repeat' split
    all_goals first | rfl | (exfalso; omega) | (simp_all; done) | (exfalso; simp_all; omega)
  · have e : wN n x0 x1 x2 x3 = (0, 0) := by unfold wN; rw [if_neg (by omega), if_neg (by omega), if_neg (by omega), if_neg (by omega)]
    rw [e, if_pos rfl]
    unfold decodeN
    repeat' split
    all_goals first | rfl | (exfalso; omega)
/-- of bytes: how many the whole rune takes with which they begin, and the rune; 0: none begins -/
def whole (l : List UInt8) : Nat × Nat := if l.length = 0 then (0, 0) else wN l.length (b l 0) (b l 1) (b l 2) (b l 3)
theorem whole_dec (l : List UInt8) (h : l ≠ []) : dec l = if (whole l).1 = 0 then (65533, 1) else ((whole l).2, (whole l).1) := by
  have hl : l.length ≠ 0 := fun h' => h (List.length_eq_zero_iff.1 h')
  unfold dec whole
  rw [if_neg hl, if_neg hl]
  exact wN_dec _ _ _ _ _ (by omega) (b_lt _ _) (b_lt _ _) (b_lt _ _) (b_lt _ _)
theorem whole_size (l : List UInt8) : (whole l).1 ≤ l.length ∧ (whole l).1 ≤ 4 := by
  unfold whole
  split
  · simp
  · unfold wN
    repeat' split
    all_goals (simp only; omega)
theorem whole_rune (l : List UInt8) : (whole l).2 ≤ 1114111 := by
  have h0 := b_lt l 0; have h1 := b_lt l 1; have h2 := b_lt l 2; have h3 := b_lt l 3
  unfold whole
  split
  · simp
  · unfold wN
    repeat' split
    all_goals (simp only; omega)
end Go.Proofs.YtgkodjkhhmcnnaaDoor.gl
