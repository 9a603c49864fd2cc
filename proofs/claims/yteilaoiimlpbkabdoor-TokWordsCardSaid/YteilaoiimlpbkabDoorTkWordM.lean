/- A text of word bytes alone, on lists. -/
import Derived.Test.YteilaoiimlpbkabDoorTkTokens
import Derived.Lib.ParseIntBCases
namespace Go.Proofs.YteilaoiimlpbkabDoor.tk
open Go Go.Proofs.YteilaoiimlpbkabDoor
theorem isWord_num {c : UInt8} (h : isWord c = true) : 65 ≤ c.toNat ∧ c.toNat ≤ 90 ∨ 97 ≤ c.toNat ∧ c.toNat ≤ 122 ∨ 48 ≤ c.toNat ∧ c.toNat ≤ 57 ∨ c.toNat = 45 ∨ c.toNat = 95 ∨ c.toNat = 46 ∨ c.toNat = 58 := by
  unfold isWord isLetter isDigit at h
  simp only [Bool.or_eq_true, decide_eq_true_eq] at h
  omega
theorem span_all {p : UInt8 → Bool} : ∀ {l : List UInt8}, (∀ c ∈ l, p c = true) → span p l = l.length
  | [], _ => rfl
  | c :: l, h => by
    have ih := span_all (l := l) (fun d hd => h d (by simp [hd]))
    unfold span at *
    rw [List.takeWhile_cons, if_pos (h c (by simp))]
    simp [ih]
theorem takeWhile_all {p : UInt8 → Bool} : ∀ {l : List UInt8}, (∀ c ∈ l, p c = true) → l.takeWhile p = l
  | [], _ => rfl
  | c :: l, h => by
    rw [List.takeWhile_cons, if_pos (h c (by simp)), takeWhile_all (fun d hd => h d (by simp [hd]))]
/-- what a text of word bytes alone is -/
def wordT (s : List UInt8) : List Tok × Nat × Int :=
  if intLen s = 0 then ([{ kind := 1, text := s }], 0, 0)
  else match Lib.parseIntB 64 (s.take (intLen s)) with
    | .ok v => if intLen s = s.length then ([{ kind := 3, text := s, int := v }], 0, 0) else ([], 73, 0)
    | _ => ([], 73, 0)
theorem words (s : List UInt8) (hw : ∀ c ∈ s, isWord c = true) (hne : s ≠ []) (hl : s.length ≤ 1000) : tokens s = wordT s := by
  obtain ⟨c, l, rfl⟩ : ∃ c l, s = c :: l := by
    cases s with
    | nil => exact absurd rfl hne
    | cons c l => exact ⟨c, l, rfl⟩
  have hc := isWord_num (hw c (by simp))
  have hc256 : c.toNat < 256 := UInt8.toNat_lt c
  have b1 : isBlank c = false := by unfold isBlank; simp; omega
  have b4 : isBreak c = false := by unfold isBreak; simp; omega
  have b5 : isSign c = false := by unfold isSign; simp; omega
  have h47 : (47 : UInt8) ≠ c := fun e => by subst e; revert hc; decide
  have b2 : Lib.hasPrefix (c :: l) [47, 47] = false := by unfold Lib.hasPrefix; simp [List.isPrefixOf, h47]
  have b3 : Lib.hasPrefix (c :: l) [47, 42] = false := by unfold Lib.hasPrefix; simp [List.isPrefixOf, h47]
  have h34 : c.toNat ≠ 34 := by omega
  have hsp := span_all hw
  have htw := takeWhile_all hw
  have hil := intLen_le (c :: l)
  have hnext : next (c :: l) {} = if 0 < intLen (c :: l) then integer {} (c :: l) else tell {} 1 (c :: l) := by
    unfold next
    simp only [List.drop_zero, b1, b2, b3, b4, b5, h34, hw c (by simp), htw, if_true, if_false, Bool.false_eq_true]
  have hrun : run (c :: l) (c :: l).length {} = run (c :: l) l.length (next (c :: l) {}) := by
    show run (c :: l) (l.length + 1) {} = _
    unfold run
    rw [if_pos ⟨by simp, rfl⟩]
    cases l.length <;> rfl
  have htok : tokens (c :: l) = if (run (c :: l) l.length (next (c :: l) {})).code = 0 then ((run (c :: l) l.length (next (c :: l) {})).toks, 0, 0) else ([], (run (c :: l) l.length (next (c :: l) {})).code, (run (c :: l) l.length (next (c :: l) {})).place) := by
    unfold tokens
    rw [if_neg (by omega), hrun]
  rw [htok]
  unfold wordT
  have hf : ∀ x, run (c :: l) l.length (fail {} 73 x) = fail {} 73 x := fun x => run_stop _ _ _ (fun h => by have := h.2; simp [fail] at this)
  by_cases h0 : intLen (c :: l) = 0
  · rw [if_pos h0]
    have hn0 : next (c :: l) {} = tell {} 1 (c :: l) := by rw [hnext, if_neg (by omega)]
    rw [hn0, run_stop _ _ _ (fun h => by have := h.1; simp [tell, add] at this)]
    rfl
  · rw [if_neg h0]
    have hn0 : next (c :: l) {} = integer {} (c :: l) := by rw [hnext, if_pos (by omega)]
    have hd : span isWord ((c :: l).drop (intLen (c :: l))) = (c :: l).length - intLen (c :: l) := by
      rw [span_all (fun d hd => hw d (List.mem_of_mem_drop hd)), List.length_drop]
    rw [hn0]
    cases hp : Lib.parseIntB 64 ((c :: l).take (intLen (c :: l))) with
    | ok v =>
      dsimp only
      by_cases he : intLen (c :: l) = (c :: l).length
      · have hi : integer {} (c :: l) = add {} { kind := 3, text := (c :: l).take (intLen (c :: l)), int := v } (intLen (c :: l)) := by
          unfold integer
          dsimp only
          rw [hp]
          dsimp only
          rw [hd, if_pos (by omega)]
        rw [hi, if_pos he, run_stop _ _ _ (fun h => by have := h.1; simp [add, he] at this), he, List.take_length]
        rfl
      · have hi : integer {} (c :: l) = fail {} 73 0 := by
          unfold integer
          dsimp only
          rw [hp]
          dsimp only
          rw [hd, if_neg (by omega)]
          rfl
        rw [hi, if_neg he, hf]
        rfl
    | range =>
      have hi : integer {} (c :: l) = fail {} 73 0 := by
        unfold integer
        dsimp only
        rw [hp]
        rfl
      rw [hi, hf]; rfl
    | _ =>
      have hi : integer {} (c :: l) = fail {} 73 0 := by
        unfold integer
        dsimp only
        rw [hp]
        rfl
      rw [hi, hf]; rfl
/-- eighteen digits are no more than a number may have -/
theorem parseM_small : ∀ (r : List UInt8) (acc k : Nat), (∀ c ∈ r, isDigit c = true) → acc < 10 ^ k → k + r.length ≤ 18 → ∃ u, Lib.parseUintM (2 ^ 64 - 1) acc r = .ok u ∧ u < 10 ^ 18
  | [], acc, k, _, ha, hk => ⟨acc, rfl, Nat.lt_of_lt_of_le ha (Nat.pow_le_pow_right (by decide) (by simpa using hk))⟩
  | c :: r, acc, k, hd, ha, hk => by
    have hc := hd c (by simp)
    simp only [isDigit, decide_eq_true_eq] at hc
    have hk' : k ≤ 17 := by simp at hk; omega
    have h17 : (10 : Nat) ^ k ≤ 10 ^ 17 := Nat.pow_le_pow_right (by decide) hk'
    have hn : acc * 10 + (c.toNat - 48) < 10 ^ (k + 1) := by rw [Nat.pow_succ]; omega
    have h18 : (10 : Nat) ^ (k + 1) ≤ 10 ^ 18 := Nat.pow_le_pow_right (by decide) (by omega)
    obtain ⟨u, h1, h2⟩ := parseM_small r (acc * 10 + (c.toNat - 48)) (k + 1) (fun d h => hd d (by simp [h])) hn (by simp at hk; omega)
    refine ⟨u, ?_, h2⟩
    unfold Lib.parseUintM
    rw [if_pos hc, if_neg (by omega), if_neg (by omega)]
    exact h1
end Go.Proofs.YteilaoiimlpbkabDoor.tk
