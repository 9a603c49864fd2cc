/- Numbers among texts of word bytes, on lists; the document's Word and Digit. -/
import Derived.Test.YteilaoiimlpbkabDoorTkWordM
namespace Go.Proofs.YteilaoiimlpbkabDoor.tk
open Go Go.Proofs.YteilaoiimlpbkabDoor
/-- does a text begin as a number? -/
def numb : List UInt8 → Bool
  | [] => false
  | [c] => isDigit c
  | c :: d :: _ => isDigit c || (decide (c.toNat = 45) && isDigit d)
/-- digits alone, perhaps behind a - -/
def digs : List UInt8 → Bool
  | [] => true
  | c :: l => (isDigit c || decide (c.toNat = 45)) && l.all isDigit
theorem trim_minus (l : List UInt8) : Lib.trimPrefix (45 :: l) [45] = l := by unfold Lib.trimPrefix Lib.hasPrefix; simp [List.isPrefixOf]
theorem trim_other {c : UInt8} (h : c.toNat ≠ 45) (l : List UInt8) : Lib.trimPrefix (c :: l) [45] = c :: l := by
  unfold Lib.trimPrefix Lib.hasPrefix
  have h45 : (45 : UInt8) ≠ c := fun e => by subst e; exact h rfl
  simp [List.isPrefixOf, h45]
theorem u8_eq {c : UInt8} {n : Nat} (h : c.toNat = n) (hn : n < 256) : c = UInt8.ofNat n := by
  apply UInt8.toNat_inj.1
  rw [UInt8.toNat_ofNat', h]; omega
theorem span_cons_false {p : UInt8 → Bool} {c : UInt8} {l : List UInt8} (h : p c = false) : span p (c :: l) = 0 := by unfold span; rw [List.takeWhile_cons, if_neg (by simp [h])]; rfl
theorem span_cons_true {p : UInt8 → Bool} {c : UInt8} {l : List UInt8} (h : p c = true) : span p (c :: l) = span p l + 1 := by unfold span; rw [List.takeWhile_cons, if_pos h]; rfl
theorem span_full {p : UInt8 → Bool} : ∀ {l : List UInt8}, span p l = l.length ↔ l.all p = true
  | [] => by simp [span]
  | c :: l => by
    have ih := span_full (p := p) (l := l)
    by_cases h : p c = true
    · rw [span_cons_true h]; simp [h, ← ih]
    · have h' : p c = false := by simpa using h
      rw [span_cons_false h']; simp [h']
theorem intLen_minus (l : List UInt8) : intLen (45 :: l) = if span isDigit l = 0 then 0 else 1 + span isDigit l := by
  unfold intLen
  rw [trim_minus]
  dsimp only
  split
  · rfl
  · simp
theorem intLen_other {c : UInt8} (h : c.toNat ≠ 45) (l : List UInt8) : intLen (c :: l) = span isDigit (c :: l) := by
  unfold intLen
  rw [trim_other h]
  dsimp only
  split
  · omega
  · omega
theorem numb_iff : ∀ (s : List UInt8), numb s = true ↔ 0 < intLen s
  | [] => by simp [numb, intLen, Lib.trimPrefix, Lib.hasPrefix, span, List.isPrefixOf]
  | [c] => by
    by_cases h : c.toNat = 45
    · obtain rfl : c = 45 := u8_eq h (by decide)
      rw [intLen_minus]; decide
    · rw [intLen_other h]
      unfold numb
      by_cases hd : isDigit c = true
      · simp [hd, span_cons_true hd]
      · have hd' : isDigit c = false := by simpa using hd
        simp [hd', span_cons_false hd']
  | c :: d :: r => by
    by_cases h : c.toNat = 45
    · obtain rfl : c = 45 := u8_eq h (by decide)
      rw [intLen_minus]
      unfold numb
      have h45 : isDigit 45 = false := by decide
      by_cases hd : isDigit d = true
      · rw [span_cons_true hd, if_neg (by omega)]; simp [hd]; omega
      · have hd' : isDigit d = false := by simpa using hd
        rw [span_cons_false hd']; simp [hd', h45]
    · rw [intLen_other h]
      unfold numb
      by_cases hd : isDigit c = true
      · simp [hd, span_cons_true hd]
      · have hd' : isDigit c = false := by simpa using hd
        simp [hd', span_cons_false hd', h]
theorem digs_iff (s : List UInt8) (h : numb s = true) : digs s = true ↔ intLen s = s.length := by
  cases s with
  | nil => simp [numb] at h
  | cons c l =>
    have h0 := (numb_iff (c :: l)).1 h
    by_cases hc : c.toNat = 45
    · obtain rfl : c = 45 := u8_eq hc (by decide)
      rw [intLen_minus] at h0 ⊢
      have hs : span isDigit l ≠ 0 := fun e => by rw [if_pos e] at h0; omega
      rw [if_neg hs]
      have := span_full (p := isDigit) (l := l)
      unfold digs
      simp only [List.length_cons]
      rw [show (isDigit 45 || decide ((45 : UInt8).toNat = 45)) = true by decide, Bool.true_and, ← this]
      omega
    · rw [intLen_other hc] at h0 ⊢
      have hd : isDigit c = true := by
        cases hq : isDigit c with
        | true => rfl
        | false => rw [span_cons_false hq] at h0; omega
      rw [span_cons_true hd]
      have := span_full (p := isDigit) (l := l)
      simp only [digs, hd, Bool.true_or, Bool.true_and, ← this, List.length_cons]
      omega
theorem parse_small (s : List UInt8) (hn : numb s = true) (hd : digs s = true) (hl : s.length ≤ 18) : ∃ v, Lib.parseIntB 64 s = .ok v := by
  cases s with
  | nil => simp [numb] at hn
  | cons c l =>
    unfold digs at hd
    simp only [Bool.and_eq_true, Bool.or_eq_true, decide_eq_true_eq, List.all_eq_true] at hd
    by_cases hc : c.toNat = 45
    · obtain rfl : c = 45 := u8_eq hc (by decide)
      have hne : l ≠ [] := fun e => by subst e; revert hn; decide
      obtain ⟨u, h1, h2⟩ := parseM_small l 0 0 (fun d h => hd.2 d h) (by decide) (by simp at hl; omega)
      rw [Lib.parseIntB_minus]
      have hu : Lib.parseUintB 64 l = .ok u := by unfold Lib.parseUintB; rw [if_neg hne]; exact h1
      rw [hu]
      unfold Lib.signedC
      simp only
      split
      · omega
      · exact ⟨_, rfl⟩
    · have hdc : isDigit c = true := hd.1.resolve_right hc
      have hdn : 48 ≤ c.toNat ∧ c.toNat ≤ 57 := by simpa [isDigit] using hdc
      obtain ⟨u, h1, h2⟩ := parseM_small (c :: l) 0 0 (fun d h => by
        rcases List.mem_cons.1 h with rfl | h
        · exact hdc
        · exact hd.2 d h) (by decide) (by simp at hl ⊢; omega)
      rw [Lib.parseIntB_plain 64 c l (by omega) hc]
      have hu : Lib.parseUintB 64 (c :: l) = .ok u := by unfold Lib.parseUintB; rw [if_neg (by simp)]; exact h1
      rw [hu]
      unfold Lib.signlessC
      simp only
      split
      · omega
      · exact ⟨_, rfl⟩
end Go.Proofs.YteilaoiimlpbkabDoor.tk
