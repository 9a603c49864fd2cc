/- Sizes without a Percent: what a loop over them knows. -/
import Derived.Test.YteilaoiimlpbkaaSolFacts
namespace Go.Proofs.Yteilaoiimlpbkaa
namespace sl
/-- is one of them Flex? -/
def anyFlex (L : List Sz) : Bool := L.any (fun s => decide (s.k = 0))
theorem anyFlex_snoc (L : List Sz) (k : Nat) (h : k < L.length) : anyFlex (L.take (k + 1)) = (anyFlex (L.take k) || decide ((L.getD k z0).k = 0)) := by
  unfold anyFlex; rw [take_snoc L k h]; simp
theorem anyFlex_places (L : List Sz) (h : anyFlex L = true) : places L ≠ [] := by
  intro e
  obtain ⟨s, hs, hk⟩ := List.any_eq_true.1 h
  obtain ⟨i, hi, rfl⟩ := List.mem_iff_getElem.1 hs
  have : i ∈ places L := (places_mem L i).2 ⟨hi, by simpa using hk⟩
  rw [e] at this
  simp at this
theorem noPercent_snoc (L : List Sz) (k : Nat) (h : k < L.length) (h1 : ∀ s ∈ L.take k, s.k ≠ 2) (h2 : (L.getD k z0).k ≠ 2) : ∀ s ∈ L.take (k + 1), s.k ≠ 2 := by
  intro s hs
  rw [take_snoc L k h] at hs
  rcases List.mem_append.1 hs with hs | hs
  · exact h1 s hs
  · simp at hs; subst hs; exact h2
/-- what the law asks of a Fixed part -/
theorem keeps_test {t : Int} {L : List Sz} (he : err t L = 0) (h2 : ∀ s ∈ L, s.k ≠ 2) (hl : least L ≤ t) (i : Nat) (h : i < L.length) (hk : (L.getD i z0).k = 1) :
    (lens t L).getD i 0 = (L.getD i z0).n ∨ ((lens t L).getD i 0 ≠ (L.getD i z0).n ∧ anyFlex L = false ∧ i + 1 = L.length ∧ (L.getD i z0).n ≤ (lens t L).getD i 0) := by
  obtain ⟨k1, k2⟩ := keeps_fixed he h2 hl i h hk
  by_cases e : (lens t L).getD i 0 = (L.getD i z0).n
  · exact .inl e
  · refine .inr ⟨e, ?_, ?_, k1⟩
    · cases hf : anyFlex L
      · rfl
      · exact absurd (k2 (.inl (anyFlex_places L hf))) e
    · by_cases hh : i + 1 < L.length
      · exact absurd (k2 (.inr hh)) e
      · omega
theorem le_sum (l : List Int) (h : ∀ x ∈ l, 1 ≤ x) : ∀ x ∈ l, x ≤ l.sum := by
  induction l with
  | nil => intro x hx; cases hx
  | cons a l ih =>
    intro x hx
    have h1 := h a (by simp)
    have h2 := sum_ge l (fun x hx => h x (by simp [hx]))
    rw [List.sum_cons]
    rcases List.mem_cons.1 hx with rfl | hx
    · omega
    · have := ih (fun x hx => h x (by simp [hx])) x hx
      omega
theorem lens_le {t : Int} {L : List Sz} (he : err t L = 0) (i : Nat) (h : i < L.length) : 1 ≤ (lens t L).getD i 0 ∧ (lens t L).getD i 0 ≤ t := by
  have hm := getD_mem (lens t L) i (by rw [lens_len]; exact h)
  have hp := lens_pos t L (err_zero he).2.2.1
  have := le_sum _ hp _ hm
  rw [lens_sum he] at this
  exact ⟨hp _ hm, this⟩
end sl
end Go.Proofs.Yteilaoiimlpbkaa
