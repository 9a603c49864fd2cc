/- Parts of one kind, two parts: how a total is shared out among them. -/
import Derived.Test.YteilaoiimlpbkaaSolFacts
namespace Go.Proofs.Yteilaoiimlpbkaa
namespace sl
/-- as many Flex parts -/
def flexN (m : Nat) : List Sz := List.replicate m z0
theorem flexN_len (m : Nat) : (flexN m).length = m := by simp [flexN]
theorem flexN_at (m i : Nat) : (flexN m).getD i z0 = z0 := by
  by_cases h : i < m <;> simp [flexN, List.getD, h]
theorem flexN_good (m : Nat) : ∀ s ∈ flexN m, good s = true := by
  intro s hs
  rw [(List.mem_replicate.1 hs).2]
  rfl
theorem flexN_any (m : Nat) : (flexN m).any (fun s => !good s) = false := by
  cases e : (flexN m).any (fun s => !good s)
  · rfl
  · obtain ⟨s, hs, hb⟩ := List.any_eq_true.1 e
    rw [flexN_good m s hs] at hb
    cases hb
theorem flexN_rank (m : Nat) : ∀ i, i ≤ m → rank (flexN m) i = i := by
  intro i
  induction i with
  | zero => intro _; rfl
  | succ i ih =>
    intro h
    rw [rank_snoc _ i (by rw [flexN_len]; omega), flexN_at, if_pos (show z0.k = 0 from rfl), ih (by omega)]
theorem flexN_places (m : Nat) : (places (flexN m)).length = m := by
  have := flexN_rank m m (Nat.le_refl _)
  unfold rank at this
  rwa [List.take_of_length_le (by rw [flexN_len]; exact Nat.le_refl _)] at this
theorem flexN_left (t : Int) (m : Nat) : left t (flexN m) = t - m := by
  unfold left wants flexN
  have : ∀ m : Nat, ((List.replicate m z0).map (want t)).sum = (m : Int) := by
    intro m
    induction m with
    | zero => rfl
    | succ m ih =>
      rw [List.replicate_succ, List.map_cons, List.sum_cons, ih, want_flex t z0 rfl]
      omega
  rw [this]
theorem flexN_err (t : Int) (m : Nat) (h0 : 1 ≤ m) (h1 : m ≤ 16) : (200 < t → err t (flexN m) = 1) ∧ (t ≤ 200 → t < m → err t (flexN m) = 90) ∧ (t ≤ 200 → (m : Int) ≤ t → err t (flexN m) = 0) := by
  have hl := flexN_len m
  refine ⟨fun h => err_far t _ h, fun h2 h3 => ?_, fun h2 h3 => ?_⟩
  · rw [err_next t _ (by omega) h2 (flexN_any m), hl, if_neg (by omega), if_pos h3]
  · rw [err_next t _ (by omega) h2 (flexN_any m), hl, if_neg (by omega), if_neg (by omega)]
theorem flexN_lens (t : Int) (m : Nat) (h0 : 1 ≤ m) (h : (m : Int) ≤ t) (i : Nat) (hi : i < m) : (lens t (flexN m)).getD i 0 = t / m + (if (i : Int) < t % m then 1 else 0) := by
  rw [lens_flex_at (by rw [flexN_left]; omega) i (by rw [flexN_len]; exact hi) (by rw [flexN_at]; rfl), flexN_left, flexN_places, flexN_rank m i (by omega)]
  have e1 : (t - (m : Int)) / m = t / m - 1 := by
    rw [show t - (m : Int) = t + (m : Int) * (-1) by omega, Int.add_mul_ediv_left _ _ (by omega)]
    omega
  have e2 : (t - (m : Int)) % m = t % m := by rw [Int.sub_emod_right]
  rw [e1, e2]
  unfold part
  omega
/-- a Fixed and a Flex part -/
theorem two_fixed (t f : Int) (h1 : 2 ≤ t) (h2 : t ≤ 200) (h3 : 1 ≤ f) (h4 : f ≤ 128) : err t [⟨1, f⟩, ⟨0, 0⟩] = 0 ∧ share t [⟨1, f⟩, ⟨0, 0⟩] = [mnI f (t - 1), t - mnI f (t - 1)] := by
  have hg : ∀ s ∈ ([⟨1, f⟩, ⟨0, 0⟩] : List Sz), good s = true := by
    intro s hs
    simp only [List.mem_cons, List.not_mem_nil, or_false] at hs
    rcases hs with rfl | rfl
    · rw [good_iff]; exact .inr (.inl ⟨rfl, h3, by show f ≤ 200; omega⟩)
    · rfl
  have he : err t [⟨1, f⟩, ⟨0, 0⟩] = 0 := err_cases t _ (by simp) h2 hg (by simp) (by simp; omega)
  refine ⟨he, ?_⟩
  rw [share_ok t _ he]
  have hw : wants t [⟨1, f⟩, ⟨0, 0⟩] = [f, 1] := rfl
  have hl : left t [⟨1, f⟩, ⟨0, 0⟩] = t - (f + 1) := by unfold left; rw [hw]; simp
  unfold lens
  rw [hl, hw]
  split
  · simp only [less]
    unfold mnI
    split <;> split <;> split <;> simp <;> omega
  · have hp : lasts [⟨1, f⟩, ⟨0, 0⟩] = [1] := rfl
    unfold spreadAll each more
    rw [hp]
    simp only [spread, add, part, mnI, List.length_singleton, List.getD_cons_succ, List.getD_cons_zero, List.set_cons_succ, List.set_cons_zero, Int.natCast_one, Int.ediv_one, Int.emod_one]
    rw [if_neg (by omega), if_neg (by omega)]
    simp
    omega
/-- a Flex part and one that wants all -/
theorem two_all (t : Int) (h1 : 2 ≤ t) (h2 : t ≤ 200) : err t [⟨0, 0⟩, ⟨2, 100⟩] = 0 ∧ share t [⟨0, 0⟩, ⟨2, 100⟩] = [1, t - 1] := by
  have hg : ∀ s ∈ ([⟨0, 0⟩, ⟨2, 100⟩] : List Sz), good s = true := by
    intro s hs
    simp only [List.mem_cons, List.not_mem_nil, or_false] at hs
    rcases hs with rfl | rfl <;> rfl
  have he : err t [⟨0, 0⟩, ⟨2, 100⟩] = 0 := err_cases t _ (by simp) h2 hg (by simp) (by simp; omega)
  refine ⟨he, ?_⟩
  rw [share_ok t _ he]
  have hw : wants t [⟨0, 0⟩, ⟨2, 100⟩] = [1, t] := by
    show [1, max1 (t * 100 / 100)] = [1, t]
    rw [Int.mul_ediv_cancel _ (by decide)]
    unfold max1
    rw [if_pos (by omega)]
  have hl : left t [⟨0, 0⟩, ⟨2, 100⟩] = -1 := by unfold left; rw [hw]; simp; omega
  unfold lens
  rw [hl, hw, if_pos (by omega)]
  have e1 : mnI 1 (t - 1) = 1 := by unfold mnI; split <;> omega
  have e2 : mnI 0 0 = 0 := by decide
  simp only [less, Int.neg_neg, e1, Int.sub_self, e2]
  rfl
end sl
end Go.Proofs.Yteilaoiimlpbkaa
