/- What is true of lengths that are shared out. -/
import Derived.Test.YteilaoiimlpbkaaSolShare
namespace Go.Proofs.Yteilaoiimlpbkaa
namespace sl
theorem err_zero {t : Int} {L : List Sz} (h : err t L = 0) : L.length ≠ 0 ∧ t ≤ 200 ∧ (∀ s ∈ L, good s = true) ∧ L.length ≤ 16 ∧ (L.length : Int) ≤ t := by
  unfold err at h
  split at h
  · cases h
  · rename_i h1
    split at h
    · cases h
    · split at h
      · cases h
      · refine ⟨fun e => h1 (.inl e), by have : ¬ 200 < t := fun e => h1 (.inr (.inl e)); omega, all_good L ?_, by omega, by omega⟩
        cases e : L.any (fun s => !good s)
        · rfl
        · exact absurd (.inr (.inr e)) h1
theorem err_cases (t : Int) (L : List Sz) (h0 : L.length ≠ 0) (h1 : t ≤ 200) (hg : ∀ s ∈ L, good s = true) (h2 : L.length ≤ 16) (h3 : (L.length : Int) ≤ t) : err t L = 0 := by
  rw [err_next t L h0 h1 ?_, if_neg (by omega), if_neg (by omega)]
  cases e : L.any (fun s => !good s)
  · rfl
  · obtain ⟨s, hs, hb⟩ := List.any_eq_true.1 e
    simp [hg s hs] at hb
theorem part_ge (e m : Int) (j : Nat) : e ≤ part e m j := by unfold part; split <;> omega
theorem part_next (e m : Int) (j : Nat) : part e m (j + 1) ≤ part e m j ∧ part e m 0 - 1 ≤ part e m j := by unfold part; split <;> split <;> split <;> omega
theorem add_pos (w : List Int) (p : Nat) (x : Int) (hx : 0 ≤ x) (h : ∀ y ∈ w, 1 ≤ y) : ∀ y ∈ add w p x, 1 ≤ y := by
  intro y hy
  by_cases hp : p < w.length
  · rcases List.mem_or_eq_of_mem_set hy with h' | h'
    · exact h y h'
    · have := h _ (getD_mem w p hp); omega
  · unfold add at hy
    rw [List.set_eq_of_length_le (by omega)] at hy
    exact h y hy
theorem spread_pos (e m : Int) (he : 0 ≤ e) (ps : List Nat) : ∀ (j : Nat) (w : List Int), (∀ y ∈ w, 1 ≤ y) → ∀ y ∈ spread e m j ps w, 1 ≤ y := by
  induction ps with
  | nil => intro j w h; exact h
  | cons p ps ih =>
    intro j w h
    exact ih (j + 1) _ (add_pos w p _ (by have := part_ge e m j; omega) h)
theorem lens_pos (t : Int) (L : List Sz) (hg : ∀ s ∈ L, good s = true) : ∀ x ∈ lens t L, 1 ≤ x := by
  unfold lens
  split
  · exact less_pos _ _ (wants_pos t L hg)
  · exact spread_pos _ _ (by unfold each; exact Int.ediv_nonneg (by omega) (by omega)) _ _ _ (wants_pos t L hg)
theorem lens_sum {t : Int} {L : List Sz} (h : err t L = 0) : (lens t L).sum = t := by
  obtain ⟨h0, h1, hg, h2, h3⟩ := err_zero h
  have hl : left t L = t - (wants t L).sum := rfl
  have hw := wants_pos t L hg
  unfold lens
  split
  · rename_i hx
    obtain ⟨r1, r2⟩ := less_rest (wants t L) (-(left t L)) hw (by omega)
    rw [r2]
    rw [wants_len] at r1
    omega
  · rename_i hx
    unfold spreadAll
    rw [spread_sum _ _ _ _ _ (fun p hp => by rw [wants_len]; exact lasts_lt L h0 p hp)]
    have hM := lasts_pos L
    have e1 := Int.mul_ediv_add_emod (left t L) ((lasts L).length : Int)
    have e2 := Int.emod_nonneg (left t L) (b := ((lasts L).length : Int)) (by omega)
    have e3 := Int.emod_lt_of_pos (left t L) (b := ((lasts L).length : Int)) (by omega)
    unfold each more
    rw [Int.mul_comm (left t L / _) _]
    generalize ((lasts L).length : Int) * (left t L / ((lasts L).length : Int)) = z at *
    generalize left t L % ((lasts L).length : Int) = r at *
    have e4 : ((0 : Nat) : Int) = 0 := rfl
    rw [e4, if_neg (by omega), Int.zero_add, if_pos e3]
    omega
/-- how many Flex parts stand ahead -/
def rank (L : List Sz) (i : Nat) : Nat := (places (L.take i)).length
theorem rank_zero (L : List Sz) : rank L 0 = 0 := rfl
theorem rank_snoc (L : List Sz) (k : Nat) (h : k < L.length) : rank L (k + 1) = if (L.getD k z0).k = 0 then rank L k + 1 else rank L k := by
  unfold rank
  rw [places_snoc L k h]
  split <;> simp
theorem place_at (L : List Sz) (i : Nat) (h : i < L.length) (hk : (L.getD i z0).k = 0) : ∃ hr : rank L i < (places L).length, (places L)[rank L i] = i := by
  have e : L = L.take i ++ (L.getD i z0 :: L.drop (i + 1)) := by
    conv => lhs; rw [← List.take_append_drop i L, List.drop_eq_getElem_cons h]
    simp [List.getD, h]
  have e2 : places L = places (L.take i) ++ (i :: flexes (i + 1) (L.drop (i + 1))) := by
    conv => lhs; rw [e]
    unfold places
    rw [flexes_append]
    simp only [List.length_take, Nat.zero_add, Nat.min_eq_left (Nat.le_of_lt h), flexes]
    rw [if_pos hk]
  have hl : rank L i < (places L).length := by rw [e2]; simp [rank]
  refine ⟨hl, ?_⟩
  simp only [e2, rank]
  rw [List.getElem_append_right (Nat.le_refl _)]
  simp
theorem want_flex (t : Int) (s : Sz) (h : s.k = 0) : want t s = 1 := by unfold want; rw [if_neg (by omega), if_neg (by omega)]
/-- a Flex part's length, where there is enough -/
theorem lens_flex_at {t : Int} {L : List Sz} (hx : 0 ≤ left t L) (i : Nat) (h : i < L.length) (hk : (L.getD i z0).k = 0) : (lens t L).getD i 0 = 1 + part (left t L / ((places L).length : Int)) (left t L % ((places L).length : Int)) (rank L i) := by
  obtain ⟨hr, hp⟩ := place_at L i h hk
  have hne : places L ≠ [] := fun e => by rw [e] at hr; simp at hr
  have hl : lasts L = places L := by unfold lasts; rw [if_neg hne]
  unfold lens
  rw [if_neg (by omega)]
  unfold spreadAll each more
  rw [hl]
  have := spread_in (left t L / ((places L).length : Int)) (left t L % ((places L).length : Int)) (places L) 0 (wants t L) (rank L i) hr (flexes_sorted L 0) (fun p hp => by rw [wants_len]; exact ((places_mem L p).1 hp).1)
  rw [hp] at this
  rw [this, getD_wants t L i h, want_flex t _ hk, Nat.zero_add]
theorem lens_flex {t : Int} {L : List Sz} (he : err t L = 0) : ∃ c m : Int, 1 ≤ c ∧ ∀ i, i < L.length → (L.getD i z0).k = 0 → (lens t L).getD i 0 = part c m (rank L i) := by
  obtain ⟨h0, h1, hg, h2, h3⟩ := err_zero he
  by_cases hx : 0 ≤ left t L
  · refine ⟨1 + left t L / ((places L).length : Int), left t L % ((places L).length : Int), by have := Int.ediv_nonneg hx (show (0 : Int) ≤ ((places L).length : Int) by omega); omega, fun i h hk => ?_⟩
    rw [lens_flex_at hx i h hk]
    unfold part
    omega
  · refine ⟨1, 0, by omega, fun i h hk => ?_⟩
    have hw := wants_pos t L hg
    have e1 : (lens t L).getD i 0 ≤ 1 := by
      unfold lens
      rw [if_pos (by omega)]
      have := less_le (wants t L) (-(left t L)) hw (by omega) i
      rw [getD_wants t L i h, want_flex t _ hk] at this
      exact this
    have e2 := lens_pos t L hg _ (getD_mem (lens t L) i (by rw [lens_len]; exact h))
    unfold part
    rw [if_neg (by omega)]
    omega
/-! ### without a Percent -/
theorem want_least (t : Int) (s : Sz) (hg : good s = true) (h2 : s.k ≠ 2) : want t s = least1 s := by
  have hg' := (good_iff s).1 hg
  unfold want least1
  by_cases h1 : s.k = 1
  · rw [if_pos h1, if_pos ⟨h1, hg⟩]
  · rw [if_neg h1, if_neg h2, if_neg (fun h => h1 h.1)]
theorem wants_least (t : Int) (L : List Sz) (hg : ∀ s ∈ L, good s = true) (h2 : ∀ s ∈ L, s.k ≠ 2) : wants t L = L.map least1 :=
  List.map_congr_left (fun s hs => want_least t s (hg s hs) (h2 s hs))
theorem left_least (t : Int) (L : List Sz) (hg : ∀ s ∈ L, good s = true) (h2 : ∀ s ∈ L, s.k ≠ 2) (hn : L.length ≤ 16) : left t L = t - least L := by
  unfold left least
  rw [wants_least t L hg h2, List.take_of_length_le hn]
theorem at_mem (L : List Sz) (i : Nat) (h : i < L.length) : L.getD i z0 ∈ L := by simp [List.getD, h]
theorem not_place (L : List Sz) (i : Nat) (h : i < L.length) (hk : (L.getD i z0).k ≠ 0) (hf : places L ≠ [] ∨ i + 1 < L.length) : i ∉ lasts L := by
  intro hm
  unfold lasts at hm
  split at hm
  · rename_i e
    simp at hm
    rcases hf with hf | hf
    · exact hf e
    · omega
  · obtain ⟨h', hk'⟩ := (places_mem L i).1 hm
    apply hk
    simpa [List.getD, h] using hk'
theorem keeps_fixed {t : Int} {L : List Sz} (he : err t L = 0) (h2 : ∀ s ∈ L, s.k ≠ 2) (hl : least L ≤ t) (i : Nat) (h : i < L.length) (hk : (L.getD i z0).k = 1) :
    (L.getD i z0).n ≤ (lens t L).getD i 0 ∧ (places L ≠ [] ∨ i + 1 < L.length → (lens t L).getD i 0 = (L.getD i z0).n) := by
  obtain ⟨h0, h1, hg, hn, h3⟩ := err_zero he
  have hx : 0 ≤ left t L := by rw [left_least t L hg h2 hn]; omega
  have hw : (wants t L).getD i 0 = (L.getD i z0).n := by rw [getD_wants t L i h]; unfold want; rw [if_pos hk]
  unfold lens
  rw [if_neg (by omega)]
  refine ⟨?_, fun hf => ?_⟩
  · unfold spreadAll
    by_cases hm : i ∈ lasts L
    · obtain ⟨j, hj, e⟩ := List.mem_iff_getElem.1 hm
      have := spread_in (each L (left t L)) (more L (left t L)) (lasts L) 0 (wants t L) j hj (lasts_sorted L) (fun p hp => by rw [wants_len]; exact lasts_lt L h0 p hp)
      rw [e] at this
      rw [this, hw]
      have h4 := part_ge (each L (left t L)) (more L (left t L)) (0 + j)
      have h5 : 0 ≤ each L (left t L) := by unfold each; exact Int.ediv_nonneg hx (by omega)
      omega
    · rw [spread_out _ _ _ _ _ _ hm, hw]
      exact Int.le_refl _
  · unfold spreadAll
    rw [spread_out _ _ _ _ _ _ (not_place L i h (by omega) hf), hw]
theorem part_step (M : Int) (hM : 0 < M) (x : Int) (j : Nat) : part ((x + 1) / M) ((x + 1) % M) j = part (x / M) (x % M) j ∨ part ((x + 1) / M) ((x + 1) % M) j = part (x / M) (x % M) j + 1 := by
  have e1 := Int.mul_ediv_add_emod x M
  have e2 := Int.emod_nonneg x (b := M) (by omega)
  have e3 := Int.emod_lt_of_pos x (b := M) hM
  by_cases h : x % M + 1 < M
  · have q1 : (x + 1) / M = x / M := by
      rw [← e1, show M * (x / M) + x % M + 1 = (x % M + 1) + M * (x / M) by omega, Int.add_mul_ediv_left _ _ (by omega), Int.ediv_eq_zero_of_lt (by omega) h]
      rw [e1]
      omega
    have q2 : (x + 1) % M = x % M + 1 := by
      have := Int.mul_ediv_add_emod (x + 1) M
      rw [q1] at this
      omega
    rw [q1, q2]
    unfold part
    split <;> split <;> omega
  · have h' : x % M + 1 = M := by omega
    have q1 : (x + 1) / M = x / M + 1 := by
      have : x + 1 = M * (x / M + 1) := by rw [Int.mul_add]; omega
      rw [this, Int.mul_ediv_cancel_left _ (by omega)]
    have q2 : (x + 1) % M = 0 := by
      have := Int.mul_ediv_add_emod (x + 1) M
      rw [q1, Int.mul_add] at this
      omega
    rw [q1, q2]
    unfold part
    split <;> split <;> omega
theorem spread_none (ps : List Nat) : ∀ (j : Nat) (w : List Int), spread 0 0 j ps w = w := by
  induction ps with
  | nil => intro j w; rfl
  | cons p ps ih =>
    intro j w
    have : add w p (part 0 0 j) = w := by
      unfold add part
      rw [if_neg (by omega)]
      by_cases hp : p < w.length
      · simp [List.getD, hp]
      · exact List.set_eq_of_length_le (by omega)
    rw [spread, this, ih]
/-- one cell more -/
theorem keeps_more {t : Int} {L : List Sz} (he : err t L = 0) (h2 : ∀ s ∈ L, s.k ≠ 2) (ht : t < 200) : err (t + 1) L = 0 ∧ ∀ i, (lens (t + 1) L).getD i 0 = (lens t L).getD i 0 ∨ (lens (t + 1) L).getD i 0 = (lens t L).getD i 0 + 1 := by
  obtain ⟨h0, h1, hg, hn, h3⟩ := err_zero he
  refine ⟨err_cases (t + 1) L h0 (by omega) hg hn (by omega), fun i => ?_⟩
  have hw : wants (t + 1) L = wants t L := by rw [wants_least _ L hg h2, wants_least _ L hg h2]
  have hl : left (t + 1) L = left t L + 1 := by unfold left; rw [hw]; omega
  have hwp := wants_pos t L hg
  unfold lens
  rw [hw, hl]
  by_cases ha : left t L < 0
  · rw [if_pos ha]
    have hs := (less_step (wants t L) (-(left t L) - 1)).2 i
    rw [show -(left t L) - 1 + 1 = -(left t L) by omega] at hs
    by_cases hb : left t L + 1 < 0
    · rw [if_pos hb, show -(left t L + 1) = -(left t L) - 1 by omega]
      omega
    · rw [if_neg hb]
      have hz : left t L + 1 = 0 := by omega
      have hz2 : -(left t L) - 1 = 0 := by omega
      rw [hz2, less_zero _ hwp] at hs
      rw [hz]
      unfold spreadAll each more
      rw [Int.zero_ediv, Int.zero_emod, spread_none]
      dsimp only at hs
      omega
  · rw [if_neg ha, if_neg (by omega)]
    unfold spreadAll each more
    by_cases hm : i ∈ lasts L
    · obtain ⟨j, hj, e⟩ := List.mem_iff_getElem.1 hm
      have hp := fun e' m' => spread_in e' m' (lasts L) 0 (wants t L) j hj (lasts_sorted L) (fun p hp => by rw [wants_len]; exact lasts_lt L h0 p hp)
      rw [← e, hp, hp, Nat.zero_add]
      have := part_step ((lasts L).length : Int) (by have := lasts_pos L; omega) (left t L) j
      omega
    · rw [spread_out _ _ _ _ _ _ hm, spread_out _ _ _ _ _ _ hm]
      exact .inl rfl
end sl
end Go.Proofs.Yteilaoiimlpbkaa
