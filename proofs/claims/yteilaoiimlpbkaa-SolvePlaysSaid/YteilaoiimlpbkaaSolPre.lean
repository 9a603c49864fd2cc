/- Beginnings of lists of sizes: what one size more makes of them. -/
import Derived.Test.YteilaoiimlpbkaaSolMath
namespace Go.Proofs.Yteilaoiimlpbkaa
namespace sl
theorem take_snoc (L : List Sz) (k : Nat) (h : k < L.length) : L.take (k + 1) = L.take k ++ [L.getD k z0] := by
  rw [List.take_succ_eq_append_getElem h]; simp [List.getD, h]
theorem int_take_snoc (L : List Int) (k : Nat) (h : k < L.length) : L.take (k + 1) = L.take k ++ [L.getD k 0] := by
  rw [List.take_succ_eq_append_getElem h]; simp [List.getD, h]
theorem flexes_append (A B : List Sz) : ∀ i, flexes i (A ++ B) = flexes i A ++ flexes (i + A.length) B := by
  induction A with
  | nil => intro i; simp [flexes]
  | cons s A ih =>
    intro i
    simp only [List.cons_append, flexes, ih, List.length_cons]
    rw [show i + 1 + A.length = i + (A.length + 1) by omega]
    split <;> rfl
theorem places_snoc (L : List Sz) (k : Nat) (h : k < L.length) : places (L.take (k + 1)) = if (L.getD k z0).k = 0 then places (L.take k) ++ [k] else places (L.take k) := by
  unfold places
  rw [take_snoc L k h, flexes_append]
  simp only [List.length_take, Nat.zero_add, Nat.min_eq_left (Nat.le_of_lt h), flexes]
  split <;> simp
theorem flexes_len (L : List Sz) : ∀ i, (flexes i L).length ≤ L.length := by
  induction L with
  | nil => intro i; simp [flexes]
  | cons s L ih =>
    intro i
    have := ih (i + 1)
    unfold flexes
    split <;> simp <;> omega
theorem places_len (L : List Sz) : (places L).length ≤ L.length := flexes_len L 0
theorem wants_snoc (t : Int) (L : List Sz) (k : Nat) (h : k < L.length) : wants t (L.take (k + 1)) = wants t (L.take k) ++ [want t (L.getD k z0)] := by
  rw [take_snoc L k h]; simp [wants]
theorem left_snoc (t : Int) (L : List Sz) (k : Nat) (h : k < L.length) : left t (L.take (k + 1)) = left t (L.take k) - want t (L.getD k z0) := by
  unfold left; rw [wants_snoc t L k h, sum_snoc]; omega
theorem good_at (L : List Sz) (hg : ∀ s ∈ L, good s = true) (k : Nat) (h : k < L.length) : good (L.getD k z0) = true := by
  have : L.getD k z0 ∈ L := by simp [List.getD, h]
  exact hg _ this
theorem left_bounds (t : Int) (L : List Sz) (hg : ∀ s ∈ L, good s = true) (ht : t ≤ 200) (k : Nat) (hk : k ≤ L.length) : t - 200 * k ≤ left t (L.take k) ∧ left t (L.take k) ≤ t - k := by
  have hl : (wants t (L.take k)).length = k := by simp [wants]; omega
  have hs : ∀ s ∈ L.take k, good s = true := fun s h => hg s (List.mem_of_mem_take h)
  have h1 := sum_ge (wants t (L.take k)) (wants_pos t _ hs)
  have h2 := sum_le (wants t (L.take k)) 200 (fun x hx => by
    obtain ⟨s, h, rfl⟩ := List.mem_map.1 hx
    exact want_le (hs s h) ht)
  rw [hl] at h1 h2
  unfold left
  omega
theorem least1_good {s : Sz} : 1 ≤ least1 s ∧ least1 s ≤ 200 := by
  unfold least1
  split
  · rename_i h
    have h2 := h.2
    rw [good_iff] at h2
    omega
  · omega
/-- how long it has to be for the first k -/
def leastN (L : List Sz) (k : Nat) : Int := ((L.take k).map least1).sum
theorem leastN_snoc (L : List Sz) (k : Nat) (h : k < L.length) : leastN L (k + 1) = leastN L k + least1 (L.getD k z0) := by
  unfold leastN; rw [take_snoc L k h, List.map_append, List.map_cons, List.map_nil, sum_snoc]
theorem leastN_bounds (L : List Sz) : ∀ k, k ≤ L.length → 0 ≤ leastN L k ∧ leastN L k ≤ 200 * k := by
  intro k
  induction k with
  | zero => intro _; simp [leastN]
  | succ k ih =>
    intro h
    have h1 := ih (by omega)
    have h2 := least1_good (s := L.getD k z0)
    rw [leastN_snoc L k (by omega)]
    omega
/-- is one refused among the first k? -/
theorem any_snoc (L : List Sz) (k : Nat) (h : k < L.length) : (L.take (k + 1)).any (fun s => !good s) = ((L.take k).any (fun s => !good s) || !good (L.getD k z0)) := by
  rw [take_snoc L k h]; simp
theorem any_take (L : List Sz) (k : Nat) (h : (L.take k).any (fun s => !good s) = true) : L.any (fun s => !good s) = true := by
  rw [List.any_eq_true] at *
  obtain ⟨x, hx, h2⟩ := h
  exact ⟨x, List.mem_of_mem_take hx, h2⟩
theorem all_good (L : List Sz) (h : L.any (fun s => !good s) = false) : ∀ s ∈ L, good s = true := by
  intro s hs
  cases e : good s
  · have : L.any (fun s => !good s) = true := List.any_eq_true.2 ⟨s, hs, by simp [e]⟩
    rw [h] at this; cases this
  · rfl
end sl
end Go.Proofs.Yteilaoiimlpbkaa
