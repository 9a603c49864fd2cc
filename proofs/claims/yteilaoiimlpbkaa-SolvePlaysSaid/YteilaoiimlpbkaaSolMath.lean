/- How a length is shared out, on lists (without Go). -/
namespace Go.Proofs.Yteilaoiimlpbkaa
namespace sl
/-- a size: its kind, its number -/
structure Sz where
  k : Int
  n : Int
def z0 : Sz := ⟨0, 0⟩
def good (s : Sz) : Bool := decide (s.k = 0 ∨ (s.k = 1 ∧ 1 ≤ s.n ∧ s.n ≤ 200) ∨ (s.k = 2 ∧ 1 ≤ s.n ∧ s.n ≤ 100))
theorem good_iff (s : Sz) : good s = true ↔ (s.k = 0 ∨ (s.k = 1 ∧ 1 ≤ s.n ∧ s.n ≤ 200) ∨ (s.k = 2 ∧ 1 ≤ s.n ∧ s.n ≤ 100)) := by unfold good; simp
def errOf (s : Sz) : Int := if good s then 0 else 1
/-- the greater of 1 and x -/
def max1 (x : Int) : Int := if 1 < x then x else 1
def want (t : Int) (s : Sz) : Int := if s.k = 1 then s.n else if s.k = 2 then max1 (t * s.n / 100) else 1
def wants (t : Int) (L : List Sz) : List Int := L.map (want t)
def left (t : Int) (L : List Sz) : Int := t - (wants t L).sum
/-- the lesser -/
def mnI (x y : Int) : Int := if y < x then y else x
/-- what is too much, taken from the last part on: the lengths, what is still too much -/
def less : List Int → Int → List Int × Int
  | [], o => ([], o)
  | n :: r, o => ((n - mnI (less r o).2 (n - 1)) :: (less r o).1, (less r o).2 - mnI (less r o).2 (n - 1))
/-- the places of the parts that are Flex, counted from i on -/
def flexes : Nat → List Sz → List Nat
  | _, [] => []
  | i, s :: L => if s.k = 0 then i :: flexes (i + 1) L else flexes (i + 1) L
def places (L : List Sz) : List Nat := flexes 0 L
/-- one length more by x -/
def add (w : List Int) (p : Nat) (x : Int) : List Int := w.set p (w.getD p 0 + x)
/-- the share of the j-th place -/
def part (each more : Int) (j : Nat) : Int := each + (if (j : Int) < more then 1 else 0)
/-- what is left over, added at places, the first of them being the j-th -/
def spread (each more : Int) : Nat → List Nat → List Int → List Int
  | _, [], w => w
  | j, p :: ps, w => spread each more (j + 1) ps (add w p (part each more j))
def lasts (L : List Sz) : List Nat := if places L = [] then [L.length - 1] else places L
def each (L : List Sz) (x : Int) : Int := x / ((lasts L).length : Int)
def more (L : List Sz) (x : Int) : Int := x % ((lasts L).length : Int)
def spreadAll (w : List Int) (L : List Sz) (x : Int) : List Int := spread (each L x) (more L x) 0 (lasts L) w
def lens (t : Int) (L : List Sz) : List Int := if left t L < 0 then (less (wants t L) (-(left t L))).1 else spreadAll (wants t L) L (left t L)
/-- what Share answers: 0 where it shares out -/
def err (t : Int) (L : List Sz) : Int := if L.length = 0 ∨ 200 < t ∨ L.any (fun s => !good s) = true then 1 else if 16 < L.length then 3 else if t < (L.length : Int) then 90 else 0
def share (t : Int) (L : List Sz) : List Int := if err t L = 0 then lens t L else []
/-- how long a total has to be at least, of at most 16 of them -/
def least1 (s : Sz) : Int := if s.k = 1 ∧ good s = true then s.n else 1
def least (L : List Sz) : Int := ((L.take 16).map least1).sum

theorem want_pos {t : Int} {s : Sz} (h : good s = true) : 1 ≤ want t s := by
  rw [good_iff] at h
  unfold want max1
  split
  · omega
  · split
    · split <;> omega
    · omega
theorem want_le {t : Int} {s : Sz} (h : good s = true) (ht : t ≤ 200) : want t s ≤ 200 := by
  rw [good_iff] at h
  unfold want max1
  split
  · omega
  · split
    · have h2 : 1 ≤ s.n ∧ s.n ≤ 100 := by omega
      have : t * s.n ≤ 200 * 100 := Int.mul_le_mul ht h2.2 (by omega) (by omega)
      split <;> omega
    · omega

/-! ### sums -/
theorem sum_snoc (l : List Int) (x : Int) : (l ++ [x]).sum = l.sum + x := by induction l <;> simp_all [Int.add_assoc]
theorem sum_ge (l : List Int) (h : ∀ x ∈ l, 1 ≤ x) : (l.length : Int) ≤ l.sum := by
  induction l with
  | nil => simp
  | cons a l ih =>
    have h1 := h a (by simp)
    have h2 := ih (fun x hx => h x (by simp [hx]))
    simp only [List.length_cons, List.sum_cons]
    omega
theorem sum_le (l : List Int) (m : Int) (h : ∀ x ∈ l, x ≤ m) : l.sum ≤ m * l.length := by
  induction l with
  | nil => simp
  | cons a l ih =>
    have h1 := h a (by simp)
    have h2 := ih (fun x hx => h x (by simp [hx]))
    simp only [List.length_cons, List.sum_cons]
    rw [show m * ((l.length + 1 : Nat) : Int) = m * (l.length : Int) + m by rw [Int.natCast_add, Int.mul_add]; simp]
    omega
theorem getD_of_lt (l : List Int) (i : Nat) (h : i < l.length) : l.getD i 0 = l[i] := by simp [List.getD, h]
theorem getD_mem (l : List Int) (i : Nat) (h : i < l.length) : l.getD i 0 ∈ l := by rw [getD_of_lt l i h]; exact List.getElem_mem h

/-! ### less -/
theorem less_len (l : List Int) (o : Int) : (less l o).1.length = l.length := by
  induction l with
  | nil => rfl
  | cons a l ih => simp [less, ih]
theorem less_pos (l : List Int) (o : Int) (h : ∀ x ∈ l, 1 ≤ x) : ∀ x ∈ (less l o).1, 1 ≤ x := by
  induction l with
  | nil => simp [less]
  | cons a l ih =>
    have h1 := h a (by simp)
    have h2 := ih (fun x hx => h x (by simp [hx]))
    intro x hx
    simp only [less, List.mem_cons] at hx
    rcases hx with rfl | hx
    · unfold mnI; split <;> omega
    · exact h2 x hx
theorem less_rest (l : List Int) (o : Int) (h : ∀ x ∈ l, 1 ≤ x) (ho : 0 ≤ o) : ((o ≤ l.sum - l.length ∧ (less l o).2 = 0) ∨ (l.sum - l.length < o ∧ (less l o).2 = o - (l.sum - l.length))) ∧ (less l o).1.sum = l.sum - (o - (less l o).2) := by
  induction l with
  | nil => simp [less]; omega
  | cons a l ih =>
    have h1 := h a (by simp)
    obtain ⟨i1, i2⟩ := ih (fun x hx => h x (by simp [hx]))
    have h3 := sum_ge l (fun x hx => h x (by simp [hx]))
    clear ih h
    simp only [less, List.sum_cons, List.length_cons]
    generalize (less l o).2 = r at *
    generalize (less l o).1.sum = s at *
    generalize l.sum = S at *
    have h4 : ((l.length + 1 : Nat) : Int) = (l.length : Int) + 1 := by omega
    rw [h4]
    unfold mnI
    split <;> (rcases i1 with ⟨i3, i4⟩ | ⟨i3, i4⟩) <;> refine ⟨?_, by omega⟩
    all_goals first
      | exact .inl ⟨by omega, by omega⟩
      | exact .inr ⟨by omega, by omega⟩
/-- what is taken from two amounts of which one is one more -/
theorem less_step (l : List Int) (o : Int) : ((less l (o + 1)).2 = (less l o).2 ∨ (less l (o + 1)).2 = (less l o).2 + 1) ∧ ∀ i, (less l (o + 1)).1.getD i 0 = (less l o).1.getD i 0 ∨ (less l (o + 1)).1.getD i 0 = (less l o).1.getD i 0 - 1 := by
  induction l with
  | nil => simp [less]
  | cons a l ih =>
    obtain ⟨i1, i2⟩ := ih
    simp only [less]
    generalize (less l (o + 1)).2 = r' at *
    generalize (less l o).2 = r at *
    generalize (less l (o + 1)).1 = s' at *
    generalize (less l o).1 = s at *
    refine ⟨by unfold mnI; split <;> split <;> omega, fun i => ?_⟩
    cases i with
    | zero => simp only [List.getD_cons_zero]; unfold mnI; split <;> split <;> omega
    | succ i => simpa using i2 i
theorem less_zero (l : List Int) (h : ∀ x ∈ l, 1 ≤ x) : less l 0 = (l, 0) := by
  induction l with
  | nil => rfl
  | cons a l ih =>
    have h1 := h a (by simp)
    have h2 := ih (fun x hx => h x (by simp [hx]))
    simp only [less, h2]
    unfold mnI
    rw [if_neg (by omega)]
    simp
theorem less_le (l : List Int) (o : Int) (h : ∀ x ∈ l, 1 ≤ x) (ho : 0 ≤ o) : ∀ i, (less l o).1.getD i 0 ≤ l.getD i 0 := by
  induction l with
  | nil => intro i; simp [less]
  | cons a l ih =>
    have h1 := h a (by simp)
    have h2 := ih (fun x hx => h x (by simp [hx]))
    have h3 := (less_rest l o (fun x hx => h x (by simp [hx])) ho).1
    have h4 := sum_ge l (fun x hx => h x (by simp [hx]))
    intro i
    cases i with
    | zero =>
      simp only [less, List.getD_cons_zero]
      have : 0 ≤ (less l o).2 := by omega
      unfold mnI
      split <;> omega
    | succ i => simpa [less] using h2 i

/-! ### places, spread -/
theorem flexes_mem (L : List Sz) : ∀ (i p : Nat), p ∈ flexes i L ↔ i ≤ p ∧ ∃ h : p - i < L.length, (L[p - i]).k = 0 := by
  induction L with
  | nil => intro i p; simp [flexes]
  | cons s L ih =>
    intro i p
    unfold flexes
    have key : (p ∈ flexes (i + 1) L) ↔ (i + 1 ≤ p ∧ ∃ h : p - (i + 1) < L.length, (L[p - (i + 1)]).k = 0) := ih (i + 1) p
    have shift : i + 1 ≤ p → ((∃ h : p - i < (s :: L).length, ((s :: L)[p - i]).k = 0) ↔ ∃ h : p - (i + 1) < L.length, (L[p - (i + 1)]).k = 0) := by
      intro hp
      obtain ⟨q, rfl⟩ : ∃ q, p = i + 1 + q := ⟨p - (i + 1), by omega⟩
      have e1 : i + 1 + q - i = q + 1 := by omega
      have e2 : i + 1 + q - (i + 1) = q := by omega
      simp only [e1, e2, List.length_cons, List.getElem_cons_succ, Nat.add_lt_add_iff_right]
    split
    · rename_i hs
      rw [List.mem_cons, key]
      constructor
      · rintro (rfl | ⟨h1, h2⟩)
        · exact ⟨Nat.le_refl _, by simp [hs]⟩
        · exact ⟨by omega, (shift h1).2 h2⟩
      · rintro ⟨h1, h2⟩
        by_cases e : p = i
        · exact .inl e
        · exact .inr ⟨by omega, (shift (by omega)).1 h2⟩
    · rename_i hs
      rw [key]
      constructor
      · rintro ⟨h1, h2⟩
        exact ⟨by omega, (shift h1).2 h2⟩
      · rintro ⟨h1, h2⟩
        by_cases e : p = i
        · subst e
          simp [hs] at h2
        · exact ⟨by omega, (shift (by omega)).1 h2⟩
theorem places_mem (L : List Sz) (p : Nat) : p ∈ places L ↔ ∃ h : p < L.length, (L[p]).k = 0 := by
  have := flexes_mem L 0 p
  simpa [places] using this
theorem flexes_sorted (L : List Sz) : ∀ i, (flexes i L).Pairwise (· < ·) := by
  induction L with
  | nil => intro i; simp [flexes]
  | cons s L ih =>
    intro i
    unfold flexes
    split
    · refine List.pairwise_cons.2 ⟨fun p hp => ?_, ih (i + 1)⟩
      have := (flexes_mem L (i + 1) p).1 hp
      omega
    · exact ih (i + 1)
theorem lasts_lt (L : List Sz) (h : L.length ≠ 0) : ∀ p ∈ lasts L, p < L.length := by
  intro p hp
  unfold lasts at hp
  split at hp
  · simp at hp; omega
  · exact ((places_mem L p).1 hp).1
theorem lasts_sorted (L : List Sz) : (lasts L).Pairwise (· < ·) := by
  unfold lasts
  split
  · simp
  · exact flexes_sorted L 0
theorem lasts_pos (L : List Sz) : 0 < (lasts L).length := by
  unfold lasts
  split
  · simp
  · rename_i h; exact List.length_pos_iff.2 h
theorem add_len (w : List Int) (p : Nat) (x : Int) : (add w p x).length = w.length := by simp [add]
theorem add_other (w : List Int) (p q : Nat) (x : Int) (h : p ≠ q) : (add w p x).getD q 0 = w.getD q 0 := by simp [add, List.getD, List.getElem?_set_ne h]
theorem add_same (w : List Int) (p : Nat) (x : Int) (h : p < w.length) : (add w p x).getD p 0 = w.getD p 0 + x := by simp [add, List.getD, h]
theorem sum_set (w : List Int) : ∀ (p : Nat) (x : Int), p < w.length → (w.set p x).sum = w.sum + x - w.getD p 0 := by
  induction w with
  | nil => intro p x h; simp at h
  | cons a w ih =>
    intro p x h
    cases p with
    | zero => simp; omega
    | succ p =>
      have := ih p x (by simpa using h)
      simp only [List.set_cons_succ, List.sum_cons, this, List.getD_cons_succ]
      omega
theorem add_sum (w : List Int) (p : Nat) (x : Int) (h : p < w.length) : (add w p x).sum = w.sum + x := by
  unfold add; rw [sum_set w p _ h]; omega
theorem spread_len (e m : Int) (ps : List Nat) : ∀ (j : Nat) (w : List Int), (spread e m j ps w).length = w.length := by
  induction ps with
  | nil => intro j w; rfl
  | cons p ps ih => intro j w; simp [spread, ih, add_len]
theorem spread_out (e m : Int) (ps : List Nat) : ∀ (j : Nat) (w : List Int) (q : Nat), q ∉ ps → (spread e m j ps w).getD q 0 = w.getD q 0 := by
  induction ps with
  | nil => intro j w q _; rfl
  | cons p ps ih =>
    intro j w q hq
    simp only [List.mem_cons, not_or] at hq
    simp only [spread, ih (j + 1) _ q hq.2, add_other w p q _ (Ne.symm hq.1)]
theorem spread_in (e m : Int) (ps : List Nat) : ∀ (j : Nat) (w : List Int) (i : Nat) (hi : i < ps.length), ps.Pairwise (· < ·) → (∀ p ∈ ps, p < w.length) → (spread e m j ps w).getD ps[i] 0 = w.getD ps[i] 0 + part e m (j + i) := by
  induction ps with
  | nil => intro j w i hi; simp at hi
  | cons p ps ih =>
    intro j w i hi hs hl
    obtain ⟨h1, h2⟩ := List.pairwise_cons.1 hs
    cases i with
    | zero =>
      simp only [List.getElem_cons_zero, spread, Nat.add_zero]
      rw [spread_out e m ps (j + 1) _ p (fun hp => by have := h1 p hp; omega), add_same w p _ (hl p (by simp))]
    | succ i =>
      have hi' : i < ps.length := by simpa using hi
      have hne : p ≠ ps[i] := fun e => by have := h1 ps[i] (List.getElem_mem hi'); omega
      simp only [List.getElem_cons_succ, spread]
      rw [ih (j + 1) _ i hi' h2 (fun q hq => by rw [add_len]; exact hl q (by simp [hq])), add_other w p _ _ hne, show j + 1 + i = j + (i + 1) by omega]
theorem spread_sum (e m : Int) (ps : List Nat) : ∀ (j : Nat) (w : List Int), (∀ p ∈ ps, p < w.length) → (spread e m j ps w).sum = w.sum + e * ps.length + ((if m < (j : Int) then (j : Int) else if m < (j + ps.length : Int) then m else j + ps.length) - j) := by
  induction ps with
  | nil => intro j w _; simp [spread]; split <;> (try split) <;> omega
  | cons p ps ih =>
    intro j w hl
    simp only [spread]
    rw [ih (j + 1) _ (fun q hq => by rw [add_len]; exact hl q (by simp [hq])), add_sum w p _ (hl p (by simp))]
    unfold part
    simp only [List.length_cons]
    rw [show e * ((ps.length + 1 : Nat) : Int) = e * (ps.length : Int) + e by rw [Int.natCast_add, Int.mul_add]; simp]
    generalize e * (ps.length : Int) = z
    have h1 : ((j + 1 : Nat) : Int) = (j : Int) + 1 := by omega
    have h2 : ((ps.length + 1 : Nat) : Int) = (ps.length : Int) + 1 := by omega
    rw [h1, h2]
    split <;> split <;> (repeat' split) <;> omega
theorem getD_wants (t : Int) (L : List Sz) (i : Nat) (h : i < L.length) : (wants t L).getD i 0 = want t (L.getD i z0) := by simp [wants, List.getD, h]
theorem wants_len (t : Int) (L : List Sz) : (wants t L).length = L.length := by simp [wants]
theorem wants_pos (t : Int) (L : List Sz) (h : ∀ s ∈ L, good s = true) : ∀ x ∈ wants t L, 1 ≤ x := by
  intro x hx
  obtain ⟨s, hs, rfl⟩ := List.mem_map.1 hx
  exact want_pos (h s hs)
end sl
end Go.Proofs.Yteilaoiimlpbkaa
