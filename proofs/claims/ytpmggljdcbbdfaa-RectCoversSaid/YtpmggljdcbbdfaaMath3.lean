/- The arithmetic of cleaned rectangles, case by case: no Go in sight. -/
import Derived.Test.YtpmggljdcbbdfaaMath2
namespace Go.Proofs.Ytpmggljdcbbdfaa.rm

/-- a rectangle as clean leaves it: the empty one, or one that has cells, within bounds -/
def Ok (r : RR) : Prop := (r.x = 0 ∧ r.y = 0 ∧ r.w = 0 ∧ r.h = 0) ∨ (-5000 ≤ r.x ∧ 1 ≤ r.w ∧ r.w ≤ 200 ∧ r.x + r.w ≤ 5000 ∧ -5000 ≤ r.y ∧ 1 ≤ r.h ∧ r.h ≤ 200 ∧ r.y + r.h ≤ 5000)
theorem rr_zero {r : RR} (h : r.x = 0 ∧ r.y = 0 ∧ r.w = 0 ∧ r.h = 0) : r = zero := by
  obtain ⟨x, y, w, k⟩ := r
  obtain ⟨rfl, rfl, rfl, rfl⟩ := h
  rfl
theorem rr_ext {r s : RR} (h1 : r.x = s.x) (h2 : r.y = s.y) (h3 : r.w = s.w) (h4 : r.h = s.h) : r = s := by
  cases r; cases s; simp at *; exact ⟨h1, h2, h3, h4⟩
theorem ok_zero : Ok zero := .inl ⟨rfl, rfl, rfl, rfl⟩
theorem ok_clean (r : RR) : Ok (clean r) := by
  rcases clean_box r with h | h
  · rw [h]; exact ok_zero
  · exact .inr h
theorem clean_neg (r : RR) (h : r.w ≤ 0 ∨ r.h ≤ 0) : clean r = zero := by
  unfold clean
  rw [if_pos]
  unfold cl
  omega
theorem clean_box_eq (r : RR) (h : -5000 ≤ r.x ∧ 1 ≤ r.w ∧ r.w ≤ 200 ∧ r.x + r.w ≤ 5000 ∧ -5000 ≤ r.y ∧ 1 ≤ r.h ∧ r.h ≤ 200 ∧ r.y + r.h ≤ 5000) : clean r = r := by
  unfold clean
  have h1 : cl r.x (-5000) 5000 = r.x := by unfold cl; omega
  have h2 : cl r.y (-5000) 5000 = r.y := by unfold cl; omega
  rw [h1, h2]
  have h3 : cl r.w 0 (min 200 (5000 - r.x)) = r.w := by unfold cl; omega
  have h4 : cl r.h 0 (min 200 (5000 - r.y)) = r.h := by unfold cl; omega
  rw [h3, h4, if_neg (by omega)]
theorem clean_ok {r : RR} (h : Ok r) : clean r = r := by
  rcases h with h | h
  · rw [rr_zero h]; rfl
  · exact clean_box_eq r h
theorem clean_clean (r : RR) : clean (clean r) = clean r := clean_ok (ok_clean r)
theorem ok_w {r : RR} (h : Ok r) : r.w = 0 ↔ r = zero := by
  constructor
  · intro hw
    rcases h with h | h
    · exact rr_zero h
    · omega
  · intro h; rw [h]; rfl

/-- what a meeting comes to -/
theorem meet_cases {A B : RR} (_ : Ok A) (hB : Ok B) :
    (meet A B = zero ∧ (min (A.x + A.w) (B.x + B.w) ≤ max A.x B.x ∨ min (A.y + A.h) (B.y + B.h) ≤ max A.y B.y)) ∨
    (meet A B = ⟨max A.x B.x, max A.y B.y, min (A.x + A.w) (B.x + B.w) - max A.x B.x, min (A.y + A.h) (B.y + B.h) - max A.y B.y⟩ ∧ max A.x B.x < min (A.x + A.w) (B.x + B.w) ∧ max A.y B.y < min (A.y + A.h) (B.y + B.h)) := by
  unfold meet span
  by_cases h : min (A.x + A.w) (B.x + B.w) ≤ max A.x B.x ∨ min (A.y + A.h) (B.y + B.h) ≤ max A.y B.y
  · exact .inl ⟨clean_neg _ (by dsimp only; omega), h⟩
  · exact .inr ⟨clean_box_eq _ (by dsimp only; unfold Ok at *; omega), by omega, by omega⟩
theorem inset_cases {A : RR} (hA : Ok A) (n : Int) :
    (inset A n = zero ∧ (A.w ≤ 2 * cl n 0 200 ∨ A.h ≤ 2 * cl n 0 200)) ∨
    (inset A n = ⟨A.x + cl n 0 200, A.y + cl n 0 200, A.w - 2 * cl n 0 200, A.h - 2 * cl n 0 200⟩ ∧ 2 * cl n 0 200 < A.w ∧ 2 * cl n 0 200 < A.h) := by
  have hc : 0 ≤ cl n 0 200 := by unfold cl; omega
  unfold inset
  by_cases h : A.w ≤ 2 * cl n 0 200 ∨ A.h ≤ 2 * cl n 0 200
  · exact .inl ⟨clean_neg _ (by dsimp only; omega), h⟩
  · exact .inr ⟨clean_box_eq _ (by dsimp only; unfold Ok at hA; omega), by omega, by omega⟩
theorem ok_inset (A : RR) (n : Int) : Ok (inset A n) := ok_clean _
theorem ok_meet (A B : RR) : Ok (meet A B) := ok_clean _
theorem ok_into (A B : RR) : Ok (into A B) := ok_clean _
theorem ok_shift (A : RR) (n m : Int) : Ok (shift A n m) := ok_clean _
theorem ok_hull {A B : RR} (hA : Ok A) (hB : Ok B) : Ok (hull A B) := by
  unfold hull
  split
  · exact hB
  · split
    · exact hA
    · exact ok_clean _
theorem ok_lead (A : RR) (n : Int) (ac : Bool) : Ok (lead A n ac) := by unfold lead; split <;> exact ok_clean _
theorem ok_remain (A : RR) (n : Int) (ac : Bool) : Ok (remain A n ac) := by unfold remain; split <;> exact ok_clean _
theorem into_cases {A B : RR} (hA : Ok A) (hB : Ok B) :
    (into A B = zero ∧ (A.w = 0 ∨ B.w = 0)) ∨
    (into A B = ⟨cl A.x B.x (B.x + B.w - min A.w B.w), cl A.y B.y (B.y + B.h - min A.h B.h), min A.w B.w, min A.h B.h⟩ ∧ 0 < A.w ∧ 0 < B.w) := by
  unfold into
  by_cases h : A.w = 0 ∨ B.w = 0
  · exact .inl ⟨clean_neg _ (by dsimp only; unfold Ok at *; omega), h⟩
  · exact .inr ⟨clean_box_eq _ (by dsimp only; unfold Ok cl at *; omega), by unfold Ok at *; omega, by unfold Ok at *; omega⟩
theorem cl_min (n K : Int) (h0 : 0 ≤ n) (h1 : n ≤ K) : cl n 0 (min 200 K) = min n 200 := by unfold cl; omega
theorem hull_cases {A B : RR} (hA : Ok A) (hB : Ok B) :
    (A.w = 0 ∧ hull A B = B) ∨ (0 < A.w ∧ B.w = 0 ∧ hull A B = A) ∨
    (0 < A.w ∧ 0 < B.w ∧ hull A B = ⟨min A.x B.x, min A.y B.y, min (max (A.x + A.w) (B.x + B.w) - min A.x B.x) 200, min (max (A.y + A.h) (B.y + B.h) - min A.y B.y) 200⟩) := by
  unfold hull
  by_cases h : A.w = 0
  · rw [if_pos ((ok_w hA).1 h)]; exact .inl ⟨h, rfl⟩
  · rw [if_neg (fun h' => h ((ok_w hA).2 h'))]
    by_cases h2 : B.w = 0
    · rw [if_pos ((ok_w hB).1 h2)]; exact .inr (.inl ⟨by unfold Ok at hA; omega, h2, rfl⟩)
    · rw [if_neg (fun h' => h2 ((ok_w hB).2 h'))]
      refine .inr (.inr ⟨by unfold Ok at hA; omega, by unfold Ok at hB; omega, ?_⟩)
      unfold span clean
      dsimp only
      have h3 : cl (min A.x B.x) (-5000) 5000 = min A.x B.x := by unfold Ok cl at *; omega
      have h4 : cl (min A.y B.y) (-5000) 5000 = min A.y B.y := by unfold Ok cl at *; omega
      rw [h3, h4]
      have bA : -5000 ≤ A.x ∧ 1 ≤ A.w ∧ A.w ≤ 200 ∧ A.x + A.w ≤ 5000 ∧ -5000 ≤ A.y ∧ 1 ≤ A.h ∧ A.h ≤ 200 ∧ A.y + A.h ≤ 5000 := by unfold Ok at hA; omega
      have bB : -5000 ≤ B.x ∧ 1 ≤ B.w ∧ B.w ≤ 200 ∧ B.x + B.w ≤ 5000 ∧ -5000 ≤ B.y ∧ 1 ≤ B.h ∧ B.h ≤ 200 ∧ B.y + B.h ≤ 5000 := by unfold Ok at hB; omega
      have h5 := cl_min (max (A.x + A.w) (B.x + B.w) - min A.x B.x) (5000 - min A.x B.x) (by omega) (by omega)
      have h6 := cl_min (max (A.y + A.h) (B.y + B.h) - min A.y B.y) (5000 - min A.y B.y) (by omega) (by omega)
      rw [h5, h6, if_neg (by omega)]
theorem shift_cases {A : RR} (hA : Ok A) (dx dy : Int) :
    (shift A dx dy = zero ∧ (A.w = 0 ∨ 5000 ≤ sat A.x dx ∨ 5000 ≤ sat A.y dy)) ∨
    (shift A dx dy = ⟨cl (sat A.x dx) (-5000) 5000, cl (sat A.y dy) (-5000) 5000, min A.w (5000 - cl (sat A.x dx) (-5000) 5000), min A.h (5000 - cl (sat A.y dy) (-5000) 5000)⟩ ∧ 0 < A.w ∧ sat A.x dx < 5000 ∧ sat A.y dy < 5000) := by
  unfold shift
  generalize sat A.x dx = p
  generalize sat A.y dy = q
  by_cases h : A.w = 0 ∨ 5000 ≤ p ∨ 5000 ≤ q
  · refine .inl ⟨?_, h⟩
    unfold clean
    rw [if_pos]
    dsimp only
    unfold Ok cl at *
    omega
  · refine .inr ⟨?_, by unfold Ok at hA; omega, by omega, by omega⟩
    unfold clean
    dsimp only
    have h5 : cl A.w 0 (min 200 (5000 - cl p (-5000) 5000)) = min A.w (5000 - cl p (-5000) 5000) := by unfold Ok cl at *; omega
    have h6 : cl A.h 0 (min 200 (5000 - cl q (-5000) 5000)) = min A.h (5000 - cl q (-5000) 5000) := by unfold Ok cl at *; omega
    rw [h5, h6, if_neg (by unfold Ok cl at *; omega)]

/-- inset twice is inset once -/
theorem inset_inset {A : RR} (hA : Ok A) (a b c : Int) (hc : cl c 0 200 = min 200 (cl a 0 300 + cl b 0 300)) : inset (inset A a) b = inset A c := by
  have e1 : 0 ≤ cl a 0 200 ∧ cl a 0 200 = min 200 (cl a 0 300) := by unfold cl; omega
  have e2 : 0 ≤ cl b 0 200 ∧ cl b 0 200 = min 200 (cl b 0 300) := by unfold cl; omega
  have f1 : 0 ≤ cl a 0 300 := by unfold cl; omega
  have f2 : 0 ≤ cl b 0 300 := by unfold cl; omega
  have hA' := hA
  unfold Ok at hA'
  rcases inset_cases hA a with ⟨h1, h2⟩ | ⟨h1, h2, h3⟩
  · have h4 : inset zero b = zero := by
      rcases inset_cases ok_zero b with ⟨h, _⟩ | ⟨_, h, _⟩
      · exact h
      · exfalso; simp only [zero] at h; omega
    rw [h1, h4]
    rcases inset_cases hA c with ⟨h, _⟩ | ⟨_, h, h'⟩
    · exact h.symm
    · exfalso; omega
  · have hk := ok_inset A a
    rcases inset_cases hk b with ⟨g1, g2⟩ | ⟨g1, g2, g3⟩
    · rw [g1]
      rw [h1] at g2
      dsimp only at g2
      rcases inset_cases hA c with ⟨h, _⟩ | ⟨_, h, h'⟩
      · exact h.symm
      · exfalso; omega
    · rw [g1, h1]
      rw [h1] at g2 g3
      dsimp only at g2 g3
      rcases inset_cases hA c with ⟨_, h⟩ | ⟨h, _, _⟩
      · exfalso; omega
      · rw [h]; apply rr_ext <;> dsimp only <;> omega
theorem inset_zero {A : RR} (hA : Ok A) : inset A 0 = A := by
  have e : cl 0 0 200 = 0 := by decide
  rcases inset_cases hA 0 with ⟨h, h2⟩ | ⟨h, _, _⟩
  · rw [h]
    rw [e] at h2
    refine (rr_zero ?_).symm
    unfold Ok at hA
    omega
  · rw [h, e]; apply rr_ext <;> dsimp only <;> omega
end Go.Proofs.Ytpmggljdcbbdfaa.rm
