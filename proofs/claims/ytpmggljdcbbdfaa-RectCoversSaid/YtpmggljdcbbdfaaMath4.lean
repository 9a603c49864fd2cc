/- More arithmetic of cleaned rectangles: what lies within what. No Go in sight. -/
import Derived.Test.YtpmggljdcbbdfaaMath3
namespace Go.Proofs.Ytpmggljdcbbdfaa.rm

/-- what lies in a box meets it in itself -/
theorem meet_of_in {A B : RR} (hA : Ok A) (hB : Ok B) (h : A.w = 0 ∨ (B.x ≤ A.x ∧ A.x + A.w ≤ B.x + B.w ∧ B.y ≤ A.y ∧ A.y + A.h ≤ B.y + B.h)) : meet A B = A := by
  rcases meet_cases hA hB with ⟨h1, h2⟩ | ⟨h1, h2, h3⟩
  · rw [h1]
    unfold Ok at hA hB
    exact (rr_zero (by omega)).symm
  · rw [h1]
    unfold Ok at hA hB
    apply rr_ext <;> dsimp only <;> omega
theorem in_of_meet {A B : RR} (hA : Ok A) (hB : Ok B) (h : meet A B = A) : A.w = 0 ∨ (B.x ≤ A.x ∧ A.x + A.w ≤ B.x + B.w ∧ B.y ≤ A.y ∧ A.y + A.h ≤ B.y + B.h) := by
  rcases meet_cases hA hB with ⟨h1, h2⟩ | ⟨h1, h2, h3⟩
  · rw [h1] at h
    left
    rw [← h]
    rfl
  · rw [h1] at h
    right
    have e1 := congrArg RR.x h
    have e2 := congrArg RR.y h
    have e3 := congrArg RR.w h
    have e4 := congrArg RR.h h
    dsimp only at e1 e2 e3 e4
    omega
theorem into_in {A B : RR} (hA : Ok A) (hB : Ok B) : (into A B).w = 0 ∨ (B.x ≤ (into A B).x ∧ (into A B).x + (into A B).w ≤ B.x + B.w ∧ B.y ≤ (into A B).y ∧ (into A B).y + (into A B).h ≤ B.y + B.h) := by
  rcases into_cases hA hB with ⟨h1, h2⟩ | ⟨h1, h2, h3⟩
  · left; rw [h1]; rfl
  · right
    rw [h1]
    unfold Ok at hA hB
    unfold cl
    dsimp only
    omega
theorem into_small {A B : RR} (hA : Ok A) (hB : Ok B) : (into A B).w ≤ A.w ∧ (into A B).h ≤ A.h := by
  rcases into_cases hA hB with ⟨h1, h2⟩ | ⟨h1, h2, h3⟩
  · rw [h1]
    unfold Ok at hA
    simp only [zero]
    omega
  · rw [h1]
    dsimp only
    omega
/-- what lies in it already stays -/
theorem into_of_in {A B : RR} (hA : Ok A) (hB : Ok B) (h : A.w = 0 ∨ (B.x ≤ A.x ∧ A.x + A.w ≤ B.x + B.w ∧ B.y ≤ A.y ∧ A.y + A.h ≤ B.y + B.h)) : into A B = A := by
  rcases into_cases hA hB with ⟨h1, h2⟩ | ⟨h1, h2, h3⟩
  · rw [h1]
    unfold Ok at hA hB
    exact (rr_zero (by omega)).symm
  · rw [h1]
    unfold Ok at hA hB
    unfold cl
    apply rr_ext <;> dsimp only <;> omega
theorem inset_in {A : RR} (hA : Ok A) (n : Int) : (inset A n).w = 0 ∨ (A.x ≤ (inset A n).x ∧ (inset A n).x + (inset A n).w ≤ A.x + A.w ∧ A.y ≤ (inset A n).y ∧ (inset A n).y + (inset A n).h ≤ A.y + A.h) := by
  have hc : 0 ≤ cl n 0 200 := by unfold cl; omega
  rcases inset_cases hA n with ⟨h1, h2⟩ | ⟨h1, h2, h3⟩
  · left; rw [h1]; rfl
  · right
    rw [h1]
    dsimp only
    omega
theorem shift_near {A : RR} (hA : Ok A) (dx dy : Int) (h1 : -1000 ≤ dx ∧ dx ≤ 1000) (h2 : -1000 ≤ dy ∧ dy ≤ 1000) (h3 : -1000 ≤ A.x ∧ A.x ≤ 1000) (h4 : -1000 ≤ A.y ∧ A.y ≤ 1000) :
    (shift A dx dy).w = A.w ∧ (shift A dx dy).h = A.h ∧ (0 < A.w → (shift A dx dy).x = A.x + dx ∧ (shift A dx dy).y = A.y + dy) := by
  have e1 : sat A.x dx = A.x + dx := by unfold sat top bot; omega
  have e2 : sat A.y dy = A.y + dy := by unfold sat top bot; omega
  rcases shift_cases hA dx dy with ⟨g1, g2⟩ | ⟨g1, g2, g3, g4⟩
  · rw [g1]
    rw [e1, e2] at g2
    unfold Ok at hA
    simp only [zero]
    omega
  · rw [g1, e1, e2]
    have i1 : cl (A.x + dx) (-5000) 5000 = A.x + dx := by unfold cl; omega
    have i2 : cl (A.y + dy) (-5000) 5000 = A.y + dy := by unfold cl; omega
    rw [i1, i2]
    unfold Ok at hA
    dsimp only
    omega
end Go.Proofs.Ytpmggljdcbbdfaa.rm
