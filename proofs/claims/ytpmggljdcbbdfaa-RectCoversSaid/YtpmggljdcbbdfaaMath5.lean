/- The arithmetic of what is left of one rectangle without another, cell by cell: no Go in sight. -/
import Derived.Test.YtpmggljdcbbdfaaMath4
import Derived.Test.YtpmggljdcbbdfaaMinus
import Derived.Test.YtpmggljdcbbdfaaCalls
namespace Go.Proofs.Ytpmggljdcbbdfaa
open Go.RowKit rm

def hasC (px py : Int) (r : RR) : Bool := cell (clean r) px py
theorem cell_clean (x y w h px py : Int) (hx : -5000 ≤ x) (hw : w ≤ 200) (hxw : x + w ≤ 5000) (hy : -5000 ≤ y) (hh : h ≤ 200) (hyh : y + h ≤ 5000) :
    cell (clean ⟨x, y, w, h⟩) px py = decide (x ≤ px ∧ px < x + w ∧ y ≤ py ∧ py < y + h) := by
  by_cases hz : w ≤ 0 ∨ h ≤ 0
  · rw [clean_neg _ hz]
    unfold cell zero
    rw [Bool.eq_iff_iff]
    simp only [decide_eq_true_eq]
    omega
  · rw [clean_box_eq _ (by dsimp only; omega)]
    rfl
/-- cut away what has no cell: no cell is lost -/
theorem count_fil (px py : Int) (l : List RR) : (fil l).countP (hasC px py) = l.countP (hasC px py) := by
  induction l with
  | nil => rfl
  | cons r t ih =>
    have hf : fil (r :: t) = if pz r then fil t else r :: fil t := by
      unfold fil
      rw [List.filter_cons]
      cases pz r <;> simp
    rw [hf]
    cases hp : pz r
    · simp only [Bool.false_eq_true, if_false, List.countP_cons, ih]
    · have hn : hasC px py r = false := by
        have hz : clean r = zero := by unfold pz at hp; exact of_decide_eq_true hp
        unfold hasC
        rw [hz]
        unfold cell zero
        simp only [decide_eq_false_iff_not]
        omega
      simp only [if_true, List.countP_cons, ih, hn, Bool.false_eq_true, if_false, Nat.add_zero]
theorem around_eq {A M : RR} (hA : Ok A) (hM : Ok M) (h1 : 0 < M.w) (h2 : A.x ≤ M.x ∧ M.x + M.w ≤ A.x + A.w ∧ A.y ≤ M.y ∧ M.y + M.h ≤ A.y + A.h) :
    around A M = [clean ⟨A.x, A.y, A.w, M.y - A.y⟩, clean ⟨A.x, M.y, M.x - A.x, M.h⟩, clean ⟨M.x + M.w, M.y, A.x + A.w - (M.x + M.w), M.h⟩, clean ⟨A.x, M.y + M.h, A.w, A.y + A.h - (M.y + M.h)⟩] := by
  unfold Ok at hA hM
  have r1 : remain A (M.y - A.y) true = ⟨A.x, M.y, A.w, A.y + A.h - M.y⟩ := by
    unfold remain
    rw [if_pos rfl, show cl (M.y - A.y) 0 A.h = M.y - A.y by unfold cl; omega, clean_box_eq _ (by dsimp only; omega)]
    apply rr_ext <;> dsimp only <;> omega
  have r3 : lead (⟨A.x, M.y, A.w, A.y + A.h - M.y⟩ : RR) M.h true = ⟨A.x, M.y, A.w, M.h⟩ := by
    unfold lead
    dsimp only
    rw [if_pos rfl, show cl M.h 0 (A.y + A.h - M.y) = M.h by unfold cl; omega, clean_box_eq _ (by dsimp only; omega)]
  have r4 : remain (⟨A.x, M.y, A.w, M.h⟩ : RR) (M.x - A.x) false = ⟨M.x, M.y, A.x + A.w - M.x, M.h⟩ := by
    unfold remain
    dsimp only
    rw [if_neg (by decide), show cl (M.x - A.x) 0 A.w = M.x - A.x by unfold cl; omega, clean_box_eq _ (by dsimp only; omega)]
    apply rr_ext <;> dsimp only <;> omega
  unfold around
  simp only [r1, r3, r4]
  congr 1
  · unfold lead
    rw [if_pos rfl, show cl (M.y - A.y) 0 A.h = M.y - A.y by unfold cl; omega]
  · congr 1
    · unfold lead
      dsimp only
      rw [if_neg (by decide), show cl (M.x - A.x) 0 A.w = M.x - A.x by unfold cl; omega]
    · congr 1
      · unfold remain
        dsimp only
        rw [if_neg (by decide), show cl M.w 0 (A.x + A.w - M.x) = M.w by unfold cl; omega]
        congr 2; omega
      · congr 1
        unfold remain
        dsimp only
        rw [if_pos rfl, show cl M.h 0 (A.y + A.h - M.y) = M.h by unfold cl; omega]
        congr 2; omega
theorem minus_len (a b : RR) : (minus a b).length ≤ 4 := by
  unfold minus
  split
  · exact Nat.le_trans (List.length_filter_le _ _) (by simp)
  · exact Nat.le_trans (List.length_filter_le _ _) (by unfold around; exact Nat.le_refl _)
theorem meet_cell {A B : RR} (hA : Ok A) (hB : Ok B) (px py : Int) : cell (meet A B) px py = (cell A px py && cell B px py) := by
  rcases meet_cases hA hB with ⟨h1, h2⟩ | ⟨h1, h2, h3⟩
  · rw [h1]
    unfold cell zero
    rw [Bool.eq_iff_iff]
    simp only [Bool.and_eq_true, decide_eq_true_eq]
    omega
  · rw [h1]
    unfold cell
    rw [Bool.eq_iff_iff]
    simp only [Bool.and_eq_true, decide_eq_true_eq]
    omega
/-- each cell that the first alone has is in just one part, no other is in any -/
theorem minus_count (a b : RR) (px py : Int) : (minus a b).countP (hasC px py) = if cell (clean a) px py && !(cell (clean b) px py) then 1 else 0 := by
  have hA := ok_clean a
  have hB := ok_clean b
  have hM := meet_cell hA hB px py
  unfold minus
  rw [clean_clean]
  generalize clean a = A at *
  generalize clean b = B at *
  by_cases hz : meet A B = zero
  · rw [if_pos hz, count_fil]
    rw [hz] at hM
    have h0 : cell zero px py = false := by unfold cell zero; simp only [decide_eq_false_iff_not]; omega
    rw [h0] at hM
    simp only [List.countP_cons, List.countP_nil, hasC, clean_ok hA, Nat.zero_add]
    cases h1 : cell A px py <;> cases h2 : cell B px py <;> simp_all
  · rw [if_neg hz, count_fil]
    rcases meet_cases hA hB with ⟨h1, h2⟩ | ⟨h1, h2, h3⟩
    · exact absurd h1 hz
    · have hMo := ok_meet A B
      have hin : 0 < (meet A B).w ∧ A.x ≤ (meet A B).x ∧ (meet A B).x + (meet A B).w ≤ A.x + A.w ∧ A.y ≤ (meet A B).y ∧ (meet A B).y + (meet A B).h ≤ A.y + A.h := by rw [h1]; dsimp only; omega
      have hAB : (cell A px py && !(cell B px py)) = (cell A px py && !(cell (meet A B) px py)) := by
        rw [hM]; cases cell A px py <;> cases cell B px py <;> rfl
      rw [hAB]
      clear hM h1 h2 h3 hAB hB hz
      generalize meet A B = M at *
      obtain ⟨i1, i2, i3, i4, i5⟩ := hin
      rw [around_eq hA hMo i1 ⟨i2, i3, i4, i5⟩]
      simp only [List.countP_cons, List.countP_nil, hasC, clean_clean]
      unfold Ok at hA hMo
      rw [cell_clean _ _ _ _ px py (by omega) (by omega) (by omega) (by omega) (by omega) (by omega), cell_clean _ _ _ _ px py (by omega) (by omega) (by omega) (by omega) (by omega) (by omega), cell_clean _ _ _ _ px py (by omega) (by omega) (by omega) (by omega) (by omega) (by omega), cell_clean _ _ _ _ px py (by omega) (by omega) (by omega) (by omega) (by omega) (by omega)]
      unfold cell
      simp only [Bool.and_eq_true, Bool.not_eq_true', decide_eq_true_eq, decide_eq_false_iff_not]
      (repeat' split) <;> omega
/-- a hull that is not as large as may be has what either has -/
theorem hull_cell {A B : RR} (hA : Ok A) (hB : Ok B) (px py : Int) (h1 : (hull A B).w ≠ 200) (h2 : (hull A B).h ≠ 200) (h : cell A px py = true ∨ cell B px py = true) : cell (hull A B) px py = true := by
  rcases hull_cases hA hB with ⟨g1, g2⟩ | ⟨g1, g2, g3⟩ | ⟨g1, g2, g3⟩
  · rw [g2]
    unfold cell at *
    simp only [decide_eq_true_eq] at *
    unfold Ok at *
    omega
  · rw [g3]
    unfold cell at *
    simp only [decide_eq_true_eq] at *
    unfold Ok at *
    omega
  · rw [g3] at h1 h2 ⊢
    unfold cell at *
    simp only [decide_eq_true_eq] at *
    omega
end Go.Proofs.Ytpmggljdcbbdfaa
