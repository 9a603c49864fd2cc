/- The arithmetic of a rectangle's parts, cell by cell: no Go in sight. -/
import Derived.Test.YtpmggljdcbbdfaaMath5
namespace Go.Proofs.Ytpmggljdcbbdfaa
open Go.RowKit rm

/-- two rectangles that share no cell -/
def Apart (p q : RR) : Prop := p.w = 0 ∨ q.w = 0 ∨ p.x + p.w ≤ q.x ∨ q.x + q.w ≤ p.x ∨ p.y + p.h ≤ q.y ∨ q.y + q.h ≤ p.y
/-- all of a rectangle lies in another one -/
def Lies (p A : RR) : Prop := p.w = 0 ∨ (A.x ≤ p.x ∧ p.x + p.w ≤ A.x + A.w ∧ A.y ≤ p.y ∧ p.y + p.h ≤ A.y + A.h)
theorem apart_symm {p q : RR} (h : Apart p q) : Apart q p := by unfold Apart at *; omega
theorem apart_meet {p q : RR} (hp : Ok p) (hq : Ok q) (h : Apart p q) : meet p q = zero := by
  rcases meet_cases hp hq with ⟨h1, _⟩ | ⟨_, h2, h3⟩
  · exact h1
  · unfold Apart at h
    unfold Ok at hp hq
    omega
theorem lies_zero (A : RR) : Lies zero A := .inl rfl
theorem lies_self (A : RR) : Lies A A := .inr ⟨Int.le_refl _, Int.le_refl _, Int.le_refl _, Int.le_refl _⟩
theorem lies_trans {p q A : RR} (hp : Ok p) (hq : Ok q) (h : Lies p q) (h' : Lies q A) : Lies p A := by
  unfold Lies Ok at *
  omega
theorem apart_lies {p q A : RR} (hp : Ok p) (hA : Ok A) (h : Lies p A) (h' : Apart q A) : Apart q p := by
  unfold Lies Apart Ok at *
  omega
/-- how many cells -/
def ar (r : RR) : Int := r.w * r.h
theorem ar_nonneg {r : RR} (h : Ok r) : 0 ≤ ar r := Int.mul_nonneg (by unfold Ok at h; omega) (by unfold Ok at h; omega)
theorem ar_le {r : RR} (h : Ok r) : ar r ≤ 40000 := by
  have hw : 0 ≤ r.w ∧ r.w ≤ 200 := by unfold Ok at h; omega
  have hh : 0 ≤ r.h ∧ r.h ≤ 200 := by unfold Ok at h; omega
  have p1 : 0 ≤ (200 - r.w) * r.h := Int.mul_nonneg (by omega) hh.1
  rw [Int.sub_mul] at p1
  unfold ar
  omega
theorem ar_zero {r : RR} (h : Ok r) (h0 : ar r = 0) : r = zero := by
  rcases h with h | h
  · exact rr_zero h
  · have : 0 < ar r := Int.mul_pos (by omega) (by omega)
    omega
/-- a rectangle in two: one of them empty, or side by side -/
theorem split_cases {A : RR} (hA : Ok A) (n : Int) (ac : Bool) :
    (lead A n ac = zero ∧ remain A n ac = A) ∨ (lead A n ac = A ∧ remain A n ac = zero) ∨
    (∃ c, 0 < c ∧ c < A.h ∧ 0 < A.w ∧ lead A n ac = ⟨A.x, A.y, A.w, c⟩ ∧ remain A n ac = ⟨A.x, A.y + c, A.w, A.h - c⟩) ∨
    (∃ c, 0 < c ∧ c < A.w ∧ 0 < A.h ∧ lead A n ac = ⟨A.x, A.y, c, A.h⟩ ∧ remain A n ac = ⟨A.x + c, A.y, A.w - c, A.h⟩) := by
  have hA' := hA
  unfold Ok at hA'
  unfold lead remain
  cases ac
  · simp only [Bool.false_eq_true, if_false]
    have h0 : 0 ≤ cl n 0 A.w ∧ cl n 0 A.w ≤ A.w := by unfold cl; omega
    generalize cl n 0 A.w = c at *
    by_cases h1 : c = 0
    · left
      refine ⟨clean_neg _ (by dsimp only; omega), ?_⟩
      rw [h1]
      have : (⟨A.x + 0, A.y, A.w - 0, A.h⟩ : RR) = A := by apply rr_ext <;> dsimp only <;> omega
      rw [this, clean_ok hA]
    · by_cases h2 : c = A.w
      · right; left
        refine ⟨?_, clean_neg _ (by dsimp only; omega)⟩
        rw [h2]
        exact clean_ok hA
      · right; right; right
        exact ⟨c, by omega, by omega, by omega, clean_box_eq _ (by dsimp only; omega), clean_box_eq _ (by dsimp only; omega)⟩
  · simp only [if_true]
    have h0 : 0 ≤ cl n 0 A.h ∧ cl n 0 A.h ≤ A.h := by unfold cl; omega
    generalize cl n 0 A.h = c at *
    by_cases h1 : c = 0
    · left
      refine ⟨clean_neg _ (by dsimp only; omega), ?_⟩
      rw [h1]
      have : (⟨A.x, A.y + 0, A.w, A.h - 0⟩ : RR) = A := by apply rr_ext <;> dsimp only <;> omega
      rw [this, clean_ok hA]
    · by_cases h2 : c = A.h
      · right; left
        refine ⟨?_, clean_neg _ (by dsimp only; omega)⟩
        rw [h2]
        exact clean_ok hA
      · right; right; left
        exact ⟨c, by omega, by omega, by omega, clean_box_eq _ (by dsimp only; omega), clean_box_eq _ (by dsimp only; omega)⟩
def b01 (b : Bool) : Int := if b then 1 else 0
theorem cell_zero (px py : Int) : cell zero px py = false := by unfold cell zero; simp only [decide_eq_false_iff_not]; omega
theorem split_facts {A : RR} (hA : Ok A) (n : Int) (ac : Bool) (px py : Int) :
    Lies (lead A n ac) A ∧ Lies (remain A n ac) A ∧ Apart (lead A n ac) (remain A n ac) ∧ ar (lead A n ac) + ar (remain A n ac) = ar A ∧
      b01 (cell (lead A n ac) px py) + b01 (cell (remain A n ac) px py) = b01 (cell A px py) := by
  have hA' := hA
  unfold Ok at hA'
  rcases split_cases hA n ac with ⟨h1, h2⟩ | ⟨h1, h2⟩ | ⟨c, c0, c1, c2, h1, h2⟩ | ⟨c, c0, c1, c2, h1, h2⟩
  · rw [h1, h2]
    exact ⟨lies_zero _, lies_self _, .inl rfl, by simp [ar, zero], by rw [cell_zero]; simp [b01]⟩
  · rw [h1, h2]
    exact ⟨lies_self _, lies_zero _, .inr (.inl rfl), by simp [ar, zero], by rw [cell_zero]; simp [b01]⟩
  · rw [h1, h2]
    refine ⟨by unfold Lies; dsimp only; omega, by unfold Lies; dsimp only; omega, by unfold Apart; dsimp only; omega, by unfold ar; dsimp only; rw [Int.mul_sub]; omega, ?_⟩
    unfold b01 cell
    simp only [decide_eq_true_eq]
    (repeat' split) <;> omega
  · rw [h1, h2]
    refine ⟨by unfold Lies; dsimp only; omega, by unfold Lies; dsimp only; omega, by unfold Apart; dsimp only; omega, by unfold ar; dsimp only; rw [Int.sub_mul]; omega, ?_⟩
    unfold b01 cell
    simp only [decide_eq_true_eq]
    (repeat' split) <;> omega

/-- the cells of many, and how many of them have one -/
def arS (l : List RR) : Int := (l.map ar).sum
def cnt (px py : Int) (l : List RR) : Int := (l.map fun r => b01 (cell r px py)).sum
theorem arS_snoc (l : List RR) (r : RR) : arS (l ++ [r]) = arS l + ar r := by simp [arS]
theorem cnt_snoc (px py : Int) (l : List RR) (r : RR) : cnt px py (l ++ [r]) = cnt px py l + b01 (cell r px py) := by simp [cnt]
theorem ok_cutR (ac : Bool) : ∀ (l : List Int) (A : RR), Ok A → Ok (cutR ac A l)
  | [], _, h => h
  | n :: t, A, _ => ok_cutR ac t _ (ok_remain A n ac)
theorem cut_in (ac : Bool) : ∀ (l : List Int) (A : RR), Ok A → ∀ p ∈ cutL ac A l, Ok p ∧ Lies p A
  | [], _, _, p, hp => by simp [cutL] at hp
  | n :: t, A, hA, p, hp => by
    have hf := split_facts hA n ac 0 0
    simp only [cutL, List.mem_cons] at hp
    rcases hp with rfl | hp
    · exact ⟨ok_lead A n ac, hf.1⟩
    · have h := cut_in ac t _ (ok_remain A n ac) p hp
      exact ⟨h.1, lies_trans h.1 (ok_remain A n ac) h.2 hf.2.1⟩
theorem cut_apart (ac : Bool) : ∀ (l : List Int) (A : RR), Ok A → (cutL ac A l).Pairwise Apart
  | [], _, _ => by simp [cutL]
  | n :: t, A, hA => by
    have hf := split_facts hA n ac 0 0
    simp only [cutL, List.pairwise_cons]
    refine ⟨fun p hp => ?_, cut_apart ac t _ (ok_remain A n ac)⟩
    have h := cut_in ac t _ (ok_remain A n ac) p hp
    exact apart_lies h.1 (ok_remain A n ac) h.2 hf.2.2.1
theorem cut_sums (ac : Bool) (px py : Int) : ∀ (l : List Int) (A : RR), Ok A → arS (cutL ac A l) + ar (cutR ac A l) = ar A ∧ cnt px py (cutL ac A l) + b01 (cell (cutR ac A l) px py) = b01 (cell A px py)
  | [], A, _ => by simp [cutL, cutR, arS, cnt]
  | n :: t, A, hA => by
    have hf := split_facts hA n ac px py
    have ih := cut_sums ac px py t _ (ok_remain A n ac)
    simp only [cutL, cutR, arS, cnt, List.map_cons, List.sum_cons] at *
    omega
/-- what a law says of the parts at the end -/
theorem cut_end (ac : Bool) (px py : Int) (l : List Int) (A : RR) (hA : Ok A) :
    arS (cutL ac A l) ≤ ar A ∧ cnt px py (cutL ac A l) ≤ 1 ∧ (arS (cutL ac A l) = ar A → decide (cnt px py (cutL ac A l) = 1) = cell A px py) := by
  obtain ⟨h1, h2⟩ := cut_sums ac px py l A hA
  have hR := ok_cutR ac l A hA
  have h3 := ar_nonneg hR
  have b1 : ∀ b, 0 ≤ b01 b ∧ b01 b ≤ 1 := fun b => by cases b <;> simp [b01]
  have h4 := b1 (cell (cutR ac A l) px py)
  have h5 := b1 (cell A px py)
  refine ⟨by omega, by omega, fun h => ?_⟩
  have hz := ar_zero hR (by omega)
  rw [hz, cell_zero] at h2
  have h6 : b01 false = 0 := rfl
  rw [h6, Int.add_zero] at h2
  rw [h2]
  cases cell A px py <;> simp [b01]
theorem arS_bd : ∀ (l : List RR), (∀ p ∈ l, Ok p) → 0 ≤ arS l ∧ arS l ≤ 40000 * l.length
  | [], _ => by simp [arS]
  | r :: t, h => by
    have h1 := ar_nonneg (h r (by simp))
    have h2 := ar_le (h r (by simp))
    have h3 := arS_bd t (fun p hp => h p (by simp [hp]))
    simp only [arS, List.map_cons, List.sum_cons, List.length_cons] at *
    omega
theorem cnt_bd (px py : Int) : ∀ (l : List RR), 0 ≤ cnt px py l ∧ cnt px py l ≤ l.length
  | [] => by simp [cnt]
  | r :: t => by
    have h1 : 0 ≤ b01 (cell r px py) ∧ b01 (cell r px py) ≤ 1 := by cases cell r px py <;> simp [b01]
    have h3 := cnt_bd px py t
    simp only [cnt, List.map_cons, List.sum_cons, List.length_cons] at *
    omega
end Go.Proofs.Ytpmggljdcbbdfaa
