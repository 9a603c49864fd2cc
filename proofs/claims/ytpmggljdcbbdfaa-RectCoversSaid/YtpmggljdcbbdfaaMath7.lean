/- How many cells lie in some of many rectangles, by rows and by edges: no Go in sight. -/
import Derived.Test.YtpmggljdcbbdfaaMath6
import Derived.Test.YtpmggljdcbbdfaaCoverA
namespace Go.Proofs.Ytpmggljdcbbdfaa
open Go.RowKit rm

/-- the sum of a function over n numbers from lo on -/
def sumR (f : Int → Int) (lo : Int) : Nat → Int
  | 0 => 0
  | n + 1 => sumR f lo n + f (lo + n)
theorem sumR_congr {f g : Int → Int} {lo : Int} : ∀ {n : Nat}, (∀ x, lo ≤ x → x < lo + n → f x = g x) → sumR f lo n = sumR g lo n
  | 0, _ => rfl
  | n + 1, h => by
    simp only [sumR]
    rw [sumR_congr (n := n) (fun x h1 h2 => h x h1 (by omega)), h (lo + n) (by omega) (by omega)]
theorem sumR_add (f g : Int → Int) (lo : Int) : ∀ n : Nat, sumR (fun x => f x + g x) lo n = sumR f lo n + sumR g lo n
  | 0 => rfl
  | n + 1 => by simp only [sumR]; rw [sumR_add f g lo n]; omega
theorem sumR_split (f : Int → Int) (lo : Int) (a : Nat) : ∀ b : Nat, sumR f lo (a + b) = sumR f lo a + sumR f (lo + a) b
  | 0 => by simp [sumR]
  | b + 1 => by
    rw [← Nat.add_assoc]
    simp only [sumR]
    rw [sumR_split f lo a b, show lo + ((a + b : Nat) : Int) = lo + a + b by omega]
    omega
theorem sumR_const (c lo : Int) : ∀ n : Nat, sumR (fun _ => c) lo n = n * c
  | 0 => by simp [sumR]
  | n + 1 => by simp only [sumR]; rw [sumR_const c lo n]; rw [show ((n + 1 : Nat) : Int) = n + 1 by omega, Int.add_mul]; omega
theorem sumR_zero (f : Int → Int) (lo : Int) (n : Nat) (h : ∀ x, lo ≤ x → x < lo + n → f x = 0) : sumR f lo n = 0 := by
  rw [sumR_congr h, sumR_const]; omega
theorem sumR_le {f g : Int → Int} {lo : Int} : ∀ {n : Nat}, (∀ x, f x ≤ g x) → sumR f lo n ≤ sumR g lo n
  | 0, _ => Int.le_refl _
  | n + 1, h => by
    have := sumR_le (lo := lo) (n := n) h
    have := h (lo + n)
    simp only [sumR]
    omega
/-- what is 0 but on a piece sums up to the piece's sum -/
theorem sumR_piece (g : Int → Int) (s : Int) (w : Nat) (lo : Int) (n : Nat) (h1 : lo ≤ s) (h2 : s + w ≤ lo + n) :
    sumR (fun x => if s ≤ x ∧ x < s + w then g x else 0) lo n = sumR g s w := by
  obtain ⟨a, ha⟩ : ∃ a : Nat, s = lo + a := ⟨(s - lo).toNat, by omega⟩
  obtain ⟨b, hb⟩ : ∃ b : Nat, n = a + (w + b) := ⟨n - a - w, by omega⟩
  subst ha hb
  rw [sumR_split, sumR_split, sumR_zero _ lo a (fun x _ h => if_neg (by omega)), sumR_zero _ (lo + a + w) b (fun x h _ => if_neg (by omega))]
  rw [sumR_congr (g := g) (fun x h1 h2 => if_pos ⟨h1, h2⟩)]
  omega
theorem sumR_nonneg {f : Int → Int} (lo : Int) (n : Nat) (h : ∀ x, 0 ≤ f x) : 0 ≤ sumR f lo n := by
  have := sumR_le (f := fun _ => 0) (g := f) (lo := lo) (n := n) h
  rwa [sumR_const, Int.mul_zero] at this

/-- has one of many a cell? -/
def anyC (l : List RR) (x y : Int) : Bool := l.any fun r => cell r x y
def rowN (l : List RR) (y : Int) : Int := sumR (fun x => b01 (anyC l x y)) (-5000) 10200
def cells (l : List RR) : Int := sumR (rowN l) (-5000) 10200
theorem anyC_snoc (l : List RR) (r : RR) (x y : Int) : anyC (l ++ [r]) x y = (anyC l x y || cell r x y) := by simp [anyC]
theorem b01_bd (b : Bool) : 0 ≤ b01 b ∧ b01 b ≤ 1 := by cases b <;> simp [b01]
theorem cell_iff {r : RR} {x y : Int} : cell r x y = true ↔ r.x ≤ x ∧ x < r.x + r.w ∧ r.y ≤ y ∧ y < r.y + r.h := by simp [cell]
theorem ok_span {r : RR} (h : Ok r) : ∃ w h' : Nat, r.w = w ∧ r.h = h' ∧ -5000 ≤ r.x ∧ r.x + w ≤ 5000 ∧ -5000 ≤ r.y ∧ r.y + h' ≤ 5000 := by
  unfold Ok at h
  exact ⟨r.w.toNat, r.h.toNat, by omega, by omega, by omega, by omega, by omega, by omega⟩
/-- one rectangle more: the cells that no earlier one has -/
theorem cells_snoc (l : List RR) {r : RR} (hr : Ok r) : cells (l ++ [r]) = cells l + sumR (fun y => sumR (fun x => b01 (!(anyC l x y))) r.x r.w.toNat) r.y r.h.toNat := by
  obtain ⟨w, h', hw, hh, x0, x1, y0, y1⟩ := ok_span hr
  rw [hw, hh, Int.toNat_natCast, Int.toNat_natCast]
  have hrow : ∀ y, rowN (l ++ [r]) y = rowN l y + (if r.y ≤ y ∧ y < r.y + h' then sumR (fun x => b01 (!(anyC l x y))) r.x w else 0) := by
    intro y
    unfold rowN
    have e : ∀ x, b01 (anyC (l ++ [r]) x y) = b01 (anyC l x y) + (if r.x ≤ x ∧ x < r.x + w then (if r.y ≤ y ∧ y < r.y + h' then b01 (!(anyC l x y)) else 0) else 0) := by
      intro x
      rw [anyC_snoc]
      have hc : cell r x y = decide ((r.x ≤ x ∧ x < r.x + w) ∧ (r.y ≤ y ∧ y < r.y + h')) := by
        rw [Bool.eq_iff_iff, cell_iff, decide_eq_true_eq, hw, hh]
        omega
      rw [hc]
      by_cases g1 : r.x ≤ x ∧ x < r.x + w <;> by_cases g2 : r.y ≤ y ∧ y < r.y + h' <;> cases anyC l x y <;> simp [g1, g2, b01]
    rw [sumR_congr (fun x _ _ => e x), sumR_add, sumR_piece _ r.x w (-5000) 10200 (by omega) (by omega)]
    by_cases g2 : r.y ≤ y ∧ y < r.y + h'
    · rw [if_pos g2, sumR_congr (fun x _ _ => if_pos g2)]
    · rw [if_neg g2, sumR_congr (fun x _ _ => if_neg g2), sumR_const, Int.mul_zero]
  unfold cells
  rw [sumR_congr (fun y _ _ => hrow y), sumR_add, sumR_piece _ r.y h' (-5000) 10200 (by omega) (by omega)]
theorem snocRec {p : List RR → Prop} (h0 : p []) (h1 : ∀ l r, p l → p (l ++ [r])) (l : List RR) : p l := by
  rw [← List.reverse_reverse l]
  induction l.reverse with
  | nil => exact h0
  | cons r t ih => rw [List.reverse_cons]; exact h1 _ _ ih
/-- not more than there are in all -/
theorem cells_le (l : List RR) : (∀ r ∈ l, Ok r) → 0 ≤ cells l ∧ cells l ≤ arS l := by
  refine snocRec (p := fun l => (∀ r ∈ l, Ok r) → 0 ≤ cells l ∧ cells l ≤ arS l) ?_ ?_ l
  · intro _
    have : cells [] = 0 := by
      unfold cells
      exact sumR_zero _ _ _ (fun y _ _ => by unfold rowN; exact sumR_zero _ _ _ (fun x _ _ => rfl))
    rw [this]
    exact ⟨Int.le_refl _, Int.le_refl _⟩
  · intro l r ih h
    have hr := h r (by simp)
    have ih := ih (fun q hq => h q (by simp [hq]))
    obtain ⟨w, h', hw, hh, x0, x1, y0, y1⟩ := ok_span hr
    rw [cells_snoc l hr, arS_snoc]
    have n1 : ∀ y, 0 ≤ sumR (fun x => b01 (!(anyC l x y))) r.x r.w.toNat := fun y => sumR_nonneg _ _ (fun x => (b01_bd _).1)
    have n2 := sumR_nonneg (f := fun y => sumR (fun x => b01 (!(anyC l x y))) r.x r.w.toNat) r.y r.h.toNat n1
    have n3 : ∀ y, sumR (fun x => b01 (!(anyC l x y))) r.x r.w.toNat ≤ w := fun y => by
      have := sumR_le (f := fun x => b01 (!(anyC l x y))) (g := fun _ => 1) (lo := r.x) (n := r.w.toNat) (fun x => (b01_bd _).2)
      rw [sumR_const, hw, Int.toNat_natCast] at this
      rw [hw, Int.toNat_natCast]
      omega
    have n4 := sumR_le (f := fun y => sumR (fun x => b01 (!(anyC l x y))) r.x r.w.toNat) (g := fun _ => (w : Int)) (lo := r.y) (n := r.h.toNat) n3
    rw [sumR_const, hh, Int.toNat_natCast] at n4
    have e : ar r = (h' : Int) * w := by unfold ar; rw [hw, hh, Int.mul_comm]
    rw [e]
    rw [hh, Int.toNat_natCast] at n2 ⊢
    omega

theorem anyC_iff {l : List RR} {x y : Int} : anyC l x y = true ↔ ∃ r ∈ l, cell r x y = true := by simp [anyC]
theorem inRow_iff {r : RR} (h : Ok r) (y : Int) : inRow y r = true ↔ 0 < r.w ∧ r.y ≤ y ∧ y < r.y + r.h := by
  unfold inRow
  rw [clean_ok h, decide_eq_true_eq]
  omega
/-- what a sweep over sorted rectangles counts in a row -/
theorem cov_rows (y : Int) (l : List RR) : (∀ r ∈ l, Ok r) → l.Pairwise (fun a b => a.x ≤ b.x) →
    (cov y l).1 = rowN l y ∧ -5000 ≤ (cov y l).2 ∧ (cov y l).2 ≤ 5000 ∧ (∀ x, anyC l x y = true → x < (cov y l).2) ∧
      ((cov y l).2 = -5000 ∨ ∃ q ∈ l, (q.y ≤ y ∧ y < q.y + q.h) ∧ q.x + q.w = (cov y l).2) := by
  refine snocRec (p := fun l => (∀ r ∈ l, Ok r) → l.Pairwise (fun a b => a.x ≤ b.x) →
    (cov y l).1 = rowN l y ∧ -5000 ≤ (cov y l).2 ∧ (cov y l).2 ≤ 5000 ∧ (∀ x, anyC l x y = true → x < (cov y l).2) ∧
      ((cov y l).2 = -5000 ∨ ∃ q ∈ l, (q.y ≤ y ∧ y < q.y + q.h) ∧ q.x + q.w = (cov y l).2)) ?_ ?_ l
  · intro _ _
    refine ⟨?_, by simp [cov], by simp [cov], by simp [anyC], .inl rfl⟩
    exact (sumR_zero (fun x => b01 (anyC [] x y)) _ _ (fun x _ _ => rfl)).symm
  · intro l r ih hok hp
    have hr := hok r (by simp)
    rw [List.pairwise_append] at hp
    obtain ⟨i1, i2, i3, i4, i5⟩ := ih (fun q hq => hok q (by simp [hq])) hp.1
    have hle : ∀ q ∈ l, q.x ≤ r.x := fun q hq => hp.2.2 q hq r (by simp)
    rw [cov_snoc]
    generalize cov y l = s at *
    obtain ⟨n, e⟩ := s
    dsimp only at i1 i2 i3 i4 i5
    unfold covStep
    by_cases hin : inRow y r = true
    · rw [if_pos hin]
      rw [inRow_iff hr] at hin
      obtain ⟨g1, g2, g3⟩ := hin
      obtain ⟨w, h', hw, hh, x0, x1, y0, y1⟩ := ok_span hr
      dsimp only
      have hm : mx r.x e = max r.x e := mx_eq _ _
      have hm2 : mx e (r.x + r.w) = max e (r.x + r.w) := mx_eq _ _
      have hm3 : mx 0 (r.x + r.w - mx r.x e) = max 0 (r.x + r.w - max r.x e) := by rw [hm]; exact mx_eq _ _
      rw [hm2, hm3]
      refine ⟨?_, by omega, by omega, ?_, ?_⟩
      · have e1 : ∀ x, b01 (anyC (l ++ [r]) x y) = b01 (anyC l x y) + (if max r.x e ≤ x ∧ x < max r.x e + ((r.x + r.w - max r.x e).toNat : Nat) then 1 else 0) := by
          intro x
          rw [anyC_snoc]
          by_cases ha : anyC l x y = true
          · have := i4 x ha
            rw [ha, if_neg (by omega)]
            simp [b01]
          · have ha' : anyC l x y = false := by simpa using ha
            have hn : ¬ (r.x ≤ x ∧ x < r.x + r.w ∧ x < e) := by
              intro hx
              apply ha
              rcases i5 with i5 | ⟨q, hq, i5, i6⟩
              · omega
              · rw [anyC_iff]
                refine ⟨q, hq, ?_⟩
                rw [cell_iff]
                have := hle q hq
                omega
            have hc : cell r x y = decide (max r.x e ≤ x ∧ x < max r.x e + ((r.x + r.w - max r.x e).toNat : Nat)) := by
              rw [Bool.eq_iff_iff, cell_iff, decide_eq_true_eq]
              omega
            rw [ha', hc]
            by_cases hz : max r.x e ≤ x ∧ x < max r.x e + ((r.x + r.w - max r.x e).toNat : Nat) <;> simp [hz, b01]
        unfold rowN
        rw [sumR_congr (fun x _ _ => e1 x), sumR_add, sumR_piece (fun _ => 1) (max r.x e) (r.x + r.w - max r.x e).toNat (-5000) 10200 (by omega) (by omega), sumR_const]
        unfold rowN at i1
        rw [← i1]
        omega
      · intro x hx
        rw [anyC_snoc, Bool.or_eq_true, cell_iff] at hx
        rcases hx with hx | hx
        · have := i4 x hx; omega
        · omega
      · by_cases hz : e ≤ r.x + r.w
        · exact .inr ⟨r, by simp, ⟨g2, g3⟩, by omega⟩
        · rcases i5 with i5 | ⟨q, hq, i5, i6⟩
          · omega
          · exact .inr ⟨q, by simp [hq], i5, by omega⟩
    · rw [if_neg hin]
      rw [inRow_iff hr] at hin
      have hc : ∀ x, cell r x y = false := fun x => by
        have : ¬ cell r x y = true := by
          rw [cell_iff]
          unfold Ok at hr
          omega
        simpa using this
      have he : ∀ x, anyC (l ++ [r]) x y = anyC l x y := fun x => by rw [anyC_snoc, hc, Bool.or_false]
      refine ⟨?_, i2, i3, fun x hx => i4 x (by rw [← he]; exact hx), ?_⟩
      · unfold rowN at i1 ⊢
        rw [sumR_congr (fun x _ _ => by rw [he])]
        exact i1
      · rcases i5 with i5 | ⟨q, hq, i5, i6⟩
        · exact .inl i5
        · exact .inr ⟨q, by simp [hq], i5, i6⟩

/-- rows between edges, all alike, add up -/
theorem tot_rows (E : List Int) (L : List RR) (hs : ∀ i j, i ≤ j → j < E.length → E.getD i 0 ≤ E.getD j 0)
    (hc : ∀ i y, i + 1 < E.length → E.getD i 0 ≤ y → y < E.getD (i + 1) 0 → (cov y L).1 = (cov (E.getD i 0) L).1) :
    ∀ k, k < E.length → totTo E L k = sumR (fun y => (cov y L).1) (E.getD 0 0) (E.getD k 0 - E.getD 0 0).toNat
  | 0, _ => by simp [totTo, sumR]
  | k + 1, hk => by
    have h1 := hs 0 k (by omega) (by omega)
    have h2 := hs k (k + 1) (by omega) hk
    have ih := tot_rows E L hs hc k (by omega)
    have hcc := hc k
    unfold totTo
    rw [ih]
    generalize E.getD 0 0 = e0 at *
    generalize E.getD k 0 = a at *
    generalize E.getD (k + 1) 0 = b at *
    rw [show (b - e0).toNat = (a - e0).toNat + (b - a).toNat by omega, sumR_split]
    rw [show e0 + ((a - e0).toNat : Int) = a by omega]
    rw [sumR_congr (lo := a) (f := fun y => (cov y L).1) (g := fun _ => (cov a L).1) (fun y g1 g2 => hcc y hk g1 (by omega)), sumR_const]
    rw [show (((b - a).toNat : Nat) : Int) = b - a by omega]

theorem getD_mem {E : List Int} {z : Int} (h : z ∈ E) : ∃ j, j < E.length ∧ E.getD j 0 = z := by
  obtain ⟨j, hj, hz⟩ := List.mem_iff_getElem.1 h
  exact ⟨j, hj, by simp [List.getD, hj, hz]⟩
/-- the total over sorted edges of what a sweep counts is how many cells there are -/
theorem cover_cells (C L : List RR) (hok : ∀ r ∈ C, Ok r) (hp : L.Perm C) (hs : L.Pairwise (fun a b => a.x ≤ b.x)) (hne : C ≠ []) :
    totTo ((edges C).mergeSort fun x y => decide (x ≤ y)) L (2 * C.length - 1) = cells C := by
  have hEp := List.mergeSort_perm (edges C) (fun x y => decide (x ≤ y))
  have hEs : ((edges C).mergeSort fun x y => decide (x ≤ y)).Pairwise (fun x y => decide (x ≤ y) = true) :=
    List.pairwise_mergeSort (fun a b c h1 h2 => by simp at *; omega) (fun a b => by simp; omega) _
  have hElen := hEp.length_eq
  rw [edges_length] at hElen
  have hCl : 0 < C.length := by cases C with | nil => exact absurd rfl hne | cons a t => simp
  have hmem : ∀ r ∈ C, r.y ∈ ((edges C).mergeSort fun x y => decide (x ≤ y)) ∧ r.y + r.h ∈ ((edges C).mergeSort fun x y => decide (x ≤ y)) := fun r hr =>
    ⟨hEp.mem_iff.2 (by unfold edges; exact List.mem_flatMap.2 ⟨r, hr, by simp⟩), hEp.mem_iff.2 (by unfold edges; exact List.mem_flatMap.2 ⟨r, hr, by simp⟩)⟩
  have hEbd : ∀ z ∈ ((edges C).mergeSort fun x y => decide (x ≤ y)), -5000 ≤ z ∧ z ≤ 5200 := fun z hz =>
    edges_bd C (fun r hr => by have := hok r hr; unfold Ok at this; unfold Bd; omega) z (hEp.mem_iff.1 hz)
  generalize ((edges C).mergeSort fun x y => decide (x ≤ y)) = E at *
  have hsort : ∀ i j, i ≤ j → j < E.length → E.getD i 0 ≤ E.getD j 0 := by
    intro i j hij hj
    rcases Nat.lt_or_ge i j with h | h
    · have := List.pairwise_iff_getElem.1 hEs i j (by omega) hj h
      simp only [decide_eq_true_eq] at this
      simpa [List.getD, hj, show i < E.length by omega] using this
    · rw [show i = j by omega]; exact Int.le_refl _
  have hokL : ∀ r ∈ L, Ok r := fun r hr => hok r (hp.mem_iff.1 hr)
  have hrow : ∀ y, (cov y L).1 = rowN C y := fun y => by
    rw [(cov_rows y L hokL hs).1]
    unfold rowN
    refine sumR_congr (fun x _ _ => ?_)
    have : anyC L x y = anyC C x y := by
      rw [Bool.eq_iff_iff, anyC_iff, anyC_iff]
      exact ⟨fun ⟨r, h1, h2⟩ => ⟨r, hp.mem_iff.1 h1, h2⟩, fun ⟨r, h1, h2⟩ => ⟨r, hp.mem_iff.2 h1, h2⟩⟩
    rw [this]
  have hsame : ∀ y z, (∀ r ∈ C, (r.y ≤ y ∧ y < r.y + r.h) ↔ (r.y ≤ z ∧ z < r.y + r.h)) → rowN C y = rowN C z := by
    intro y z h
    unfold rowN
    refine sumR_congr (fun x _ _ => ?_)
    have : anyC C x y = anyC C x z := by
      rw [Bool.eq_iff_iff, anyC_iff, anyC_iff]
      refine ⟨fun ⟨r, h1, h2⟩ => ⟨r, h1, ?_⟩, fun ⟨r, h1, h2⟩ => ⟨r, h1, ?_⟩⟩
      · have := h r h1; rw [cell_iff] at h2 ⊢; omega
      · have := h r h1; rw [cell_iff] at h2 ⊢; omega
    rw [this]
  have hc : ∀ i y, i + 1 < E.length → E.getD i 0 ≤ y → y < E.getD (i + 1) 0 → (cov y L).1 = (cov (E.getD i 0) L).1 := by
    intro i y hi h1 h2
    rw [hrow, hrow]
    refine hsame _ _ (fun r hr => ?_)
    obtain ⟨m1, m2⟩ := hmem r hr
    have key : ∀ z ∈ E, (z ≤ y ↔ z ≤ E.getD i 0) := by
      intro z hz
      obtain ⟨j, hj, rfl⟩ := getD_mem hz
      rcases Nat.lt_or_ge i j with h | h
      · have := hsort (i + 1) j h hj; omega
      · have := hsort j i h (by omega); omega
    have k1 := key _ m1
    have k2 := key _ m2
    omega
  have hzero : ∀ y, ¬ (E.getD 0 0 ≤ y ∧ y < E.getD (2 * C.length - 1) 0) → rowN C y = 0 := by
    intro y hy
    unfold rowN
    refine sumR_zero _ _ _ (fun x _ _ => ?_)
    have : anyC C x y = false := by
      have : ¬ anyC C x y = true := by
        rw [anyC_iff]
        rintro ⟨r, h1, h2⟩
        rw [cell_iff] at h2
        obtain ⟨m1, m2⟩ := hmem r h1
        obtain ⟨j1, hj1, e1⟩ := getD_mem m1
        obtain ⟨j2, hj2, e2⟩ := getD_mem m2
        have a1 := hsort 0 j1 (Nat.zero_le _) hj1
        have a2 := hsort j2 (2 * C.length - 1) (by omega) (by omega)
        omega
      simpa using this
    rw [this]
    rfl
  have h0 : 0 < E.length := by omega
  have hl : 2 * C.length - 1 < E.length := by omega
  have b0 := hEbd (E.getD 0 0) (by simp [List.getD, h0])
  have b1 := hEbd (E.getD (2 * C.length - 1) 0) (by simp [List.getD, hl])
  have b2 := hsort 0 (2 * C.length - 1) (by omega) hl
  rw [tot_rows E L hsort hc _ hl]
  generalize E.getD 0 0 = e0 at *
  generalize E.getD (2 * C.length - 1) 0 = e1 at *
  unfold cells
  have e : ∀ y, rowN C y = if e0 ≤ y ∧ y < e0 + ((e1 - e0).toNat : Nat) then (cov y L).1 else 0 := by
    intro y
    by_cases hy : e0 ≤ y ∧ y < e0 + ((e1 - e0).toNat : Nat)
    · rw [if_pos hy, hrow]
    · rw [if_neg hy]; exact hzero y (by omega)
  rw [sumR_congr (f := rowN C) (fun y _ _ => e y), sumR_piece _ e0 _ (-5000) 10200 (by omega) (by omega)]
end Go.Proofs.Ytpmggljdcbbdfaa
