/- More plain arithmetic of rectangles: parts. -/
import Derived.Test.YtpmggljdcbbdfaaMath
namespace Go.Proofs.Ytpmggljdcbbdfaa.rm

/-- a rectangle within what there may be -/
def Bd (r : RR) : Prop := (-5000 ≤ r.x ∧ r.x ≤ 5000) ∧ (-5000 ≤ r.y ∧ r.y ≤ 5000) ∧ (0 ≤ r.w ∧ r.w ≤ 200) ∧ (0 ≤ r.h ∧ r.h ≤ 200)
theorem bd_clean (r : RR) : Bd (clean r) := by
  rcases clean_box r with h | h
  · rw [h]; simp [Bd, zero]
  · unfold Bd; omega
theorem bd_remain (r : RR) (n : Int) (ac : Bool) : Bd (remain r n ac) := by unfold remain; split <;> exact bd_clean _
theorem bd_lead (r : RR) (n : Int) (ac : Bool) : Bd (lead r n ac) := by unfold lead; split <;> exact bd_clean _

/-- a rectangle parted by sizes, and what is left -/
def cutL (ac : Bool) : RR → List Int → List RR
  | _, [] => []
  | r, n :: t => lead r n ac :: cutL ac (remain r n ac) t
def cutR (ac : Bool) : RR → List Int → RR
  | r, [] => r
  | r, n :: t => cutR ac (remain r n ac) t
theorem cutL_length (ac : Bool) : ∀ (l : List Int) (r : RR), (cutL ac r l).length = l.length
  | [], _ => rfl
  | n :: t, r => by simp [cutL, cutL_length ac t]
theorem cutL_snoc (ac : Bool) (n : Int) : ∀ (l : List Int) (r : RR), cutL ac r (l ++ [n]) = cutL ac r l ++ [lead (cutR ac r l) n ac]
  | [], _ => rfl
  | m :: t, r => by simp [cutL, cutR, cutL_snoc ac n t]
theorem cutR_snoc (ac : Bool) (n : Int) : ∀ (l : List Int) (r : RR), cutR ac r (l ++ [n]) = remain (cutR ac r l) n ac
  | [], _ => rfl
  | m :: t, r => by simp [cutR, cutR_snoc ac n t]
theorem bd_cutR (ac : Bool) : ∀ (l : List Int) (r : RR), Bd r → Bd (cutR ac r l)
  | [], _, h => h
  | n :: t, r, _ => bd_cutR ac t _ (bd_remain r n ac)
theorem take_snoc (zs : List Int) (k : Nat) (h : k < zs.length) : zs.take (k + 1) = zs.take k ++ [zs.getD k 0] := by
  rw [List.take_succ_eq_append_getElem h]; simp [List.getD, h]

/-- the cells of a that aren't b's, a cleaned: above b, on its left, on its right, below -/
def around (A M : RR) : List RR :=
  let above := lead A (M.y - A.y) true
  let r1 := remain A (M.y - A.y) true
  let middle := lead r1 M.h true
  let below := remain r1 M.h true
  let left := lead middle (M.x - A.x) false
  let r2 := remain middle (M.x - A.x) false
  let right := remain r2 M.w false
  [above, left, right, below]

/-- has a rectangle a cell in a row, at its own left end? -/
def inRow (y : Int) (r : RR) : Bool := decide ((clean r).x ≤ r.x ∧ r.x < (clean r).x + (clean r).w ∧ (clean r).y ≤ y ∧ y < (clean r).y + (clean r).h)
def covStep (y : Int) (s : Int × Int) (r : RR) : Int × Int := if inRow y r then (s.1 + mx 0 (r.x + r.w - mx r.x s.2), mx s.2 (r.x + r.w)) else s
def cov (y : Int) (l : List RR) : Int × Int := l.foldl (covStep y) (0, -5000)
theorem cov_snoc (y : Int) (l : List RR) (r : RR) : cov y (l ++ [r]) = covStep y (cov y l) r := by simp [cov]
theorem cov_bd (y : Int) (l : List RR) (h : ∀ r ∈ l, Bd r) : 0 ≤ (cov y l).1 ∧ (cov y l).1 ≤ 200 * l.length ∧ -5000 ≤ (cov y l).2 ∧ (cov y l).2 ≤ 5200 := by
  have key : ∀ (l : List RR) (s : Int × Int) (k : Int), (∀ r ∈ l, Bd r) → 0 ≤ s.1 ∧ s.1 ≤ k ∧ -5000 ≤ s.2 ∧ s.2 ≤ 5200 →
      0 ≤ (l.foldl (covStep y) s).1 ∧ (l.foldl (covStep y) s).1 ≤ k + 200 * l.length ∧ -5000 ≤ (l.foldl (covStep y) s).2 ∧ (l.foldl (covStep y) s).2 ≤ 5200 := by
    intro l
    induction l with
    | nil => intro s k _ hs; simpa using hs
    | cons r t ih =>
      intro s k hb hs
      obtain ⟨h1, h2, h3, h4⟩ := hb r (by simp)
      have := ih (covStep y s r) (k + 200) (fun q hq => hb q (by simp [hq])) (by
        unfold covStep; split
        · unfold mx; dsimp only; omega
        · omega)
      simp only [List.foldl_cons, List.length_cons]
      omega
  simpa [cov] using key l (0, -5000) 0 h (by simp)

end Go.Proofs.Ytpmggljdcbbdfaa.rm
