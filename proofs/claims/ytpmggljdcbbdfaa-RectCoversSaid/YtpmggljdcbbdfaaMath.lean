/- The plain arithmetic of rectangles: what each function of package rect, and of the document's answer, comes to; no Go in sight. -/
import Derived.KernelRfl
namespace Go.Proofs.Ytpmggljdcbbdfaa.rm

/-- a number, but at least lo and at most hi; lo, where lo is above hi -/
def cl (n lo hi : Int) : Int := max lo (min n hi)

/-- the lesser, the greater: under names of their own, so that a walk does not part on them -/
def mn (x y : Int) : Int := if y < x then y else x
def mx (x y : Int) : Int := if x < y then y else x
theorem mn_eq (x y : Int) : mn x y = min x y := by unfold mn; omega
theorem mx_eq (x y : Int) : mx x y = max x y := by unfold mx; omega

def top : Int := 9223372036854775807
def bot : Int := -9223372036854775808

/-- a sum that stays within int -/
def sat (a b : Int) : Int := if 0 < b ∧ top - b < a then top else if b < 0 ∧ a < bot - b then bot else a + b

/-- one side of a rectangle, cleaned -/
def CS (a s a' s' : Int) : Prop := a' = cl a (-5000) 5000 ∧ s' = cl s 0 (min 200 (5000 - cl a (-5000) 5000))

theorem CS.bounds {a s a' s' : Int} (h : CS a s a' s') : -5000 ≤ a' ∧ a' ≤ 5000 ∧ 0 ≤ s' ∧ s' ≤ 200 ∧ a' + s' ≤ 5000 := by
  obtain ⟨rfl, rfl⟩ := h
  unfold cl; omega

/-- a rectangle -/
structure RR where
  x : Int
  y : Int
  w : Int
  h : Int
deriving DecidableEq

def zero : RR := ⟨0, 0, 0, 0⟩

/-- a rectangle as it counts -/
def clean (r : RR) : RR :=
  if cl r.w 0 (min 200 (5000 - cl r.x (-5000) 5000)) = 0 ∨ cl r.h 0 (min 200 (5000 - cl r.y (-5000) 5000)) = 0 then zero
  else ⟨cl r.x (-5000) 5000, cl r.y (-5000) 5000, cl r.w 0 (min 200 (5000 - cl r.x (-5000) 5000)), cl r.h 0 (min 200 (5000 - cl r.y (-5000) 5000))⟩

/-- s is r, cleaned -/
def IsClean (r s : RR) : Prop := s = clean r

theorem clean_box (r : RR) : clean r = zero ∨ (-5000 ≤ (clean r).x ∧ 1 ≤ (clean r).w ∧ (clean r).w ≤ 200 ∧ (clean r).x + (clean r).w ≤ 5000 ∧ -5000 ≤ (clean r).y ∧ 1 ≤ (clean r).h ∧ (clean r).h ≤ 200 ∧ (clean r).y + (clean r).h ≤ 5000) := by
  unfold clean
  split
  · exact .inl rfl
  · rename_i h
    refine .inr ?_
    dsimp only
    unfold cl at *
    omega
theorem IsClean.box {r : RR} {a b c d : Int} (h : IsClean r ⟨a, b, c, d⟩) : (a = 0 ∧ b = 0 ∧ c = 0 ∧ d = 0) ∨ (-5000 ≤ a ∧ 1 ≤ c ∧ c ≤ 200 ∧ a + c ≤ 5000 ∧ -5000 ≤ b ∧ 1 ≤ d ∧ d ≤ 200 ∧ b + d ≤ 5000) := by
  have := clean_box r
  unfold IsClean at h
  rw [← h] at this
  simpa [zero] using this
theorem IsClean.bounds {r : RR} {a b c d : Int} (h : IsClean r ⟨a, b, c, d⟩) : -5000 ≤ a ∧ a ≤ 5000 ∧ -5000 ≤ b ∧ b ≤ 5000 ∧ 0 ≤ c ∧ c ≤ 200 ∧ 0 ≤ d ∧ d ≤ 200 ∧ a + c ≤ 5000 ∧ b + d ≤ 5000 := by
  have := h.box
  omega

/-- a rectangle is just this one (kept from the walk's sight) -/
def Is (m n : RR) : Prop := m = n
theorem Is.congr {m n n' : RR} (h : Is m n) (e : n = n') : Is m n' := Eq.trans h e
theorem Is.unique {a b n : RR} (h : Is a n) (h' : Is b n) : a = b := Eq.trans h h'.symm

/-- from a first cell up to where columns and rows end -/
def span (x y r b : Int) : RR := clean ⟨x, y, r - x, b - y⟩
/-- of cleaned ones -/
def meet (a b : RR) : RR := span (max a.x b.x) (max a.y b.y) (min (a.x + a.w) (b.x + b.w)) (min (a.y + a.h) (b.y + b.h))
def hull (a b : RR) : RR := if a = zero then b else if b = zero then a else span (min a.x b.x) (min a.y b.y) (max (a.x + a.w) (b.x + b.w)) (max (a.y + a.h) (b.y + b.h))
def shift (a : RR) (dx dy : Int) : RR := clean ⟨sat a.x dx, sat a.y dy, a.w, a.h⟩
def inset (a : RR) (n : Int) : RR := clean ⟨a.x + cl n 0 200, a.y + cl n 0 200, a.w - 2 * cl n 0 200, a.h - 2 * cl n 0 200⟩
def into (a b : RR) : RR := clean ⟨cl a.x b.x (b.x + b.w - min a.w b.w), cl a.y b.y (b.y + b.h - min a.h b.h), min a.w b.w, min a.h b.h⟩
/-- the first columns (across: rows), and those that are left -/
def lead (a : RR) (n : Int) (ac : Bool) : RR := if ac then clean ⟨a.x, a.y, a.w, cl n 0 a.h⟩ else clean ⟨a.x, a.y, cl n 0 a.w, a.h⟩
def remain (a : RR) (n : Int) (ac : Bool) : RR := if ac then clean ⟨a.x, a.y + cl n 0 a.h, a.w, a.h - cl n 0 a.h⟩ else clean ⟨a.x + cl n 0 a.w, a.y, a.w - cl n 0 a.w, a.h⟩

end Go.Proofs.Ytpmggljdcbbdfaa.rm
