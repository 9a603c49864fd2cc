/- Heaps on lists: what container/heap does with a row, step by step. -/
import Derived.Test.YtfelmnhhldgobaaTmMem
namespace Go.Proofs.Ytfelmnhhldgobaa
open Go.RowKit
namespace tm
def cmpI (x y : Int) : Int := if x < y then -1 else if y < x then 1 else 0
def ord (a b : T) : Int := if a.due = b.due then cmpI a.id b.id else cmpI a.due b.due
def lt (a b : T) : Bool := decide (ord a b < 0)
theorem cmpI_neg (x y : Int) : cmpI x y < 0 ↔ x < y := by
  unfold cmpI
  split
  · simp only [*]; decide
  split <;> simp only [*] <;> decide
theorem lt_iff (a b : T) : lt a b = true ↔ a.due < b.due ∨ a.due = b.due ∧ a.id < b.id := by
  unfold lt ord
  rw [decide_eq_true_eq]
  split
  · rw [cmpI_neg]; omega
  · rw [cmpI_neg]; omega
def ix (l : List T) (i : Nat) : T := l.getD i T.zero
theorem ix_at {l : List T} {i : Nat} (h : i < l.length) : l[i]? = some (ix l i) := by
  unfold ix
  rw [List.getD_eq_getElem?_getD, List.getElem?_eq_getElem h]
  rfl
def sw (l : List T) (i j : Nat) : List T := (l.set i (ix l j)).set j (ix l i)
theorem sw_len (l : List T) (i j : Nat) : (sw l i j).length = l.length := by simp [sw]
def up : Nat → List T → Nat → List T
  | 0, l, _ => l
  | f + 1, l, j => if (j - 1) / 2 = j then l else if lt (ix l j) (ix l ((j - 1) / 2)) = true then up f (sw l ((j - 1) / 2) j) ((j - 1) / 2) else l
def kid (l : List T) (i n : Nat) : Nat := if 2 * i + 2 < n ∧ lt (ix l (2 * i + 2)) (ix l (2 * i + 1)) = true then 2 * i + 2 else 2 * i + 1
def down : Nat → List T → Nat → Nat → List T × Nat
  | 0, l, i, _ => (l, i)
  | f + 1, l, i, n => if n ≤ 2 * i + 1 then (l, i) else if lt (ix l (kid l i n)) (ix l i) = true then down f (sw l i (kid l i n)) (kid l i n) n else (l, i)
theorem up_len : ∀ (f : Nat) (l : List T) (j : Nat), (up f l j).length = l.length
  | 0, _, _ => rfl
  | f + 1, l, j => by
    unfold up
    split
    · rfl
    split
    · rw [up_len f, sw_len]
    · rfl
theorem down_len : ∀ (f : Nat) (l : List T) (i n : Nat), (down f l i n).1.length = l.length
  | 0, _, _, _ => rfl
  | f + 1, l, i, n => by
    unfold down
    split
    · rfl
    split
    · rw [down_len f, sw_len]
    · rfl
theorem kid_le (l : List T) (i n : Nat) (h : ¬ n ≤ 2 * i + 1) : i < kid l i n ∧ kid l i n < n := by
  unfold kid
  split
  · omega
  · omega
def push (l : List T) (t : T) : List T := up (l.length + 1) (l ++ [t]) l.length
def popL (l : List T) : List T := (down (l.length + 1) (sw l 0 (l.length - 1)) 0 (l.length - 1)).1
def removeM (l : List T) (i : Nat) : List T :=
  if l.length - 1 = i then l else
  if i < (down (l.length + 1) (sw l i (l.length - 1)) i (l.length - 1)).2 then (down (l.length + 1) (sw l i (l.length - 1)) i (l.length - 1)).1
  else up (l.length + 1) (down (l.length + 1) (sw l i (l.length - 1)) i (l.length - 1)).1 i
def remove (l : List T) (i : Nat) : List T := (removeM l i).take (l.length - 1)
def initU : Nat → List T → List T
  | 0, l => l
  | k + 1, l => initU k (down (l.length + 1) l k l.length).1
def init (l : List T) : List T := initU (l.length / 2) l
end tm
end Go.Proofs.Ytfelmnhhldgobaa
