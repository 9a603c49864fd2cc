/- KdlWrong on lists: the ten texts. -/
import Derived.Test.YthmiaamjbokljaaGreatDoorKdWrongM
namespace Go.Proofs.YthmiaamjbokljaaGreatDoor.kd
open Go
instance : Inhabited tk.Tok := ⟨{ kind := 0, text := [], at_ := 0 }⟩
abbrev brk (n : Nat) : tk.Tok := { kind := 5, text := [10], at_ := n }
abbrev bt0 : List UInt8 := [125]
abbrev bk0 : List tk.Tok := [{ kind := 4, text := [125], at_ := 0 }]
theorem btok0 : tk.tokens bt0 = (bk0, 0, 0) := by kernel_rfl
theorem bfin0 (e g m n q : Nat) (x : List Node) : fin (list e (g + 7) 0 ⟨brk q :: bk0.map (tk.sh n), m⟩ x) = ([], 80, ((0 : Int) + (n : Nat))) := by kernel_rfl
theorem bad0 (a : List UInt8) (x : List Node) (p : Int) (h : parse a = (x, 0, p)) (hl : a.length ≤ 500) : (∃ y, parse (a ++ 10 :: bt0) = ([], 3, y)) ∨ parse (a ++ 10 :: bt0) = ([], 80, ((0 : Int) + (a.length + 1 : Nat))) := by
  rcases behind a bt0 x p bk0 h btok0 (by simp; omega) with h | ⟨g, m, hg, e⟩
  · exact .inl h
  · right
    obtain ⟨g', rfl⟩ : ∃ g', g = g' + 3 := ⟨g - 3, by simp at hg; omega⟩
    rw [e]
    exact bfin0 _ _ _ _ _ _
abbrev bt1 : List UInt8 := [61]
abbrev bk1 : List tk.Tok := [{ kind := 4, text := [61], at_ := 0 }]
theorem btok1 : tk.tokens bt1 = (bk1, 0, 0) := by kernel_rfl
theorem bfin1 (e g m n q : Nat) (x : List Node) : fin (list e (g + 7) 0 ⟨brk q :: bk1.map (tk.sh n), m⟩ x) = ([], 80, ((0 : Int) + (n : Nat))) := by kernel_rfl
theorem bad1 (a : List UInt8) (x : List Node) (p : Int) (h : parse a = (x, 0, p)) (hl : a.length ≤ 500) : (∃ y, parse (a ++ 10 :: bt1) = ([], 3, y)) ∨ parse (a ++ 10 :: bt1) = ([], 80, ((0 : Int) + (a.length + 1 : Nat))) := by
  rcases behind a bt1 x p bk1 h btok1 (by simp; omega) with h | ⟨g, m, hg, e⟩
  · exact .inl h
  · right
    obtain ⟨g', rfl⟩ : ∃ g', g = g' + 3 := ⟨g - 3, by simp at hg; omega⟩
    rw [e]
    exact bfin1 _ _ _ _ _ _
abbrev bt2 : List UInt8 := [49]
abbrev bk2 : List tk.Tok := [{ kind := 3, text := [49], int := 1, at_ := 0 }]
theorem btok2 : tk.tokens bt2 = (bk2, 0, 0) := by kernel_rfl
theorem bfin2 (e g m n q : Nat) (x : List Node) : fin (list e (g + 7) 0 ⟨brk q :: bk2.map (tk.sh n), m⟩ x) = ([], 80, ((0 : Int) + (n : Nat))) := by kernel_rfl
theorem bad2 (a : List UInt8) (x : List Node) (p : Int) (h : parse a = (x, 0, p)) (hl : a.length ≤ 500) : (∃ y, parse (a ++ 10 :: bt2) = ([], 3, y)) ∨ parse (a ++ 10 :: bt2) = ([], 80, ((0 : Int) + (a.length + 1 : Nat))) := by
  rcases behind a bt2 x p bk2 h btok2 (by simp; omega) with h | ⟨g, m, hg, e⟩
  · exact .inl h
  · right
    obtain ⟨g', rfl⟩ : ∃ g', g = g' + 3 := ⟨g - 3, by simp at hg; omega⟩
    rw [e]
    exact bfin2 _ _ _ _ _ _
abbrev bt3 : List UInt8 := [123]
abbrev bk3 : List tk.Tok := [{ kind := 4, text := [123], at_ := 0 }]
theorem btok3 : tk.tokens bt3 = (bk3, 0, 0) := by kernel_rfl
theorem bfin3 (e g m n q : Nat) (x : List Node) : fin (list e (g + 7) 0 ⟨brk q :: bk3.map (tk.sh n), m⟩ x) = ([], 80, ((0 : Int) + (n : Nat))) := by kernel_rfl
theorem bad3 (a : List UInt8) (x : List Node) (p : Int) (h : parse a = (x, 0, p)) (hl : a.length ≤ 500) : (∃ y, parse (a ++ 10 :: bt3) = ([], 3, y)) ∨ parse (a ++ 10 :: bt3) = ([], 80, ((0 : Int) + (a.length + 1 : Nat))) := by
  rcases behind a bt3 x p bk3 h btok3 (by simp; omega) with h | ⟨g, m, hg, e⟩
  · exact .inl h
  · right
    obtain ⟨g', rfl⟩ : ∃ g', g = g' + 3 := ⟨g - 3, by simp at hg; omega⟩
    rw [e]
    exact bfin3 _ _ _ _ _ _
abbrev bt4 : List UInt8 := [97, 32, 123]
abbrev bk4 : List tk.Tok := [{ kind := 1, text := [97], at_ := 0 }, { kind := 4, text := [123], at_ := 2 }]
theorem btok4 : tk.tokens bt4 = (bk4, 0, 0) := by kernel_rfl
theorem bfin4 (e g m n : Nat) (x : List Node) : fin (more e (g + 6) x (rest e (g + 5) 0 (tk.sh n bk4.head!) (bk4.tail.map (tk.sh n)) m)) = ([], 82, (e : Int)) := by kernel_rfl
theorem bad4 (a : List UInt8) (x : List Node) (p : Int) (h : parse a = (x, 0, p)) (hl : a.length ≤ 500) : (∃ y, parse (a ++ 10 :: bt4) = ([], 3, y)) ∨ parse (a ++ 10 :: bt4) = ([], 82, (((a ++ 10 :: bt4).length : Nat) : Int)) := by
  rcases behind a bt4 x p bk4 h btok4 (by simp; omega) with h | ⟨g, m, hg, e⟩
  · exact .inl h
  · obtain ⟨g', rfl⟩ : ∃ g', g = g' + 3 := ⟨g - 3, by simp at hg; omega⟩
    have e2 := list_front (a ++ 10 :: bt4).length (g' + 6) (brk a.length) (tk.sh (a.length + 1) bk4.head!) (bk4.tail.map (tk.sh (a.length + 1))) m x rfl (show (1 : Nat) ≠ 5 by decide) (show (1 : Nat) ≠ 0 by decide)
    rw [node_front _ (g' + 5) _ _ _ _ rfl] at e2
    rw [e, show g' + 3 + 4 = g' + 6 + 1 from rfl, show ({ kind := 5, text := [10], at_ := a.length } : tk.Tok) :: bk4.map (tk.sh (a.length + 1)) = brk a.length :: tk.sh (a.length + 1) bk4.head! :: bk4.tail.map (tk.sh (a.length + 1)) from rfl, e2]
    by_cases h3 : 300 < m + 1
    · left
      rw [if_pos h3]
      exact ⟨_, rfl⟩
    · right
      rw [if_neg h3]
      exact bfin4 _ _ _ _ _
abbrev bt5 : List UInt8 := [97, 32, 120, 61]
abbrev bk5 : List tk.Tok := [{ kind := 1, text := [97], at_ := 0 }, { kind := 1, text := [120], at_ := 2 }, { kind := 4, text := [61], at_ := 3 }]
theorem btok5 : tk.tokens bt5 = (bk5, 0, 0) := by kernel_rfl
theorem bfin5 (e g m n : Nat) (x : List Node) : fin (more e (g + 6) x (rest e (g + 5) 0 (tk.sh n bk5.head!) (bk5.tail.map (tk.sh n)) m)) = ([], 82, (e : Int)) := by kernel_rfl
theorem bad5 (a : List UInt8) (x : List Node) (p : Int) (h : parse a = (x, 0, p)) (hl : a.length ≤ 500) : (∃ y, parse (a ++ 10 :: bt5) = ([], 3, y)) ∨ parse (a ++ 10 :: bt5) = ([], 82, (((a ++ 10 :: bt5).length : Nat) : Int)) := by
  rcases behind a bt5 x p bk5 h btok5 (by simp; omega) with h | ⟨g, m, hg, e⟩
  · exact .inl h
  · obtain ⟨g', rfl⟩ : ∃ g', g = g' + 3 := ⟨g - 3, by simp at hg; omega⟩
    have e2 := list_front (a ++ 10 :: bt5).length (g' + 6) (brk a.length) (tk.sh (a.length + 1) bk5.head!) (bk5.tail.map (tk.sh (a.length + 1))) m x rfl (show (1 : Nat) ≠ 5 by decide) (show (1 : Nat) ≠ 0 by decide)
    rw [node_front _ (g' + 5) _ _ _ _ rfl] at e2
    rw [e, show g' + 3 + 4 = g' + 6 + 1 from rfl, show ({ kind := 5, text := [10], at_ := a.length } : tk.Tok) :: bk5.map (tk.sh (a.length + 1)) = brk a.length :: tk.sh (a.length + 1) bk5.head! :: bk5.tail.map (tk.sh (a.length + 1)) from rfl, e2]
    by_cases h3 : 300 < m + 1
    · left
      rw [if_pos h3]
      exact ⟨_, rfl⟩
    · right
      rw [if_neg h3]
      exact bfin5 _ _ _ _ _
abbrev bt6 : List UInt8 := [97, 32, 123, 125, 123]
abbrev bk6 : List tk.Tok := [{ kind := 1, text := [97], at_ := 0 }, { kind := 4, text := [123], at_ := 2 }, { kind := 4, text := [125], at_ := 3 }, { kind := 4, text := [123], at_ := 4 }]
theorem btok6 : tk.tokens bt6 = (bk6, 0, 0) := by kernel_rfl
theorem bfin6 (e g m n : Nat) (x : List Node) : fin (more e (g + 6) x (rest e (g + 5) 0 (tk.sh n bk6.head!) (bk6.tail.map (tk.sh n)) m)) = ([], 80, ((4 : Int) + (n : Nat))) := by kernel_rfl
theorem bad6 (a : List UInt8) (x : List Node) (p : Int) (h : parse a = (x, 0, p)) (hl : a.length ≤ 500) : (∃ y, parse (a ++ 10 :: bt6) = ([], 3, y)) ∨ parse (a ++ 10 :: bt6) = ([], 80, ((4 : Int) + (a.length + 1 : Nat))) := by
  rcases behind a bt6 x p bk6 h btok6 (by simp; omega) with h | ⟨g, m, hg, e⟩
  · exact .inl h
  · obtain ⟨g', rfl⟩ : ∃ g', g = g' + 3 := ⟨g - 3, by simp at hg; omega⟩
    have e2 := list_front (a ++ 10 :: bt6).length (g' + 6) (brk a.length) (tk.sh (a.length + 1) bk6.head!) (bk6.tail.map (tk.sh (a.length + 1))) m x rfl (show (1 : Nat) ≠ 5 by decide) (show (1 : Nat) ≠ 0 by decide)
    rw [node_front _ (g' + 5) _ _ _ _ rfl] at e2
    rw [e, show g' + 3 + 4 = g' + 6 + 1 from rfl, show ({ kind := 5, text := [10], at_ := a.length } : tk.Tok) :: bk6.map (tk.sh (a.length + 1)) = brk a.length :: tk.sh (a.length + 1) bk6.head! :: bk6.tail.map (tk.sh (a.length + 1)) from rfl, e2]
    by_cases h3 : 300 < m + 1
    · left
      rw [if_pos h3]
      exact ⟨_, rfl⟩
    · right
      rw [if_neg h3]
      exact bfin6 _ _ _ _ _
abbrev bt7 : List UInt8 := [97, 32, 120, 61, 49, 32, 120, 61, 49]
abbrev bk7 : List tk.Tok := [{ kind := 1, text := [97], at_ := 0 }, { kind := 1, text := [120], at_ := 2 }, { kind := 4, text := [61], at_ := 3 }, { kind := 3, text := [49], int := 1, at_ := 4 }, { kind := 1, text := [120], at_ := 6 }, { kind := 4, text := [61], at_ := 7 }, { kind := 3, text := [49], int := 1, at_ := 8 }]
theorem btok7 : tk.tokens bt7 = (bk7, 0, 0) := by kernel_rfl
theorem bfin7 (e g m n : Nat) (x : List Node) : fin (more e (g + 6) x (rest e (g + 5) 0 (tk.sh n bk7.head!) (bk7.tail.map (tk.sh n)) m)) = ([], 81, ((6 : Int) + (n : Nat))) := by kernel_rfl
theorem bad7 (a : List UInt8) (x : List Node) (p : Int) (h : parse a = (x, 0, p)) (hl : a.length ≤ 500) : (∃ y, parse (a ++ 10 :: bt7) = ([], 3, y)) ∨ parse (a ++ 10 :: bt7) = ([], 81, ((6 : Int) + (a.length + 1 : Nat))) := by
  rcases behind a bt7 x p bk7 h btok7 (by simp; omega) with h | ⟨g, m, hg, e⟩
  · exact .inl h
  · obtain ⟨g', rfl⟩ : ∃ g', g = g' + 3 := ⟨g - 3, by simp at hg; omega⟩
    have e2 := list_front (a ++ 10 :: bt7).length (g' + 6) (brk a.length) (tk.sh (a.length + 1) bk7.head!) (bk7.tail.map (tk.sh (a.length + 1))) m x rfl (show (1 : Nat) ≠ 5 by decide) (show (1 : Nat) ≠ 0 by decide)
    rw [node_front _ (g' + 5) _ _ _ _ rfl] at e2
    rw [e, show g' + 3 + 4 = g' + 6 + 1 from rfl, show ({ kind := 5, text := [10], at_ := a.length } : tk.Tok) :: bk7.map (tk.sh (a.length + 1)) = brk a.length :: tk.sh (a.length + 1) bk7.head! :: bk7.tail.map (tk.sh (a.length + 1)) from rfl, e2]
    by_cases h3 : 300 < m + 1
    · left
      rw [if_pos h3]
      exact ⟨_, rfl⟩
    · right
      rw [if_neg h3]
      exact bfin7 _ _ _ _ _
abbrev bt8 : List UInt8 := [97, 32, 125, 32, 98]
abbrev bk8 : List tk.Tok := [{ kind := 1, text := [97], at_ := 0 }, { kind := 4, text := [125], at_ := 2 }, { kind := 1, text := [98], at_ := 4 }]
theorem btok8 : tk.tokens bt8 = (bk8, 0, 0) := by kernel_rfl
theorem bfin8 (e g m n : Nat) (x : List Node) : fin (more e (g + 6) x (rest e (g + 5) 0 (tk.sh n bk8.head!) (bk8.tail.map (tk.sh n)) m)) = ([], 80, ((2 : Int) + (n : Nat))) := by kernel_rfl
theorem bad8 (a : List UInt8) (x : List Node) (p : Int) (h : parse a = (x, 0, p)) (hl : a.length ≤ 500) : (∃ y, parse (a ++ 10 :: bt8) = ([], 3, y)) ∨ parse (a ++ 10 :: bt8) = ([], 80, ((2 : Int) + (a.length + 1 : Nat))) := by
  rcases behind a bt8 x p bk8 h btok8 (by simp; omega) with h | ⟨g, m, hg, e⟩
  · exact .inl h
  · obtain ⟨g', rfl⟩ : ∃ g', g = g' + 3 := ⟨g - 3, by simp at hg; omega⟩
    have e2 := list_front (a ++ 10 :: bt8).length (g' + 6) (brk a.length) (tk.sh (a.length + 1) bk8.head!) (bk8.tail.map (tk.sh (a.length + 1))) m x rfl (show (1 : Nat) ≠ 5 by decide) (show (1 : Nat) ≠ 0 by decide)
    rw [node_front _ (g' + 5) _ _ _ _ rfl] at e2
    rw [e, show g' + 3 + 4 = g' + 6 + 1 from rfl, show ({ kind := 5, text := [10], at_ := a.length } : tk.Tok) :: bk8.map (tk.sh (a.length + 1)) = brk a.length :: tk.sh (a.length + 1) bk8.head! :: bk8.tail.map (tk.sh (a.length + 1)) from rfl, e2]
    by_cases h3 : 300 < m + 1
    · left
      rw [if_pos h3]
      exact ⟨_, rfl⟩
    · right
      rw [if_neg h3]
      exact bfin8 _ _ _ _ _
abbrev bt9 : List UInt8 := [97, 32, 123, 125, 32, 98]
abbrev bk9 : List tk.Tok := [{ kind := 1, text := [97], at_ := 0 }, { kind := 4, text := [123], at_ := 2 }, { kind := 4, text := [125], at_ := 3 }, { kind := 1, text := [98], at_ := 5 }]
theorem btok9 : tk.tokens bt9 = (bk9, 0, 0) := by kernel_rfl
theorem bfin9 (e g m n : Nat) (x : List Node) : fin (more e (g + 6) x (rest e (g + 5) 0 (tk.sh n bk9.head!) (bk9.tail.map (tk.sh n)) m)) = ([], 80, ((5 : Int) + (n : Nat))) := by kernel_rfl
theorem bad9 (a : List UInt8) (x : List Node) (p : Int) (h : parse a = (x, 0, p)) (hl : a.length ≤ 500) : (∃ y, parse (a ++ 10 :: bt9) = ([], 3, y)) ∨ parse (a ++ 10 :: bt9) = ([], 80, ((5 : Int) + (a.length + 1 : Nat))) := by
  rcases behind a bt9 x p bk9 h btok9 (by simp; omega) with h | ⟨g, m, hg, e⟩
  · exact .inl h
  · obtain ⟨g', rfl⟩ : ∃ g', g = g' + 3 := ⟨g - 3, by simp at hg; omega⟩
    have e2 := list_front (a ++ 10 :: bt9).length (g' + 6) (brk a.length) (tk.sh (a.length + 1) bk9.head!) (bk9.tail.map (tk.sh (a.length + 1))) m x rfl (show (1 : Nat) ≠ 5 by decide) (show (1 : Nat) ≠ 0 by decide)
    rw [node_front _ (g' + 5) _ _ _ _ rfl] at e2
    rw [e, show g' + 3 + 4 = g' + 6 + 1 from rfl, show ({ kind := 5, text := [10], at_ := a.length } : tk.Tok) :: bk9.map (tk.sh (a.length + 1)) = brk a.length :: tk.sh (a.length + 1) bk9.head! :: bk9.tail.map (tk.sh (a.length + 1)) from rfl, e2]
    by_cases h3 : 300 < m + 1
    · left
      rw [if_pos h3]
      exact ⟨_, rfl⟩
    · right
      rw [if_neg h3]
      exact bfin9 _ _ _ _ _
end Go.Proofs.YthmiaamjbokljaaGreatDoor.kd
