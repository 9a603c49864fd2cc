/- Heaps on lists: nothing comes, nothing goes; a clock on lists. -/
import Derived.Test.YtfelmnhhldgobaaTmOps3
namespace Go.Proofs.Ytfelmnhhldgobaa
open Go.RowKit
namespace tm
theorem ix_get {l : List T} {i : Nat} (h : i < l.length) : ix l i = l[i] := by
  unfold ix
  rw [List.getD_eq_getElem?_getD, List.getElem?_eq_getElem h]
  rfl
theorem sw_perm (l : List T) (i j : Nat) (hi : i < l.length) (hj : j < l.length) : (sw l i j).Perm l := by
  unfold sw
  rw [ix_get hi, ix_get hj]
  exact List.set_set_perm hi hj
theorem up_perm : ∀ (f : Nat) (l : List T) (j : Nat), j < l.length → (up f l j).Perm l
  | 0, l, _, _ => List.Perm.refl _
  | f + 1, l, j, hj => by
    unfold up
    split
    · exact List.Perm.refl _
    split
    · exact (up_perm f _ _ (by rw [sw_len]; omega)).trans (sw_perm l _ _ (by omega) hj)
    · exact List.Perm.refl _
theorem down_perm : ∀ (f : Nat) (l : List T) (i n : Nat), n ≤ l.length → (down f l i n).1.Perm l
  | 0, l, _, _, _ => List.Perm.refl _
  | f + 1, l, i, n, hn => by
    unfold down
    split
    · exact List.Perm.refl _
    · rename_i h
      have := kid_le l i n h
      split
      · exact (down_perm f _ _ n (by rw [sw_len]; exact hn)).trans (sw_perm l _ _ (by omega) (by omega))
      · exact List.Perm.refl _
theorem push_perm (l : List T) (t : T) : (push l t).Perm (t :: l) :=
  (up_perm _ _ _ (by simp)).trans (List.perm_append_comm (l₁ := l) (l₂ := [t]))
theorem push_len (l : List T) (t : T) : (push l t).length = l.length + 1 := by unfold push; rw [up_len]; simp
theorem popL_perm (l : List T) (h : 0 < l.length) : (popL l).Perm l :=
  (down_perm _ _ _ _ (by rw [sw_len]; omega)).trans (sw_perm l _ _ h (by omega))
theorem popL_len (l : List T) : (popL l).length = l.length := by unfold popL; rw [down_len, sw_len]
theorem pop_perm (l : List T) (k : Nat) (h : l.length = k + 1) : (ix (popL l) k :: (popL l).take k).Perm l := by
  have hl := popL_len l
  have e : popL l = (popL l).take k ++ [ix (popL l) k] := by
    conv => lhs; rw [← List.take_append_drop k (popL l)]
    congr 1
    rw [List.drop_eq_getElem_cons (by omega), List.drop_of_length_le (by omega), ix_get (by omega)]
  refine List.Perm.trans ?_ (popL_perm l (by omega))
  conv => rhs; rw [e]
  exact List.perm_append_comm (l₁ := [ix (popL l) k]) (l₂ := (popL l).take k)
theorem removeM_perm (l : List T) (i : Nat) (h : i < l.length) : (removeM l i).Perm l := by
  have h1 := sw_perm l i (l.length - 1) h (by omega)
  have h2 := down_perm (l.length + 1) (sw l i (l.length - 1)) i (l.length - 1) (by rw [sw_len]; omega)
  unfold removeM
  split
  · exact List.Perm.refl _
  split
  · exact h2.trans h1
  · exact (up_perm _ _ _ (by rw [down_len, sw_len]; exact h)).trans (h2.trans h1)
theorem removeM_len (l : List T) (i : Nat) (h : i < l.length) : (removeM l i).length = l.length := (removeM_perm l i h).length_eq
theorem initU_perm : ∀ (k : Nat) (l : List T), (initU k l).Perm l
  | 0, _ => List.Perm.refl _
  | k + 1, l => (initU_perm k _).trans (down_perm _ l k l.length (Nat.le_refl _))
theorem init_perm (l : List T) : (init l).Perm l := initU_perm _ _
/-- a clock on lists -/
structure St where
  (now last : Int)
  l : List T
def St.zero : St := ⟨0, 0, []⟩
def maxT : Int := 1099511627776
def isT (x : Int) : Bool := decide (0 ≤ x ∧ x ≤ 1099511627776)
theorem isT_iff (x : Int) : isT x = true ↔ 0 ≤ x ∧ x ≤ 1099511627776 := by unfold isT; rw [decide_eq_true_eq]
structure Good (s : St) : Prop where
  n0 : 0 ≤ s.now
  n1 : s.now ≤ 1099511627776
  len : s.l.length ≤ 64
  ts : ∀ t, t ∈ s.l → isT t.due = true ∧ isT t.every = true
def setR (s : St) (owner i e : Int) : (Int × Int) × St :=
  if owner < 1 ∨ isT i = false ∨ isT e = false ∨ isT (s.now + i) = false then ((0, 1), s) else
  if s.l.length = 64 then ((0, 3), s) else ((s.last + 1, 0), ⟨s.now, s.last + 1, push s.l ⟨s.last + 1, owner, s.now + i, e⟩⟩)
def nextR (s : St) : Int × Bool := if s.l.length = 0 then (0, false) else ((ix s.l 0).due, true)
def comesB (s : St) (till : Int) : Bool := decide (0 < s.l.length ∧ (ix s.l 0).due ≤ till)
/-- the timer that is told, and the clock behind it -/
def tellR (s : St) : T × St :=
  let k := s.l.length - 1
  let t := ix (popL s.l) k
  let r := (popL s.l).take k
  (t, ⟨s.now, s.last, if 0 < t.every ∧ isT (t.due + t.every) = true then push r ⟨t.id, t.owner, t.due + t.every, t.every⟩ else r⟩)
theorem tell_mem {s : St} (h : 0 < s.l.length) : (tellR s).1 ∈ s.l :=
  (pop_perm s.l (s.l.length - 1) (by omega)).mem_iff.1 (List.mem_cons_self ..)
theorem rest_len (s : St) : ((popL s.l).take (s.l.length - 1)).length = s.l.length - 1 := by
  rw [List.length_take, popL_len]; omega
theorem Good.tell {s : St} (h : Good s) (hl : 0 < s.l.length) : Good (tellR s).2 := by
  have hp := pop_perm s.l (s.l.length - 1) (by omega)
  have hm := h.ts _ (tell_mem hl)
  have hr : ∀ t, t ∈ (popL s.l).take (s.l.length - 1) → isT t.due = true ∧ isT t.every = true := fun t ht => h.ts t (hp.mem_iff.1 (List.mem_cons_of_mem _ ht))
  have hlen := h.len
  unfold tellR
  refine ⟨h.n0, h.n1, ?_, ?_⟩
  · simp only
    split
    · rw [push_len, rest_len]; omega
    · rw [rest_len]; omega
  · simp only
    split
    · rename_i hc
      intro t ht
      rcases List.mem_cons.1 ((push_perm _ _).mem_iff.1 ht) with rfl | ht
      · exact ⟨hc.2, hm.2⟩
      · exact hr t ht
    · exact hr
theorem Good.set {s : St} (h : Good s) (owner i e : Int) : Good (setR s owner i e).2 := by
  unfold setR
  have hlen := h.len
  split
  · exact h
  split
  · exact h
  · rename_i h1 h2
    simp only [not_or, Bool.not_eq_false] at h1
    refine ⟨h.n0, h.n1, by simp only; rw [push_len]; omega, fun t ht => ?_⟩
    rcases List.mem_cons.1 ((push_perm _ _).mem_iff.1 ht) with rfl | ht
    · exact ⟨h1.2.2.2, h1.2.2.1⟩
    · exact h.ts t ht
/-- tells as long as some come, n at most -/
def tellsU : Nat → St → Int → List T × St
  | 0, s, _ => ([], s)
  | n + 1, s, till => if comesB s till = true then ((tellR s).1 :: (tellsU n (tellR s).2 till).1, (tellsU n (tellR s).2 till).2) else ([], s)
def passR (s : St) (till : Int) : (List T × Int) × St :=
  if till < s.now ∨ isT till = false then (([], 1), s) else
  (((tellsU 16 s till).1, 0), ⟨if (tellsU 16 s till).1.length = 16 then (ix (tellsU 16 s till).1 15).due else till, s.last, (tellsU 16 s till).2.l⟩)
end tm
end Go.Proofs.Ytfelmnhhldgobaa
