/- One place more of those that get a share. -/
import Derived.Test.YteilaoiimlpbkaaSolPre
namespace Go.Proofs.Yteilaoiimlpbkaa
namespace sl
theorem spread_snoc (e m : Int) (ps : List Nat) (p : Nat) : ∀ (j : Nat) (w : List Int), spread e m j (ps ++ [p]) w = add (spread e m j ps w) p (part e m (j + ps.length)) := by
  induction ps with
  | nil => intro j w; simp [spread]
  | cons q ps ih =>
    intro j w
    simp only [List.cons_append, spread, ih, List.length_cons]
    rw [show j + 1 + ps.length = j + (ps.length + 1) by omega]
theorem nat_take_snoc (ps : List Nat) (i : Nat) (h : i < ps.length) : ps.take (i + 1) = ps.take i ++ [ps[i]] := List.take_succ_eq_append_getElem h
theorem spread_next (e m : Int) (ps : List Nat) (w : List Int) (i : Nat) (h : i < ps.length) : spread e m 0 (ps.take (i + 1)) w = add (spread e m 0 (ps.take i) w) ps[i] (part e m i) := by
  rw [nat_take_snoc ps i h, spread_snoc, List.length_take, Nat.min_eq_left (Nat.le_of_lt h), Nat.zero_add]
theorem not_yet (ps : List Nat) (hs : ps.Pairwise (· < ·)) (i : Nat) (h : i < ps.length) : ps[i] ∉ ps.take i := by
  intro hm
  obtain ⟨j, hj, e⟩ := List.mem_iff_getElem.1 hm
  have hji : j < i := by simp at hj; omega
  rw [List.getElem_take] at e
  have := List.pairwise_iff_getElem.1 hs j i (by omega) h hji
  omega
theorem spread_at (e m : Int) (ps : List Nat) (hs : ps.Pairwise (· < ·)) (w : List Int) (i : Nat) (h : i < ps.length) : (spread e m 0 (ps.take i) w).getD ps[i] 0 = w.getD ps[i] 0 :=
  spread_out e m _ 0 w _ (not_yet ps hs i h)
theorem add_two (w : List Int) (p : Nat) (x y : Int) : (w.set p (w.getD p 0 + x)).set p (w.getD p 0 + x + y) = add w p (x + y) := by
  unfold add; rw [List.set_set, Int.add_assoc]
theorem spread_put1 (e m : Int) (ps : List Nat) (hs : ps.Pairwise (· < ·)) (w : List Int) (i : Nat) (h : i < ps.length) (hm : ¬ (i : Int) < m) : spread e m 0 (ps.take (i + 1)) w = (spread e m 0 (ps.take i) w).set ps[i] (w.getD ps[i] 0 + e) := by
  rw [spread_next e m ps w i h, add, spread_at e m ps hs w i h, part, if_neg hm, Int.add_zero]
theorem spread_put2 (e m : Int) (ps : List Nat) (hs : ps.Pairwise (· < ·)) (w : List Int) (i : Nat) (h : i < ps.length) (hm : (i : Int) < m) : spread e m 0 (ps.take (i + 1)) w = ((spread e m 0 (ps.take i) w).set ps[i] (w.getD ps[i] 0 + e)).set ps[i] (w.getD ps[i] 0 + e + 1) := by
  rw [spread_next e m ps w i h, add, spread_at e m ps hs w i h, part, if_pos hm, List.set_set, Int.add_assoc]
theorem lasts_le (L : List Sz) (h : L.length ≠ 0) : (lasts L).length ≤ L.length := by
  unfold lasts
  split
  · simp; omega
  · exact places_len L
end sl
end Go.Proofs.Yteilaoiimlpbkaa
