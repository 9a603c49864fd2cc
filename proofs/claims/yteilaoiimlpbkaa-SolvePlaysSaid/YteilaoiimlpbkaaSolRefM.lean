/- The document's way, one cell at a time, comes to the same lengths. -/
import Derived.Test.YteilaoiimlpbkaaSolKeepsM
namespace Go.Proofs.Yteilaoiimlpbkaa
namespace sl
/-- is one longer than 1? -/
def big (l : List Int) : Bool := l.any (fun x => decide (1 < x))
/-- where the last one stands that is longer than 1 -/
def lastBig : List Int → Nat
  | [] => 0
  | _ :: r => if big r then lastBig r + 1 else 0
/-- the last one that is longer than 1, shorter by one -/
def decL : List Int → List Int
  | [] => []
  | n :: r => if big r then n :: decL r else (n - 1) :: r
theorem big_cons (n : Int) (r : List Int) : big (n :: r) = (decide (1 < n) || big r) := rfl
theorem small_one {l : List Int} (h : ∀ x ∈ l, 1 ≤ x) (hb : big l = false) (o : Int) (ho : 0 ≤ o) : less l o = (l, o) := by
  induction l with
  | nil => rfl
  | cons a l ih =>
    rw [big_cons] at hb
    simp at hb
    have h1 := h a (by simp)
    have e := ih (fun x hx => h x (by simp [hx])) hb.2
    have ha : a = 1 := by omega
    subst ha
    have e2 : mnI o (1 - 1) = 0 := by unfold mnI; split <;> omega
    simp only [less, e, e2]
    simp
theorem less_peel {l : List Int} (h : ∀ x ∈ l, 1 ≤ x) (hb : big l = true) (o : Int) (ho : 0 ≤ o) : less l (o + 1) = less (decL l) o := by
  induction l with
  | nil => cases hb
  | cons a l ih =>
    have hl : ∀ x ∈ l, 1 ≤ x := fun x hx => h x (by simp [hx])
    unfold decL
    cases e : big l
    · rw [big_cons, e] at hb
      simp at hb
      rw [if_neg (by simp)]
      simp only [less, small_one hl e _ ho, small_one hl e (o + 1) (by omega)]
      have : mnI (o + 1) (a - 1) = mnI o (a - 1 - 1) + 1 := by unfold mnI; split <;> split <;> omega
      rw [this]
      congr 1
      · congr 1
        omega
      · omega
    · rw [if_pos rfl]
      simp only [less, ih hl e]
theorem decL_add {l : List Int} (hb : big l = true) : decL l = add l (lastBig l) (-1) ∧ lastBig l < l.length ∧ 1 < l.getD (lastBig l) 0 := by
  induction l with
  | nil => cases hb
  | cons a l ih =>
    unfold decL lastBig
    cases e : big l
    · rw [big_cons, e] at hb
      simp at hb
      simp [add]
      exact ⟨rfl, hb⟩
    · obtain ⟨h1, h2, h3⟩ := ih e
      refine ⟨?_, ?_, ?_⟩
      · simp only [if_true, add, List.getD_cons_succ, List.set_cons_succ]
        rw [h1]
        rfl
      · simp; exact h2
      · simpa using h3
theorem big_snoc (A : List Int) (x : Int) : big (A ++ [x]) = (big A || decide (1 < x)) := by unfold big; simp
theorem lastBig_snoc (A : List Int) (x : Int) : lastBig (A ++ [x]) = if 1 < x then A.length else lastBig A := by
  induction A with
  | nil => simp [lastBig, big]
  | cons a A ih =>
    simp only [List.cons_append, lastBig, big_snoc, ih, List.length_cons]
    by_cases hx : 1 < x
    · simp [hx]
    · simp [hx]
theorem big_of_sum {l : List Int} (h : (l.length : Int) < l.sum) : big l = true := by
  cases e : big l
  · have : ∀ x ∈ l, x ≤ 1 := fun x hx => by
      by_cases hh : x ≤ 1
      · exact hh
      · have : big l = true := List.any_eq_true.2 ⟨x, hx, by simp; omega⟩
        rw [e] at this; cases this
    have := sum_le l 1 this
    omega
  · rfl
/-- the document's lengths while there is too much: between what the parts want and what is left to them -/
def Down (t : Int) (L : List Sz) (out : List Int) : Prop := out.length = L.length ∧ (∀ x ∈ out, 1 ≤ x) ∧ (∀ i, i < L.length → (L.getD i z0).k = 0 → out.getD i 0 = 1) ∧
  ((t ≤ out.sum ∧ t ≤ (wants t L).sum ∧ less out (out.sum - t) = less (wants t L) ((wants t L).sum - t)) ∨ (out = wants t L ∧ (wants t L).sum < t))
theorem down_start {t : Int} {L : List Sz} (he : err t L = 0) : Down t L (wants t L) := by
  refine ⟨wants_len t L, wants_pos t L (err_zero he).2.2.1, fun i h hk => by rw [getD_wants t L i h, want_flex t _ hk], ?_⟩
  by_cases h : t ≤ (wants t L).sum
  · exact .inl ⟨h, h, rfl⟩
  · exact .inr ⟨rfl, by omega⟩
theorem down_next {t : Int} {L : List Sz} (he : err t L = 0) {out : List Int} (hd : Down t L out) (hs : t < out.sum) : Down t L (add out (lastBig out) (-1)) ∧ lastBig out < L.length ∧ 1 < out.getD (lastBig out) 0 ∧ (add out (lastBig out) (-1)).sum = out.sum - 1 := by
  obtain ⟨d1, d2, d3, d4⟩ := hd
  have hlen := (err_zero he).2.2.2.2
  have hb : big out = true := big_of_sum (by rw [d1]; omega)
  obtain ⟨e1, e2, e3⟩ := decL_add hb
  have es : (add out (lastBig out) (-1)).sum = out.sum - 1 := by rw [add_sum _ _ _ e2]; omega
  refine ⟨⟨by rw [add_len, d1], ?_, ?_, ?_⟩, by rw [← d1]; exact e2, e3, es⟩
  · intro x hx
    unfold add at hx
    rcases List.mem_or_eq_of_mem_set hx with h | h
    · exact d2 x h
    · omega
  · intro i hi hk
    have := d3 i hi hk
    rw [add_other _ _ _ _ (fun e => by rw [e, this] at e3; omega)]
    exact this
  · rcases d4 with ⟨f1, f2, f3⟩ | ⟨f1, f2⟩
    · refine .inl ⟨by omega, f2, ?_⟩
      rw [es, ← f3, ← e1, show out.sum - t = (out.sum - 1 - t) + 1 by omega]
      exact (less_peel d2 hb _ (by omega)).symm
    · rw [f1] at hs; omega
theorem down_end {t : Int} {L : List Sz} (he : err t L = 0) {out : List Int} (hd : Down t L out) (hs : out.sum ≤ t) : (out = lens t L ∧ out.sum = t) ∨ (out = wants t L ∧ 0 < left t L ∧ out.sum < t) := by
  obtain ⟨d1, d2, d3, d4⟩ := hd
  have hl : left t L = t - (wants t L).sum := rfl
  have hwp := wants_pos t L (err_zero he).2.2.1
  rcases d4 with ⟨f1, f2, f3⟩ | ⟨f1, f2⟩
  · have e : out.sum = t := by omega
    refine .inl ⟨?_, e⟩
    rw [e, Int.sub_self, less_zero _ d2] at f3
    unfold lens
    by_cases h : left t L < 0
    · rw [if_pos h, show -(left t L) = (wants t L).sum - t by omega, ← f3]
    · rw [if_neg h]
      have h0 : left t L = 0 := by omega
      rw [show (wants t L).sum - t = 0 by omega, less_zero _ hwp] at f3
      have ho : out = wants t L := congrArg Prod.fst f3
      unfold spreadAll each more
      rw [h0, Int.zero_ediv, Int.zero_emod, spread_none]
      exact ho
  · exact .inr ⟨f1, by omega, by rw [f1]; exact f2⟩
/-! ### one cell more, again and again -/
theorem part_inc (M : Int) (hM : 0 < M) (x : Int) (j : Nat) (hj : (j : Int) < M) : part ((x + 1) / M) ((x + 1) % M) j = part (x / M) (x % M) j + (if (j : Int) = x % M then 1 else 0) := by
  have e1 := Int.mul_ediv_add_emod x M
  have e2 := Int.emod_nonneg x (b := M) (by omega)
  have e3 := Int.emod_lt_of_pos x (b := M) hM
  by_cases h : x % M + 1 < M
  · have q1 : (x + 1) / M = x / M := by
      rw [← e1, show M * (x / M) + x % M + 1 = (x % M + 1) + M * (x / M) by omega, Int.add_mul_ediv_left _ _ (by omega), Int.ediv_eq_zero_of_lt (by omega) h]
      rw [e1]
      omega
    have q2 : (x + 1) % M = x % M + 1 := by
      have := Int.mul_ediv_add_emod (x + 1) M
      rw [q1] at this
      omega
    rw [q1, q2]
    unfold part
    split <;> split <;> split <;> omega
  · have h' : x % M + 1 = M := by omega
    have q1 : (x + 1) / M = x / M + 1 := by
      have : x + 1 = M * (x / M + 1) := by rw [Int.mul_add]; omega
      rw [this, Int.mul_ediv_cancel_left _ (by omega)]
    have q2 : (x + 1) % M = 0 := by
      have := Int.mul_ediv_add_emod (x + 1) M
      rw [q1, Int.mul_add] at this
      omega
    rw [q1, q2]
    unfold part
    split <;> split <;> split <;> omega
/-- the lengths when n cells have been shared out -/
def upAt (t : Int) (L : List Sz) (n : Nat) : List Int := spread ((n : Int) / ((lasts L).length : Int)) ((n : Int) % ((lasts L).length : Int)) 0 (lasts L) (wants t L)
/-- the place that gets the next one -/
def upPos (L : List Sz) (n : Nat) : Nat := (lasts L).getD (n % (lasts L).length) 0
theorem upAt_zero (t : Int) (L : List Sz) : upAt t L 0 = wants t L := by
  unfold upAt
  rw [show ((0 : Nat) : Int) = 0 from rfl, Int.zero_ediv, Int.zero_emod, spread_none]
theorem upAt_len (t : Int) (L : List Sz) (n : Nat) : (upAt t L n).length = L.length := by unfold upAt; rw [spread_len, wants_len]
theorem upPos_lt (L : List Sz) (n : Nat) (h0 : L.length ≠ 0) : upPos L n < L.length := by
  have hM := lasts_pos L
  have hlt := Nat.mod_lt n hM
  unfold upPos
  rw [show (lasts L).getD (n % (lasts L).length) 0 = (lasts L)[n % (lasts L).length] by simp [List.getD, hlt]]
  exact lasts_lt L h0 _ (List.getElem_mem hlt)
theorem upAt_next (t : Int) (L : List Sz) (n : Nat) (h0 : L.length ≠ 0) : upAt t L (n + 1) = add (upAt t L n) (upPos L n) 1 := by
  have hM := lasts_pos L
  have hlt := Nat.mod_lt n hM
  have hpos : upPos L n = (lasts L)[n % (lasts L).length] := by unfold upPos; simp [List.getD, hlt]
  have hso := lasts_sorted L
  have hll : ∀ p ∈ lasts L, p < (wants t L).length := fun p hp => by rw [wants_len]; exact lasts_lt L h0 p hp
  have hmod : ((n % (lasts L).length : Nat) : Int) = (n : Int) % ((lasts L).length : Int) := by simp
  refine same_all (n := L.length) (upAt_len t L (n + 1)) (by rw [add_len, upAt_len]) fun q hq => ?_
  by_cases hm : q ∈ lasts L
  · obtain ⟨j, hj, e⟩ := List.mem_iff_getElem.1 hm
    have hp := fun e' m' => spread_in e' m' (lasts L) 0 (wants t L) j hj hso hll
    have hinc := part_inc ((lasts L).length : Int) (by omega) (n : Int) j (by omega)
    have ha : (upAt t L (n + 1)).getD q 0 = (wants t L).getD q 0 + part (((n : Int) + 1) / ((lasts L).length : Int)) (((n : Int) + 1) % ((lasts L).length : Int)) j := by
      unfold upAt
      rw [← e, hp, Nat.zero_add, show ((n + 1 : Nat) : Int) = (n : Int) + 1 by omega]
    have hb : (upAt t L n).getD q 0 = (wants t L).getD q 0 + part ((n : Int) / ((lasts L).length : Int)) ((n : Int) % ((lasts L).length : Int)) j := by
      unfold upAt
      rw [← e, hp, Nat.zero_add]
    rw [ha, hinc]
    by_cases hjn : j = n % (lasts L).length
    · have hq2 : q = upPos L n := by rw [hpos, ← e]; simp [hjn]
      rw [if_pos (by omega), ← hq2, add_same _ _ _ (by rw [upAt_len]; exact hq), hb]
      omega
    · have hq2 : upPos L n ≠ q := by
        rw [hpos, ← e]
        intro h
        rcases Nat.lt_or_gt_of_ne hjn with h' | h'
        · have := List.pairwise_iff_getElem.1 hso j (n % (lasts L).length) hj hlt h'; omega
        · have := List.pairwise_iff_getElem.1 hso (n % (lasts L).length) j hlt hj h'; omega
      rw [if_neg (by omega), add_other _ _ _ _ hq2, hb]
      omega
  · have hq2 : upPos L n ≠ q := fun h => hm (by rw [← h, hpos]; exact List.getElem_mem hlt)
    rw [add_other _ _ _ _ hq2]
    unfold upAt
    rw [spread_out _ _ _ _ _ _ hm, spread_out _ _ _ _ _ _ hm]
/-- the document's lengths while there is too little -/
def Up (t : Int) (L : List Sz) (n : Nat) (out : List Int) : Prop := out.length = L.length ∧ ((out = lens t L ∧ out.sum = t) ∨ ((n : Int) < left t L ∧ out = upAt t L n ∧ out.sum + (left t L - n) = t))
theorem up_start {t : Int} {L : List Sz} (he : err t L = 0) {out : List Int} (hd : Down t L out) (hs : out.sum ≤ t) : Up t L 0 out := by
  refine ⟨hd.1, ?_⟩
  rcases down_end he hd hs with h | ⟨h1, h2, h3⟩
  · exact .inl h
  · refine .inr ⟨h2, by rw [upAt_zero]; exact h1, ?_⟩
    have hl : left t L = t - (wants t L).sum := rfl
    rw [h1, hl]
    simp
    omega
theorem up_next {t : Int} {L : List Sz} (he : err t L = 0) {n : Nat} {out : List Int} (hu : Up t L n out) (hs : out.sum < t) : Up t L (n + 1) (add out (upPos L n) 1) ∧ (n : Int) < left t L := by
  obtain ⟨h0, _, _, _, _⟩ := err_zero he
  obtain ⟨u1, ⟨_, u3⟩ | ⟨u2, u3, u4⟩⟩ := hu
  · omega
  · have hsum : (add out (upPos L n) 1).sum = out.sum + 1 := by rw [add_sum _ _ _ (by rw [u1]; exact upPos_lt L n h0)]
    refine ⟨⟨by rw [add_len, u1], ?_⟩, u2⟩
    have hnx : add out (upPos L n) 1 = upAt t L (n + 1) := by rw [u3, upAt_next t L n h0]
    by_cases hl : ((n + 1 : Nat) : Int) = left t L
    · refine .inl ⟨?_, by omega⟩
      rw [hnx]
      unfold lens spreadAll each more upAt
      rw [if_neg (by omega), hl]
    · exact .inr ⟨by omega, hnx, by omega⟩
theorem up_end {t : Int} {L : List Sz} {n : Nat} {out : List Int} (hu : Up t L n out) (hs : t ≤ out.sum) : out = lens t L := by
  obtain ⟨_, ⟨u2, _⟩ | ⟨u2, _, u4⟩⟩ := hu
  · exact u2
  · omega
end sl
end Go.Proofs.Yteilaoiimlpbkaa
