/- Heap order on lists: up and down keep it. -/
import Derived.Test.YtfelmnhhldgobaaTmMath2
namespace Go.Proofs.Ytfelmnhhldgobaa
open Go.RowKit
namespace tm
theorem lt_trans' {a b c : T} (h1 : lt b a = false) (h2 : lt c b = false) : lt c a = false := by
  cases h : lt c a with
  | false => rfl
  | true =>
    have h3 := (lt_iff _ _).1 h
    have n1 : ¬ (b.due < a.due ∨ b.due = a.due ∧ b.id < a.id) := fun e => by rw [(lt_iff _ _).2 e] at h1; cases h1
    have n2 : ¬ (c.due < b.due ∨ c.due = b.due ∧ c.id < b.id) := fun e => by rw [(lt_iff _ _).2 e] at h2; cases h2
    omega
theorem lt_asymm' {a b : T} (h : lt a b = true) : lt b a = false := by
  cases h2 : lt b a with
  | false => rfl
  | true =>
    have h3 := (lt_iff _ _).1 h
    have h4 := (lt_iff _ _).1 h2
    omega
theorem sw_ix (l : List T) (i j k : Nat) (hi : i < l.length) (hj : j < l.length) : ix (sw l i j) k = if k = j then ix l i else if k = i then ix l j else ix l k := by
  unfold sw ix
  simp only [List.getD_eq_getElem?_getD, List.getElem?_set, List.length_set]
  by_cases h1 : k = j
  · subst h1
    simp [hj]
  · rw [if_neg (Ne.symm h1), if_neg h1]
    by_cases h2 : k = i
    · subst h2
      simp [hi]
    · rw [if_neg (Ne.symm h2), if_neg h2]
/-- in order: no timer below the one ahead of it -/
def Hp (l : List T) (n : Nat) : Prop := ∀ i, 0 < i → i < n → lt (ix l i) (ix l ((i - 1) / 2)) = false
theorem up_heap (n : Nat) : ∀ (f : Nat) (l : List T) (j : Nat), n ≤ l.length → j < n → j < f → (∀ i, 0 < i → i < n → i ≠ j → lt (ix l i) (ix l ((i - 1) / 2)) = false) → (∀ c, 0 < c → c < n → (c - 1) / 2 = j → 0 < j → lt (ix l c) (ix l ((j - 1) / 2)) = false) → Hp (up f l j) n
  | 0, _, _, _, _, h, _, _ => by omega
  | f + 1, l, j, hn, hj, hf, h1, h2 => by
    unfold up
    split
    · rename_i h
      intro i hi hin
      exact h1 i hi hin (by omega)
    · rename_i h
      obtain ⟨p, hp⟩ : ∃ p, (j - 1) / 2 = p := ⟨_, rfl⟩
      rw [hp]
      have hpj : p < j := by omega
      split
      · rename_i hlt
        have hs := fun k => sw_ix l p j k (by omega) (by omega)
        refine up_heap n f (sw l p j) p (by rw [sw_len]; exact hn) (by omega) (by omega) (fun i hi hin hne => ?_) (fun c hc hcn hcp hp0 => ?_)
        · obtain ⟨q, hq⟩ : ∃ q, (i - 1) / 2 = q := ⟨_, rfl⟩
          rw [hq, hs, hs]
          have hqi : q < i := by omega
          by_cases e1 : i = j
          · subst e1
            obtain rfl : q = p := by omega
            rw [if_pos rfl, if_neg (by omega), if_pos rfl]
            exact lt_asymm' hlt
          · rw [if_neg e1, if_neg hne]
            have hio := h1 i hi hin e1
            rw [hq] at hio
            by_cases e2 : q = j
            · subst e2
              rw [if_pos rfl]
              have := h2 i hi hin hq (by omega)
              rwa [hp] at this
            · rw [if_neg e2]
              by_cases e3 : q = p
              · subst e3
                rw [if_pos rfl]
                exact lt_trans' (lt_asymm' hlt) hio
              · rw [if_neg e3]
                exact hio
        · obtain ⟨q, hq⟩ : ∃ q, (p - 1) / 2 = q := ⟨_, rfl⟩
          have hpp := h1 p hp0 (by omega) (by omega)
          rw [hq] at hpp ⊢
          rw [hs, hs, if_neg (show ¬ q = j by omega), if_neg (show ¬ q = p by omega)]
          by_cases e1 : c = j
          · rw [if_pos e1]
            exact hpp
          · rw [if_neg e1, if_neg (show ¬ c = p by omega)]
            have hcc := h1 c hc hcn e1
            rw [hcp] at hcc
            exact lt_trans' hpp hcc
      · rename_i hlt
        intro i hi hin
        by_cases e : i = j
        · subst e
          rw [hp]
          exact Bool.eq_false_iff.2 hlt
        · exact h1 i hi hin e
theorem push_heap (l : List T) (t : T) (h : Hp l l.length) : Hp (push l t) (l.length + 1) := by
  refine up_heap (l.length + 1) _ _ _ (by simp) (by omega) (by omega) (fun i hi hin hne => ?_) (fun c hc hcn hcp _ => by omega)
  have e : ∀ k, k < l.length → ix (l ++ [t]) k = ix l k := fun k hk => by
    unfold ix
    rw [List.getD_eq_getElem?_getD, List.getD_eq_getElem?_getD, List.getElem?_append_left hk]
  rw [e i (by omega), e _ (by omega)]
  exact h i hi (by omega)
theorem lt_irrefl' (a : T) : lt a a = false := by
  cases h : lt a a with
  | false => rfl
  | true => have := (lt_iff _ _).1 h; omega
theorem kid_least (l : List T) (i n c : Nat) (hc : 0 < c) (hcn : c < n) (hp : (c - 1) / 2 = i) : lt (ix l c) (ix l (kid l i n)) = false := by
  have h2 : c = 2 * i + 1 ∨ c = 2 * i + 2 := by omega
  unfold kid
  split
  · rename_i hk
    rcases h2 with rfl | rfl
    · exact lt_asymm' hk.2
    · exact lt_irrefl' _
  · rename_i hk
    rcases h2 with rfl | rfl
    · exact lt_irrefl' _
    · exact Bool.eq_false_iff.2 fun e => hk ⟨hcn, e⟩
theorem kid_par (l : List T) (i n : Nat) : (kid l i n - 1) / 2 = i ∧ 0 < kid l i n := by
  unfold kid
  split
  · omega
  · omega
theorem down_ge : ∀ (f : Nat) (l : List T) (i n : Nat), i ≤ (down f l i n).2
  | 0, _, _, _ => Nat.le_refl _
  | f + 1, l, i, n => by
    unfold down
    split
    · exact Nat.le_refl _
    · rename_i h
      have := kid_le l i n h
      split
      · have := down_ge f (sw l i (kid l i n)) (kid l i n) n
        omega
      · exact Nat.le_refl _
theorem down_heap (n k : Nat) : ∀ (f : Nat) (l : List T) (i : Nat), n ≤ l.length → n ≤ i + f → (∀ c, 0 < c → c < n → k ≤ (c - 1) / 2 → (c - 1) / 2 ≠ i → c ≠ i → lt (ix l c) (ix l ((c - 1) / 2)) = false) → (∀ c, 0 < c → c < n → (c - 1) / 2 = i → 0 < i → k ≤ (i - 1) / 2 → lt (ix l c) (ix l ((i - 1) / 2)) = false) →
    ((down f l i n).2 = i → (down f l i n).1 = l) ∧ ∀ c, 0 < c → c < n → k ≤ (c - 1) / 2 → (c ≠ i ∨ i < (down f l i n).2) → lt (ix (down f l i n).1 c) (ix (down f l i n).1 ((c - 1) / 2)) = false
  | 0, l, i, hn, hf, hA, hB => ⟨fun _ => rfl, fun c hc hcn hk hi => by
    have e : (down 0 l i n) = (l, i) := rfl
    rw [e] at hi ⊢
    exact hA c hc hcn hk (by omega) (by omega)⟩
  | f + 1, l, i, hn, hf, hA, hB => by
    by_cases h : n ≤ 2 * i + 1
    · have e : down (f + 1) l i n = (l, i) := by unfold down; rw [if_pos h]
      rw [e]
      exact ⟨fun _ => rfl, fun c hc hcn hk hi => hA c hc hcn hk (by omega) (by rcases hi with a | a <;> omega)⟩
    · obtain ⟨K, hK⟩ : ∃ K, kid l i n = K := ⟨_, rfl⟩
      have hl := fun c hc hcn hp => kid_least l i n c hc hcn hp
      have hle := kid_le l i n h
      have hpr := kid_par l i n
      rw [hK] at hle hpr
      simp only [hK] at hl
      cases hlt : lt (ix l K) (ix l i) with
      | false =>
        have e : down (f + 1) l i n = (l, i) := by unfold down; rw [if_neg h, hK, if_neg (by rw [hlt]; decide)]
        rw [e]
        refine ⟨fun _ => rfl, fun c hc hcn hk hi => ?_⟩
        by_cases hp : (c - 1) / 2 = i
        · rw [hp]
          exact lt_trans' hlt (hl c hc hcn hp)
        · exact hA c hc hcn hk hp (by rcases hi with a | a <;> omega)
      | true =>
        have e : down (f + 1) l i n = down f (sw l i K) K n := by
          conv => lhs; unfold down
          rw [if_neg h, hK, if_pos hlt]
        rw [e]
        have hs := fun x => sw_ix l i K x (by omega) (by omega)
        have hge := down_ge f (sw l i K) K n
        obtain ⟨r1, r2⟩ := down_heap n k f (sw l i K) K (by rw [sw_len]; exact hn) (by omega) (fun c hc hcn hk hp hcK => by
          obtain ⟨q, hq⟩ : ∃ q, (c - 1) / 2 = q := ⟨_, rfl⟩
          rw [hq] at hp hk ⊢
          rw [hs, hs, if_neg hcK, if_neg hp]
          by_cases e1 : c = i
          · rw [if_pos e1, if_neg (show ¬ q = i by omega)]
            have := hB K hpr.2 hle.2 hpr.1 (by omega) (by rw [← e1, hq]; exact hk)
            rw [← e1, hq] at this
            exact this
          · rw [if_neg e1]
            by_cases e2 : q = i
            · rw [if_pos e2]
              exact hl c hc hcn (hq.trans e2)
            · rw [if_neg e2]
              have := hA c hc hcn (by rw [hq]; exact hk) (by rw [hq]; exact e2) e1
              rwa [hq] at this) (fun c hc hcn hp hK0 hk => by
          rw [hpr.1] at hk ⊢
          rw [hs, hs, if_neg (show ¬ c = K by omega), if_neg (show ¬ c = i by omega), if_neg (show ¬ i = K by omega), if_pos rfl]
          have := hA c hc hcn (by omega) (by omega) (by omega)
          rwa [hp] at this)
        refine ⟨fun e2 => by omega, fun c hc hcn hk _ => ?_⟩
        by_cases e3 : c = K
        · by_cases e4 : K < (down f (sw l i K) K n).2
          · exact r2 c hc hcn hk (.inr e4)
          · rw [r1 (by omega), e3, hpr.1, hs, hs, if_pos rfl, if_neg (show ¬ i = K by omega), if_pos rfl]
            exact lt_asymm' hlt
        · exact r2 c hc hcn hk (.inl e3)
/-- the first one is least -/
theorem root_least (l : List T) (n : Nat) (h : Hp l n) : ∀ (m i : Nat), i ≤ m → i < n → lt (ix l i) (ix l 0) = false
  | 0, i, hm, _ => by
    obtain rfl : i = 0 := by omega
    exact lt_irrefl' _
  | m + 1, i, hm, hi => by
    by_cases h0 : i = 0
    · subst h0; exact lt_irrefl' _
    · exact lt_trans' (root_least l n h m ((i - 1) / 2) (by omega) (by omega)) (h i (by omega) hi)
theorem down_out (n x : Nat) (hx : n ≤ x) : ∀ (f : Nat) (l : List T) (i : Nat), n ≤ l.length → ix (down f l i n).1 x = ix l x
  | 0, _, _, _ => rfl
  | f + 1, l, i, hn => by
    unfold down
    split
    · rfl
    · rename_i h
      have hk := kid_le l i n h
      split
      · rw [down_out n x hx f _ _ (by rw [sw_len]; exact hn), sw_ix l i _ x (by omega) (by omega), if_neg (by omega), if_neg (by omega)]
      · rfl
theorem popL_last (l : List T) (k : Nat) (h : l.length = k + 1) : ix (popL l) k = ix l 0 := by
  unfold popL
  rw [h, show k + 1 - 1 = k from rfl, down_out k k (Nat.le_refl _) _ _ _ (by rw [sw_len]; omega), sw_ix l 0 k k (by omega) (by omega), if_pos rfl]
theorem take_ix (l : List T) (k i : Nat) (h : i < k) : ix (l.take k) i = ix l i := by
  unfold ix
  rw [List.getD_eq_getElem?_getD, List.getD_eq_getElem?_getD, List.getElem?_take, if_pos h]
theorem pop_heap (l : List T) (k : Nat) (hl : l.length = k + 1) (h : Hp l (k + 1)) : Hp ((popL l).take k) k := by
  intro c hc hcn
  rw [take_ix _ _ _ hcn, take_ix _ _ _ (by omega)]
  unfold popL
  rw [hl, show k + 1 - 1 = k from rfl]
  have hs := fun x => sw_ix l 0 k x (by omega) (by omega)
  refine (down_heap k 0 _ (sw l 0 k) 0 (by rw [sw_len]; omega) (by omega) (fun c hc hcn _ hp _ => ?_) (fun c _ _ _ h0 _ => by omega)).2 c hc hcn (Nat.zero_le _) (.inl (by omega))
  rw [hs, hs, if_neg (by omega), if_neg (by omega), if_neg (by omega), if_neg hp]
  exact h c hc (by omega)
theorem initU_heap : ∀ (k : Nat) (l : List T), (∀ c, 0 < c → c < l.length → k ≤ (c - 1) / 2 → lt (ix l c) (ix l ((c - 1) / 2)) = false) → Hp (initU k l) l.length
  | 0, l, h => fun c hc hcn => h c hc hcn (Nat.zero_le _)
  | k + 1, l, h => by
    have hd := (down_heap l.length k (l.length + 1) l k (Nat.le_refl _) (by omega) (fun c hc hcn hk hp _ => h c hc hcn (by omega)) (fun c _ _ _ _ hk => by omega)).2
    have hl := down_len (l.length + 1) l k l.length
    have := initU_heap k (down (l.length + 1) l k l.length).1 (fun c hc hcn hk => hd c hc (by omega) hk (.inl (by omega)))
    rw [hl] at this
    exact this
theorem init_heap (l : List T) : Hp (init l) l.length := initU_heap _ _ fun c hc hcn hk => by omega
theorem remove_heap (l : List T) (i k : Nat) (hl : l.length = k + 1) (hi : i < k + 1) (h : Hp l (k + 1)) : Hp (remove l i) k := by
  have key : Hp (removeM l i) k := by
    unfold removeM
    rw [hl, show k + 1 - 1 = k from rfl]
    split
    · intro c hc hcn
      exact h c hc (by omega)
    · rename_i hki
      have hs := fun x => sw_ix l i k x (by omega) (by omega)
      have hB : ∀ c, 0 < c → c < k → (c - 1) / 2 = i → 0 < i → lt (ix (sw l i k) c) (ix (sw l i k) ((i - 1) / 2)) = false := fun c hc hcn hp h0 => by
        rw [hs, hs, if_neg (by omega), if_neg (by omega), if_neg (by omega), if_neg (by omega)]
        have a := h c hc (by omega)
        rw [hp] at a
        exact lt_trans' (h i h0 (by omega)) a
      have hA : ∀ c, 0 < c → c < k → (c - 1) / 2 ≠ i → c ≠ i → lt (ix (sw l i k) c) (ix (sw l i k) ((c - 1) / 2)) = false := fun c hc hcn hp hci => by
        rw [hs, hs, if_neg (by omega), if_neg hci, if_neg (by omega), if_neg hp]
        exact h c hc (by omega)
      obtain ⟨r1, r2⟩ := down_heap k 0 (k + 1 + 1) (sw l i k) i (by rw [sw_len]; omega) (by omega) (fun c hc hcn _ hp hci => hA c hc hcn hp hci) (fun c hc hcn hp h0 _ => hB c hc hcn hp h0)
      have hge := down_ge (k + 1 + 1) (sw l i k) i k
      split
      · rename_i hlt
        exact fun c hc hcn => r2 c hc hcn (Nat.zero_le _) (.inr hlt)
      · rename_i hlt
        have e := r1 (by omega)
        rw [e] at r2 ⊢
        exact up_heap k _ _ i (by rw [sw_len]; omega) (by omega) (by omega) (fun c hc hcn hne => r2 c hc hcn (Nat.zero_le _) (.inl hne)) (fun c hc hcn hp h0 => hB c hc hcn hp h0)
  intro c hc hcn
  unfold remove
  rw [hl, show k + 1 - 1 = k from rfl, take_ix _ _ _ hcn, take_ix _ _ _ (by omega)]
  exact key c hc hcn
theorem tell_first (s : St) (h : 0 < s.l.length) : (tellR s).1 = ix s.l 0 := popL_last s.l (s.l.length - 1) (by omega)
/-- none is ahead of the one that is told -/
theorem tell_least (s : St) (h : 0 < s.l.length) (hh : Hp s.l s.l.length) (t : T) (ht : t ∈ s.l) : lt t (tellR s).1 = false := by
  rw [tell_first s h]
  obtain ⟨i, hi, rfl⟩ := List.getElem_of_mem ht
  rw [← ix_get hi]
  exact root_least s.l s.l.length hh i i (Nat.le_refl _) hi
theorem tell_heap (s : St) (h : 0 < s.l.length) (hh : Hp s.l s.l.length) : Hp (tellR s).2.l (tellR s).2.l.length := by
  have hr := pop_heap s.l (s.l.length - 1) (by omega) (by rw [show s.l.length - 1 + 1 = s.l.length by omega]; exact hh)
  have hl := rest_len s
  unfold tellR
  simp only
  split
  · rw [push_len, hl]
    have := push_heap ((popL s.l).take (s.l.length - 1)) ⟨(ix (popL s.l) (s.l.length - 1)).id, (ix (popL s.l) (s.l.length - 1)).owner, (ix (popL s.l) (s.l.length - 1)).due + (ix (popL s.l) (s.l.length - 1)).every, (ix (popL s.l) (s.l.length - 1)).every⟩ (by rw [hl]; exact hr)
    rwa [hl] at this
  · rw [hl]; exact hr
theorem set_heap (s : St) (o n e : Int) (hh : Hp s.l s.l.length) : Hp (setR s o n e).2.l (setR s o n e).2.l.length := by
  unfold setR
  split
  · exact hh
  split
  · exact hh
  · simp only
    rw [push_len]
    exact push_heap _ _ hh
/-- who is there behind a tell: one that was there, or the one that was told, due anew -/
theorem tell_who (s : St) (h : 0 < s.l.length) (x : T) (hx : x ∈ (tellR s).2.l) : x ∈ s.l ∨ (0 < (tellR s).1.every ∧ x = ⟨(tellR s).1.id, (tellR s).1.owner, (tellR s).1.due + (tellR s).1.every, (tellR s).1.every⟩) := by
  have hp := pop_perm s.l (s.l.length - 1) (by omega)
  unfold tellR at hx ⊢
  simp only at hx ⊢
  split at hx
  · rename_i hc
    rcases List.mem_cons.1 ((push_perm _ _).mem_iff.1 hx) with e | hx
    · exact .inr ⟨hc.1, e⟩
    · exact .inl (hp.mem_iff.1 (List.mem_cons_of_mem _ hx))
  · exact .inl (hp.mem_iff.1 (List.mem_cons_of_mem _ hx))
/-- and, where none has a period, the others alone -/
theorem tell_rest (s : St) (h : 0 < s.l.length) (he : (tellR s).1.every = 0) : ((tellR s).1 :: (tellR s).2.l).Perm s.l := by
  have hp := pop_perm s.l (s.l.length - 1) (by omega)
  have e : (tellR s).2.l = (popL s.l).take (s.l.length - 1) := by
    have h2 : ¬ (0 < (ix (popL s.l) (s.l.length - 1)).every ∧ isT ((ix (popL s.l) (s.l.length - 1)).due + (ix (popL s.l) (s.l.length - 1)).every) = true) := fun x => by
      have : (ix (popL s.l) (s.l.length - 1)).every = 0 := he
      omega
    show (if _ then _ else _) = _
    exact if_neg h2
  rw [e]
  exact hp
end tm
end Go.Proofs.Ytfelmnhhldgobaa
