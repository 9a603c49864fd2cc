/- The program's clock and the document's, on lists. -/
import Derived.Test.YtfelmnhhldgobaaTmRef5
import Derived.Test.YtfelmnhhldgobaaTmDropG
namespace Go.Proofs.Ytfelmnhhldgobaa
open Go.RowKit
namespace tm
/-- lists of timers that are the same, one in heap order -/
structure Sl (l m : List T) : Prop where
  hp : Hp l l.length
  pm : l.Perm m
  ids : (m.map T.id).Nodup
  idb : ∀ t, t ∈ m → 1 ≤ t.id
  own : ∀ t, t ∈ m → 1 ≤ t.owner
  bds : ∀ t, t ∈ l → isT t.due = true ∧ isT t.every = true
theorem eq_of_id {m : List T} (h : (m.map T.id).Nodup) {a b : T} (ha : a ∈ m) (hb : b ∈ m) (e : a.id = b.id) : a = b := by
  induction m with
  | nil => cases ha
  | cons x m ih =>
    rw [List.map_cons, List.nodup_cons] at h
    rcases List.mem_cons.1 ha with e1 | a2
    · rcases List.mem_cons.1 hb with e2 | b2
      · rw [e1, e2]
      · exact absurd (by rw [← e1, e]; exact List.mem_map_of_mem b2) h.1
    · rcases List.mem_cons.1 hb with e2 | b2
      · exact absurd (by rw [← e2, ← e]; exact List.mem_map_of_mem a2) h.1
      · exact ih h.2 a2 b2
/-- two that are least are one -/
theorem least_one {m : List T} (h : (m.map T.id).Nodup) {a b : T} (ha : a ∈ m) (hb : b ∈ m) (h1 : lt a b = false) (h2 : lt b a = false) : a = b := by
  refine eq_of_id h ha hb ?_
  have n1 : ¬ (a.due < b.due ∨ a.due = b.due ∧ a.id < b.id) := fun x => by rw [(lt_iff _ _).2 x] at h1; cases h1
  have n2 : ¬ (b.due < a.due ∨ b.due = a.due ∧ b.id < a.id) := fun x => by rw [(lt_iff _ _).2 x] at h2; cases h2
  omega
theorem wo_id {m : List T} (h : (m.map T.id).Nodup) (ho : ∀ t, t ∈ m → 1 ≤ t.owner) {t : T} (ht : t ∈ m) : (t :: wo t.id 0 m).Perm m := by
  induction m with
  | nil => cases ht
  | cons x m ih =>
    rw [List.map_cons, List.nodup_cons] at h
    have ho' := fun u hu => ho u (List.mem_cons_of_mem _ hu)
    rcases List.mem_cons.1 ht with rfl | ht
    · have e : wo t.id 0 (t :: m) = m := by
        unfold wo
        rw [List.filter_cons_of_neg (by simp)]
        rw [List.filter_eq_self]
        intro u hu
        have h1 : u.id ≠ t.id := fun e => h.1 (e ▸ List.mem_map_of_mem hu)
        have h2 := ho' u hu
        have h3 : u.owner ≠ 0 := by omega
        simp [h1, h3]
      rw [e]
    · have hx : x.id ≠ t.id := fun e => h.1 (e ▸ List.mem_map_of_mem ht)
      have hxo : x.owner ≠ 0 := by have := ho x (List.mem_cons_self ..); omega
      have e : wo t.id 0 (x :: m) = x :: wo t.id 0 m := by
        unfold wo
        rw [List.filter_cons_of_pos (by simp [hx, hxo])]
      rw [e]
      exact (List.Perm.swap x t _).trans ((ih h.2 ho' ht).cons x)
theorem wo_same {m : List T} {x : Int} (ho : ∀ t, t ∈ m → 1 ≤ t.owner) (h : ∀ t, t ∈ m → t.id ≠ x) : wo x 0 m = m := by
  unfold wo
  rw [List.filter_eq_self]
  intro u hu
  have h2 := ho u hu
  have h3 : u.owner ≠ 0 := by omega
  simp [h u hu, h3]
theorem Sl.first {l m : List T} (h : Sl l m) (hl : 0 < l.length) : ∃ i : Nat, fst m = (i : Int) ∧ i < m.length ∧ ix m i = ix l 0 := by
  have hlm := h.pm.length_eq
  rcases fstN_bd m m.length with ⟨e, _⟩ | ⟨i, e, hi⟩
  · omega
  · refine ⟨i, e, hi, ?_⟩
    have m1 : ix m i ∈ m := by rw [ix_get hi]; exact List.getElem_mem hi
    have m2 : ix l 0 ∈ l := by rw [ix_get hl]; exact List.getElem_mem hl
    refine least_one h.ids m1 (h.pm.mem_iff.1 m2) ?_ ?_
    · have m1' := h.pm.mem_iff.2 m1
      obtain ⟨j, hj, ej⟩ := List.getElem_of_mem m1'
      rw [← ej, ← ix_get hj]
      exact root_least l l.length h.hp j j (Nat.le_refl _) hj
    · have m2' := h.pm.mem_iff.1 m2
      obtain ⟨j, hj, ej⟩ := List.getElem_of_mem m2'
      have := fstN_least m m.length j hj
      rw [show fstN m m.length = (i : Int) from e, Int.toNat_natCast] at this
      rw [← ej, ← ix_get hj]
      exact this
theorem Sl.cons {l m : List T} (h : Sl l m) (t : T) (hid : t.id ∉ m.map T.id) (h1 : 1 ≤ t.id) (ho : 1 ≤ t.owner) (hb : isT t.due = true ∧ isT t.every = true) : Sl (push l t) (m ++ [t]) := by
  have hp := push_perm l t
  refine ⟨by rw [push_len]; exact push_heap l t h.hp, hp.trans ((h.pm.cons t).trans (List.perm_append_comm (l₁ := [t]) (l₂ := m))), ?_, fun u hu => ?_, fun u hu => ?_, fun u hu => ?_⟩
  · rw [List.map_append, List.nodup_append]
    refine ⟨h.ids, by simp, fun a ha b hb e => ?_⟩
    rw [List.map_singleton, List.mem_singleton] at hb
    subst hb
    exact hid (e ▸ ha)
  · rcases List.mem_append.1 hu with a | a
    · exact h.idb u a
    · rw [List.mem_singleton.1 a]; exact h1
  · rcases List.mem_append.1 hu with a | a
    · exact h.own u a
    · rw [List.mem_singleton.1 a]; exact ho
  · rcases List.mem_cons.1 (hp.mem_iff.1 hu) with rfl | a
    · exact hb
    · exact h.bds u a
/-- one less -/
theorem Sl.less {l m l' : List T} (h : Sl l m) {t : T} (hp : Hp l' l'.length) (ht : t ∈ m) (hl : (t :: l').Perm l) : Sl l' (wo t.id 0 m) := by
  have hw := wo_id h.ids h.own ht
  have hsub : ∀ u, u ∈ wo t.id 0 m → u ∈ m := fun u hu => (List.mem_filter.1 hu).1
  refine ⟨hp, (List.Perm.cons_inv (hl.trans (h.pm.trans hw.symm))), ?_, fun u hu => h.idb u (hsub u hu), fun u hu => h.own u (hsub u hu), fun u hu => h.bds u (hl.mem_iff.1 (List.mem_cons_of_mem _ hu))⟩
  exact h.ids.sublist (List.Sublist.map T.id (List.filter_sublist ..))
theorem Sl.tell {l m : List T} (h : Sl l m) (hl : 0 < l.length) : Sl (rl l) (rstep m (tl l)) ∧ tl l = ix l 0 := by
  have e0 : tl l = ix l 0 := tell_first ⟨0, 0, l⟩ hl
  have hp := pop_perm l (l.length - 1) (by omega)
  have hk := popL_last l (l.length - 1) (by omega)
  have hh := pop_heap l (l.length - 1) (by omega) (by rw [show l.length - 1 + 1 = l.length by omega]; exact h.hp)
  have hrl := rest_len ⟨0, 0, l⟩
  have ht : tl l ∈ m := h.pm.mem_iff.1 (tell_mem (s := ⟨0, 0, l⟩) hl)
  have et : ix (popL l) (l.length - 1) = tl l := rfl
  rw [et] at hp
  have hs := h.less (l' := (popL l).take (l.length - 1)) (by rw [hrl]; exact hh) ht hp
  have hb := h.bds _ (h.pm.mem_iff.2 ht)
  have hbd := (isT_iff _).1 hb.1
  have hbe := (isT_iff _).1 hb.2
  refine ⟨?_, e0⟩
  have er : rl l = if 0 < (tl l).every ∧ isT ((tl l).due + (tl l).every) = true then push ((popL l).take (l.length - 1)) ⟨(tl l).id, (tl l).owner, (tl l).due + (tl l).every, (tl l).every⟩ else (popL l).take (l.length - 1) := rfl
  rw [er]
  unfold rstep
  by_cases hc : 0 < (tl l).every ∧ (tl l).due + (tl l).every ≤ 1099511627776
  · have hT : isT ((tl l).due + (tl l).every) = true := (isT_iff _).2 (by omega)
    rw [if_pos ⟨hc.1, hT⟩, if_pos hc]
    have i1 := h.idb _ ht
    have i2 := h.own _ ht
    refine hs.cons _ ?_ i1 i2 ⟨hT, hb.2⟩
    intro hx
    obtain ⟨u, hu, eu⟩ := List.mem_map.1 hx
    have := (List.mem_filter.1 hu).2
    simp at this
    exact this.1 eu
  · rw [if_neg (fun x => hc ⟨x.1, ((isT_iff _).1 x.2).2⟩), if_neg hc]
    exact hs
theorem Sl.tells {till : Int} : ∀ (n : Nat) (l m : List T), Sl l m → (tellsL n l till).1 = (rp n m till).1 ∧ Sl (tellsL n l till).2 (rp n m till).2
  | 0, _, _, h => ⟨rfl, h⟩
  | n + 1, l, m, h => by
    unfold tellsL rp
    have hlm := h.pm.length_eq
    by_cases hl : 0 < l.length
    · obtain ⟨i, e1, e2, e3⟩ := h.first hl
      obtain ⟨s1, s2⟩ := h.tell hl
      rw [e1, Int.toNat_natCast, e3, ← s2]
      have hc : cm l till = decide (0 < l.length ∧ (ix l 0).due ≤ till) := rfl
      rw [hc]
      by_cases hd : (ix l 0).due ≤ till
      · rw [if_pos (decide_eq_true ⟨hl, hd⟩), if_neg (by rw [s2]; omega)]
        obtain ⟨a, b⟩ := Sl.tells n _ _ s1
        exact ⟨by rw [a], b⟩
      · rw [if_neg (by rw [decide_eq_false (fun x => hd x.2)]; decide), if_pos (by rw [s2]; omega)]
        exact ⟨rfl, h⟩
    · have hc : cm l till = false := decide_eq_false (fun x => hl x.1)
      rw [hc, if_neg (by decide), if_pos (by omega)]
      exact ⟨rfl, h⟩
theorem up_out (x : Nat) : ∀ (f : Nat) (l : List T) (j : Nat), j < x → x < l.length → ix (up f l j) x = ix l x
  | 0, _, _, _, _ => rfl
  | f + 1, l, j, h, hx => by
    unfold up
    split
    · rfl
    split
    · rw [up_out x f _ _ (by omega) (by rw [sw_len]; exact hx), sw_ix l _ j x (by omega) (by omega), if_neg (by omega), if_neg (by omega)]
    · rfl
theorem remove_perm (l : List T) (i : Nat) (h : i < l.length) : (ix l i :: remove l i).Perm l := by
  have hp := removeM_perm l i h
  have hln := removeM_len l i h
  have e : ix (removeM l i) (l.length - 1) = ix l i := by
    unfold removeM
    split
    · rename_i hc; rw [hc]
    · rename_i hc
      have hd : ix (down (l.length + 1) (sw l i (l.length - 1)) i (l.length - 1)).1 (l.length - 1) = ix l i := by
        rw [down_out (l.length - 1) (l.length - 1) (Nat.le_refl _) _ _ _ (by rw [sw_len]; omega), sw_ix l i (l.length - 1) (l.length - 1) h (by omega), if_pos rfl]
      split
      · exact hd
      · rw [up_out _ _ _ _ (by omega) (by rw [down_len, sw_len]; omega)]
        exact hd
  have e2 : removeM l i = remove l i ++ [ix l i] := by
    conv => lhs; rw [← List.take_append_drop (l.length - 1) (removeM l i)]
    unfold remove
    congr 1
    rw [List.drop_eq_getElem_cons (by omega), List.drop_of_length_le (by omega), ← e, ix_get (by omega)]
  refine List.Perm.trans ?_ hp
  rw [e2]
  exact List.perm_append_comm (l₁ := [ix l i]) (l₂ := remove l i)
theorem remove_len (l : List T) (i : Nat) (h : i < l.length) : (remove l i).length = l.length - 1 := by
  have := (remove_perm l i h).length_eq
  simp only [List.length_cons] at this
  omega
/-- sorted: what is there, in order -/
theorem srt_spec : ∀ (f : Nat) (m : List T), m.length ≤ f → (m.map T.id).Nodup → (∀ t, t ∈ m → 1 ≤ t.owner) → (srt f m).Perm m ∧ (srt f m).Pairwise (fun a b => lt b a = false)
  | 0, m, h, _, _ => by
    obtain rfl : m = [] := List.length_eq_zero_iff.1 (by omega)
    exact ⟨List.Perm.refl _, List.Pairwise.nil⟩
  | f + 1, m, h, hn, ho => by
    unfold srt
    split
    · rename_i h0
      obtain rfl : m = [] := List.length_eq_zero_iff.1 h0
      exact ⟨List.Perm.refl _, List.Pairwise.nil⟩
    · rename_i h0
      rcases fstN_bd m m.length with ⟨e, _⟩ | ⟨i, e, hi⟩
      · omega
      · rw [show fst m = (i : Int) from e, Int.toNat_natCast]
        have hm : ix m i ∈ m := by rw [ix_get hi]; exact List.getElem_mem hi
        have hw := wo_id hn ho hm
        have hl := wo_less m 0 i hi
        obtain ⟨a, b⟩ := srt_spec f (wo (ix m i).id 0 m) (by omega) (hn.sublist (List.Sublist.map T.id (List.filter_sublist ..))) (fun t ht => ho t (List.mem_filter.1 ht).1)
        refine ⟨(a.cons _).trans hw, List.pairwise_cons.2 ⟨fun u hu => ?_, b⟩⟩
        have hu' := (List.mem_filter.1 (a.mem_iff.1 hu)).1
        obtain ⟨j, hj, ej⟩ := List.getElem_of_mem hu'
        have := fstN_least m m.length j hj
        rw [show fstN m m.length = (i : Int) from e, Int.toNat_natCast] at this
        rw [← ej, ← ix_get hj]
        exact this
theorem sorted_eq {m A B : List T} (hn : (m.map T.id).Nodup) (ha : A.Perm m) (hb : B.Perm m) (sa : A.Pairwise (fun a b => lt b a = false)) (sb : B.Pairwise (fun a b => lt b a = false)) : A = B := by
  refine List.Perm.eq_of_pairwise (le := fun a b => lt b a = false) ?_ sa sb (ha.trans hb.symm)
  intro a b h1 h2 h3 h4
  exact least_one hn (ha.mem_iff.1 h1) (hb.mem_iff.1 h2) h4 h3
end tm
end Go.Proofs.Ytfelmnhhldgobaa
