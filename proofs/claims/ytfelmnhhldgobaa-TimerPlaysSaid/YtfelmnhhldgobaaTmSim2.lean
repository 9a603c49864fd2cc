/- The program's clock and the document's, call by call. -/
import Derived.Test.YtfelmnhhldgobaaTmSim
namespace Go.Proofs.Ytfelmnhhldgobaa
open Go.RowKit
namespace tm
structure Sm (s : St) (now made : Int) (m : List T) : Prop where
  good : Good s
  sl : Sl s.l m
  nw : s.now = now
  lst : s.last = made
  md : 0 ≤ made
  idm : ∀ t, t ∈ m → t.id ≤ made
theorem Sm.zero : Sm St.zero 0 0 [] := ⟨Good.zero, ⟨fun i h hi => by simp [St.zero] at hi, List.Perm.refl _, by decide, fun t h => (by cases h), fun t h => (by cases h), fun t h => (by cases h)⟩, rfl, rfl, Int.le_refl _, fun t h => (by cases h)⟩
section
variable {s : St} {now made : Int} {m : List T}
theorem Sm.len (h : Sm s now made m) : m.length ≤ 64 := by rw [← h.sl.pm.length_eq]; exact h.good.len
theorem Sm.bds (h : Sm s now made m) : Bds m := fun t ht => by
  have := h.sl.bds t (h.sl.pm.mem_iff.2 ht)
  exact ⟨(isT_iff _).1 this.1, ((isT_iff _).1 this.2).1, ((isT_iff _).1 this.2).2⟩
theorem Sm.set (h : Sm s now made m) (o i e : Int) : (setR s o i e).1 = (rset now made m o i e).2 ∧ Sm (setR s o i e).2 now (rset now made m o i e).1.1 (rset now made m o i e).1.2 ∧ (rset now made m o i e).1.1 ≤ made + 1 := by
  have hg := h.good.set o i e
  have hlm := h.sl.pm.length_eq
  have hlen := h.good.len
  have hn0 := h.good.n0
  have hnw := h.nw
  have hls := h.lst
  have hmd := h.md
  unfold setR at hg ⊢
  unfold rset
  rw [hnw] at hg ⊢
  by_cases c : o < 1 ∨ isT i = false ∨ isT e = false ∨ isT (now + i) = false
  · have c' : o < 1 ∨ isT i = false ∨ isT e = false ∨ 1099511627776 < now + i := by
      rcases c with a | a | a | a
      · exact .inl a
      · exact .inr (.inl a)
      · exact .inr (.inr (.inl a))
      · cases hi : isT i with
        | false => exact .inr (.inl rfl)
        | true =>
          have hb := (isT_iff i).1 hi
          refine .inr (.inr (.inr ?_))
          have : ¬ (0 ≤ now + i ∧ now + i ≤ 1099511627776) := fun x => by rw [(isT_iff _).2 x] at a; cases a
          omega
    rw [if_pos c, if_pos c']
    exact ⟨rfl, h, by simp only; omega⟩
  · have c' : ¬ (o < 1 ∨ isT i = false ∨ isT e = false ∨ 1099511627776 < now + i) := by
      rintro (a | a | a | a)
      · exact c (.inl a)
      · exact c (.inr (.inl a))
      · exact c (.inr (.inr (.inl a)))
      · refine c (.inr (.inr (.inr ?_)))
        exact Bool.eq_false_iff.2 fun x => by have := (isT_iff _).1 x; omega
    rw [if_neg c, if_neg c']
    rw [if_neg c] at hg
    by_cases c2 : s.l.length = 64
    · rw [if_pos c2, if_pos (by omega)]
      exact ⟨rfl, h, by simp only; omega⟩
    · rw [if_neg c2, if_neg (by omega)]
      rw [if_neg c2] at hg
      simp only [not_or, Bool.not_eq_false] at c
      rw [hls] at hg ⊢
      refine ⟨rfl, ⟨hg, ?_, hnw ▸ rfl, rfl, by simp only; omega, fun t ht => ?_⟩, by simp only; omega⟩
      · refine h.sl.cons _ ?_ (by simp only; omega) (by simp only; omega) ⟨c.2.2.2, c.2.2.1⟩
        intro hx
        obtain ⟨u, hu, eu⟩ := List.mem_map.1 hx
        have := h.idm u hu
        simp only at eu
        omega
      · rcases List.mem_append.1 ht with a | a
        · have := h.idm t a
          simp only
          omega
        · rw [List.mem_singleton.1 a]
          simp
theorem Sm.stop (h : Sm s now made m) (x : Int) : ∃ m', m' = (if 0 < x then wo x 0 m else m) ∧ Sm (stopR s x).2 now made m' ∧ (((stopR s x).1 = 0 ∧ m'.length < m.length) ∨ ((stopR s x).1 = 5 ∧ m'.length = m.length)) := by
  refine ⟨_, rfl, ?_⟩
  have hlm := h.sl.pm.length_eq
  unfold stopR
  rcases find_spec (hasId x) s.l 0 with ⟨e1, e2⟩ | ⟨k, e1, e2, e3, e4⟩
  · rw [if_pos (by omega)]
    have e : (if 0 < x then wo x 0 m else m) = m := by
      split
      · refine wo_same h.sl.own fun t ht e => ?_
        have := e2 t (h.sl.pm.mem_iff.2 ht)
        unfold hasId at this
        rw [e] at this
        simp at this
      · rfl
    rw [e]
    exact ⟨h, .inr ⟨rfl, rfl⟩⟩
  · rw [if_neg (by omega), e1, Nat.zero_add, Int.toNat_natCast]
    have hm : ix s.l k ∈ m := h.sl.pm.mem_iff.1 (by rw [ix_get e2]; exact List.getElem_mem e2)
    have ex : (ix s.l k).id = x := by unfold hasId at e4; simpa using e4
    have h0 : 0 < x := by have := h.sl.idb _ hm; omega
    rw [if_pos h0]
    have hp := remove_perm s.l k e2
    have hl := remove_len s.l k e2
    have hs := h.sl.less (l' := remove s.l k) (by rw [hl]; exact remove_heap s.l k (s.l.length - 1) (by omega) (by omega) (by rw [show s.l.length - 1 + 1 = s.l.length by omega]; exact h.sl.hp)) hm hp
    rw [ex] at hs
    have hl2 := hs.pm.length_eq
    refine ⟨⟨⟨h.good.n0, h.good.n1, by simp only; have := h.good.len; omega, fun t ht => hs.bds t ht⟩, hs, h.nw, h.lst, h.md, fun t ht => h.idm t (List.mem_filter.1 ht).1⟩, .inl ⟨rfl, by omega⟩⟩
theorem Sm.drop (h : Sm s now made m) (x : Int) : ∃ m', m' = (if 0 < x then wo 0 x m else m) ∧ Sm (dropR s x) now made m' ∧ (s.l.length : Int) - ((kp x s.l).length : Int) = (m.length : Int) - (m'.length : Int) := by
  refine ⟨_, rfl, ?_⟩
  have hlm := h.sl.pm.length_eq
  have e : (if 0 < x then wo 0 x m else m) = kp x m := by
    split
    · unfold wo kp hasOwner
      refine List.filter_congr fun t ht => ?_
      have := h.sl.idb t ht
      have h1 : (t.id != 0) = true := by simp; omega
      rw [h1, Bool.true_and]
      rfl
    · rename_i h0
      refine (kp_all fun t ht => ?_).symm
      have := h.sl.own t ht
      unfold hasOwner
      simp
      omega
  rw [e]
  have hp : (kp x s.l).Perm (kp x m) := h.sl.pm.filter _
  have hi := init_perm (kp x s.l)
  have hsub : ∀ t, t ∈ kp x m → t ∈ m := fun t ht => (List.mem_filter.1 ht).1
  have hpp := hi.trans hp
  have hle : (kp x s.l).length ≤ s.l.length := List.length_filter_le _ _
  have hbd : ∀ t, t ∈ init (kp x s.l) → isT t.due = true ∧ isT t.every = true := fun t ht => h.sl.bds t (List.mem_filter.1 (hi.mem_iff.1 ht)).1
  have hll := hi.length_eq
  refine ⟨⟨⟨h.good.n0, h.good.n1, by show (init (kp x s.l)).length ≤ 64; have := h.good.len; omega, hbd⟩, ⟨?_, hpp, h.sl.ids.sublist (List.Sublist.map T.id (List.filter_sublist ..)), fun t ht => h.sl.idb t (hsub t ht), fun t ht => h.sl.own t (hsub t ht), hbd⟩, h.nw, h.lst, h.md, fun t ht => h.idm t (hsub t ht)⟩, by rw [hp.length_eq]; omega⟩
  show Hp (init (kp x s.l)) (init (kp x s.l)).length
  rw [hll]
  exact init_heap _
theorem told_bds {till : Int} : ∀ (n : Nat) (l m : List T), Sl l m → ∀ t, t ∈ (tellsL n l till).1 → isT t.due = true
  | 0, _, _, _, t, ht => by cases ht
  | n + 1, l, m, h, t, ht => by
    unfold tellsL at ht
    split at ht
    · rename_i hc
      have hl : 0 < l.length := (of_decide_eq_true (show decide (0 < l.length ∧ (ix l 0).due ≤ till) = true from hc)).1
      rcases List.mem_cons.1 ht with rfl | ht
      · exact (h.bds _ (tell_mem (s := ⟨0, 0, l⟩) hl)).1
      · exact told_bds n _ _ (h.tell hl).1 t ht
    · cases ht
theorem rp_sub {till : Int} : ∀ (n : Nat) (m : List T) (made : Int), (∀ t, t ∈ m → t.id ≤ made) → ∀ t, t ∈ (rp n m till).2 → t.id ≤ made
  | 0, _, _, h, t, ht => h t ht
  | n + 1, m, made, h, t, ht => by
    unfold rp at ht
    split at ht
    · exact h t ht
    · rename_i hc
      refine rp_sub n _ made (fun u hu => ?_) t ht
      have hm : ix m (fst m).toNat ∈ m := by
        rcases fstN_bd m m.length with ⟨e, _⟩ | ⟨i, e, hi⟩
        · exact absurd (.inl e) hc
        · rw [show fst m = (i : Int) from e, Int.toNat_natCast, ix_get hi]; exact List.getElem_mem hi
      unfold rstep at hu
      split at hu
      · rcases List.mem_append.1 hu with a | a
        · exact h u (List.mem_filter.1 a).1
        · have h9 := h _ hm
          rw [List.mem_singleton.1 a]
          exact h9
      · exact h u (List.mem_filter.1 hu).1
theorem Sm.pass (h : Sm s now made m) (till : Int) : (passR s till).1 = (rpass now m till).2 ∧ Sm (passR s till).2 (rpass now m till).1.1 made (rpass now m till).1.2 := by
  have hn0 := h.good.n0
  have hnw := h.nw
  by_cases c : till < s.now ∨ isT till = false
  · have c' : till < now ∨ 1099511627776 < till := by
      rcases c with a | a
      · exact .inl (by omega)
      · have : ¬ (0 ≤ till ∧ till ≤ 1099511627776) := fun x => by rw [(isT_iff _).2 x] at a; cases a
        omega
    unfold passR rpass
    rw [if_pos c, if_pos c']
    exact ⟨rfl, h⟩
  · have c' : ¬ (till < now ∨ 1099511627776 < till) := by
      rintro (a | a)
      · exact c (.inl (by omega))
      · exact c (.inr (Bool.eq_false_iff.2 fun x => by have := (isT_iff _).1 x; omega))
    have hT : isT till = true := by cases e : isT till with
      | true => rfl
      | false => exact absurd (.inr e) c
    have hb := (isT_iff _).1 hT
    rw [pass_l s till (by omega) hT]
    unfold rpass
    rw [if_neg c']
    obtain ⟨a, b⟩ := Sl.tells (till := till) 16 _ _ h.sl
    have hbd := told_bds (till := till) 16 _ _ h.sl
    have hsub := rp_sub (till := till) 16 m made h.idm
    rw [← a]
    have hgl : (tellsL 16 s.l till).2.length ≤ 64 := by
      have key : ∀ n (s : St), Good s → Good (tellsU n s till).2 := by
        intro n
        induction n with
        | zero => intro s h; exact h
        | succ n ih =>
          intro s h
          unfold tellsU
          split
          · rename_i hc
            exact ih _ (h.tell (by unfold comesB at hc; exact (of_decide_eq_true hc).1))
          · exact h
      have hk := (key 16 s h.good).len
      rwa [tells_l] at hk
    refine ⟨rfl, ⟨?_, b, rfl, h.lst, h.md, hsub⟩⟩
    by_cases h16 : (tellsL 16 s.l till).1.length = 16
    · have h15 := hbd (ix (tellsL 16 s.l till).1 15) (by rw [ix_get (by omega)]; exact List.getElem_mem (by omega))
      have := (isT_iff _).1 h15
      exact ⟨by simp only [if_pos h16]; omega, by simp only [if_pos h16]; omega, hgl, b.bds⟩
    · exact ⟨by simp only [if_neg h16]; omega, by simp only [if_neg h16]; omega, hgl, b.bds⟩
theorem Sm.next (h : Sm s now made m) : (m.length = 0 ∧ nextR s = (0, false) ∧ fst m = -1) ∨ ∃ i : Nat, i < m.length ∧ fst m = (i : Int) ∧ nextR s = ((ix m i).due, true) := by
  have hlm := h.sl.pm.length_eq
  by_cases h0 : s.l.length = 0
  · refine .inl ⟨by omega, by unfold nextR; rw [if_pos h0], ?_⟩
    rcases fstN_bd m m.length with ⟨_, e⟩ | ⟨i, _, hi⟩
    · exact e
    · omega
  · obtain ⟨i, e1, e2, e3⟩ := h.sl.first (by omega)
    exact .inr ⟨i, e2, e1, by unfold nextR; rw [if_neg h0, e3]⟩
theorem Sm.all (h : Sm s now made m) {L : List T} (hp : L.Perm s.l) (hs : L.Pairwise (fun a b => lt b a = false)) : L = srt m.length m := by
  obtain ⟨a, b⟩ := srt_spec m.length m (Nat.le_refl _) h.sl.ids h.sl.own
  exact sorted_eq h.sl.ids (hp.trans h.sl.pm) a hs b
end
end tm
end Go.Proofs.Ytfelmnhhldgobaa
