/- What is told comes in order, on lists. -/
import Derived.Test.YtfelmnhhldgobaaTmOrd
import Derived.Test.YtfelmnhhldgobaaTmPartM
namespace Go.Proofs.Ytfelmnhhldgobaa
open Go.RowKit
namespace tm
/-- behind what was told last: at at, of the number id; seen are those that were told -/
structure Od (n : Int) (once : Bool) (at_ id : Int) (seen : List Int) (l : List T) : Prop where
  hp : Hp l l.length
  due : ∀ t, t ∈ l → at_ ≤ t.due ∧ (once = true → t.due = at_ → id ≤ t.id)
  num : ∀ t, t ∈ l → 1 ≤ t.id ∧ t.id ≤ n
  evr : once = true → ∀ t, t ∈ l → t.every = 0
  cnt : once = true → seen.length + l.length ≤ 64
  nod : once = true → (seen ++ l.map T.id).Nodup
/-- one that is told now -/
structure One (n : Int) (once : Bool) (at_ id : Int) (seen : List Int) (t : T) : Prop where
  due : at_ ≤ t.due
  ord : once = true → t.due = at_ → id ≤ t.id
  lo : 1 ≤ t.id
  hi : t.id ≤ n
  new : once = true → t.id ∉ seen
  cnt : once = true → seen.length < 64
def seenB (once : Bool) (seen : List Int) (i : Int) : List Int := if once = true then seen ++ [i] else seen
theorem od_one {n : Int} {once : Bool} {at_ id : Int} {seen : List Int} {l : List T} (h : Od n once at_ id seen l) (hl : 0 < l.length) : One n once at_ id seen (tl l) ∧ Od n once (tl l).due (tl l).id (seenB once seen (tl l).id) (rl l) := by
  have hm : tl l ∈ l := tell_mem (s := ⟨0, 0, l⟩) hl
  have hle := tell_least ⟨0, 0, l⟩ hl h.hp
  have hwho := fun x => tell_who ⟨0, 0, l⟩ hl x
  have hrest := tell_rest ⟨0, 0, l⟩ hl
  have hheap := tell_heap ⟨0, 0, l⟩ hl h.hp
  change ∀ t ∈ l, lt t (tl l) = false at hle
  change ∀ x, x ∈ rl l → x ∈ l ∨ (0 < (tl l).every ∧ x = ⟨(tl l).id, (tl l).owner, (tl l).due + (tl l).every, (tl l).every⟩) at hwho
  change (tl l).every = 0 → (tl l :: rl l).Perm l at hrest
  change Hp (rl l) (rl l).length at hheap
  have hle2 : ∀ t, t ∈ l → (tl l).due ≤ t.due ∧ (t.due = (tl l).due → (tl l).id ≤ t.id) := fun t ht => by
    have h1 := hle t ht
    have h2 : ¬ (t.due < (tl l).due ∨ t.due = (tl l).due ∧ t.id < (tl l).id) := fun x => by rw [(lt_iff _ _).2 x] at h1; cases h1
    omega
  have hev := fun ho => h.evr ho _ hm
  have hpm := fun ho => hrest (hev ho)
  have hnod : once = true → (seen ++ (tl l).id :: (rl l).map T.id).Nodup := fun ho => by
    have hp2 : (seen ++ ((tl l :: rl l).map T.id)).Perm (seen ++ l.map T.id) := List.Perm.append_left seen ((hpm ho).map T.id)
    exact (hp2.nodup_iff).2 (h.nod ho)
  have hcnt : once = true → (rl l).length + 1 = l.length := fun ho => (hpm ho).length_eq
  refine ⟨⟨(h.due _ hm).1, (h.due _ hm).2, (h.num _ hm).1, (h.num _ hm).2, fun ho hc => ?_, fun ho => ?_⟩, ⟨hheap, fun t ht => ?_, fun t ht => ?_, fun ho t ht => ?_, fun ho => ?_, fun ho => ?_⟩⟩
  · exact (List.nodup_append.1 (hnod ho)).2.2 _ hc _ (List.mem_cons_self ..) rfl
  · have := h.cnt ho
    omega
  · rcases hwho t ht with a | ⟨a, rfl⟩
    · exact ⟨(hle2 t a).1, fun _ => (hle2 t a).2⟩
    · exact ⟨by simp only; omega, fun _ => by simp only; omega⟩
  · rcases hwho t ht with a | ⟨a, rfl⟩
    · exact h.num t a
    · exact (show 1 ≤ (tl l).id ∧ (tl l).id ≤ n from h.num _ hm)
  · exact h.evr ho t ((hpm ho).mem_iff.1 (List.mem_cons_of_mem _ ht))
  · have := h.cnt ho
    have := hcnt ho
    unfold seenB
    rw [if_pos ho, List.length_append, List.length_singleton]
    omega
  · unfold seenB
    rw [if_pos ho, List.append_assoc]
    exact hnod ho
/-- all that is told, one behind the other -/
def Tls (n : Int) (once : Bool) : Int → Int → List Int → List T → List T → Prop
  | at_, id, seen, [], l => Od n once at_ id seen l
  | at_, id, seen, t :: A, l => One n once at_ id seen t ∧ Tls n once t.due t.id (seenB once seen t.id) A l
theorem tls_tells {n : Int} {once : Bool} (till : Int) : ∀ (m : Nat) (at_ id : Int) (seen : List Int) (l : List T), Od n once at_ id seen l → Tls n once at_ id seen (tellsL m l till).1 (tellsL m l till).2
  | 0, _, _, _, _, h => h
  | m + 1, at_, id, seen, l, h => by
    unfold tellsL
    split
    · rename_i hc
      have hl : 0 < l.length := by unfold cm comesB at hc; exact (of_decide_eq_true hc).1
      obtain ⟨a, b⟩ := od_one h hl
      exact ⟨a, tls_tells till m _ _ _ _ b⟩
    · exact h
theorem tls_ge {n : Int} {once : Bool} : ∀ (A : List T) (at_ id : Int) (seen : List Int) (l : List T), Tls n once at_ id seen A l → ∀ i, i < A.length → at_ ≤ (ix A i).due
  | [], _, _, _, _, _, i, hi => by simp at hi
  | t :: A, at_, id, seen, l, h, 0, _ => h.1.due
  | t :: A, at_, id, seen, l, h, i + 1, hi => by
    have h1 := tls_ge A _ _ _ _ h.2 i (by simpa using hi)
    have h2 := h.1.due
    have e : ix (t :: A) (i + 1) = ix A i := rfl
    rw [e]
    omega
theorem tls_mono {n : Int} {once : Bool} : ∀ (A : List T) (at_ id : Int) (seen : List Int) (l : List T), Tls n once at_ id seen A l → ∀ i j, i ≤ j → j < A.length → (ix A i).due ≤ (ix A j).due
  | [], _, _, _, _, _, _, j, _, hj => by simp at hj
  | t :: A, at_, id, seen, l, h, 0, 0, _, _ => Int.le_refl _
  | t :: A, at_, id, seen, l, h, 0, j + 1, _, hj => tls_ge A _ _ _ _ h.2 j (by simpa using hj)
  | t :: A, at_, id, seen, l, h, i + 1, 0, hij, _ => by omega
  | t :: A, at_, id, seen, l, h, i + 1, j + 1, hij, hj => tls_mono A _ _ _ _ h.2 i j (by omega) (by simpa using hj)
theorem tells_till (till : Int) : ∀ (m : Nat) (l : List T) (i : Nat), i < (tellsL m l till).1.length → (ix (tellsL m l till).1 i).due ≤ till
  | 0, _, i, h => by simp [tellsL] at h
  | m + 1, l, i, h => by
    unfold tellsL at h ⊢
    split
    · rename_i hc
      rw [if_pos hc] at h
      match i, h with
      | 0, _ =>
        have hl := of_decide_eq_true (show decide (0 < l.length ∧ (ix l 0).due ≤ till) = true from hc)
        have e : tl l = ix l 0 := tell_first ⟨0, 0, l⟩ hl.1
        show (tl l).due ≤ till
        rw [e]
        exact hl.2
      | i + 1, h => exact tells_till till m (rl l) i (by simpa using h)
    · rename_i hc
      rw [if_neg hc] at h
      simp at h
theorem tells_stop (till : Int) : ∀ (m : Nat) (l : List T), (tellsL m l till).1.length < m → cm (tellsL m l till).2 till = false
  | 0, _, h => by omega
  | m + 1, l, h => by
    unfold tellsL at h ⊢
    split
    · rename_i hc
      rw [if_pos hc] at h
      exact tells_stop till m (rl l) (by simpa using h)
    · rename_i hc
      exact Bool.eq_false_iff.2 hc
/-- what a pass does to a clock in order -/
theorem pass_od {n : Int} {once : Bool} {at_ id : Int} {seen : List Int} (s : St) (till : Int) (hg : Good s) (ho : Od n once at_ id seen s.l) (hat : 0 ≤ at_) (h0 : s.now ≤ till) (hT : isT till = true) : ∃ (A : List T) (s' : St), passR s till = ((A, 0), s') ∧ A.length ≤ 16 ∧ Good s' ∧ Tls n once at_ id seen A s'.l ∧ (∀ i, i < A.length → (ix A i).due ≤ s'.now) ∧ (A.length < 16 → s'.l.length ≠ 0 → s'.now < (ix s'.l 0).due) := by
  have hl := tells_le till 16 s.l
  have ht := tls_tells till 16 _ _ _ _ ho
  have h1 := tells_till till 16 s.l
  have h2 := tells_stop till 16 s.l
  have e := pass_l s till h0 hT
  have hgd : Good ⟨s.now, s.last, (tellsL 16 s.l till).2⟩ := by
    have key : ∀ n (s : St), Good s → Good (tellsU n s till).2 := by
      intro n
      induction n with
      | zero => intro s h; exact h
      | succ n ih =>
        intro s h
        unfold tellsU
        split
        · rename_i hc
          exact ih _ (h.tell (by unfold comesB at hc; exact (of_decide_eq_true hc).1))
        · exact h
    have hk := key 16 s hg
    rwa [tells_l] at hk
  have hm := tls_mono _ _ _ _ _ ht
  have hge := tls_ge _ _ _ _ _ ht
  generalize tellsL 16 s.l till = R at *
  obtain ⟨A, l2⟩ := R
  simp only at *
  have hb := (isT_iff _).1 hT
  have hn0 := hg.n0
  refine ⟨A, _, e, hl, ?_, ht, ?_, ?_⟩
  · by_cases h16 : A.length = 16
    · have h15 := h1 15 (by omega)
      have h14 := hge 15 (by omega)
      refine ⟨?_, ?_, hgd.len, hgd.ts⟩ <;> (simp only [if_pos h16]; omega)
    · refine ⟨?_, ?_, hgd.len, hgd.ts⟩ <;> (simp only [if_neg h16]; omega)
  · intro i hi
    by_cases h16 : A.length = 16
    · simp only [if_pos h16]
      exact hm i 15 (by omega) (by omega)
    · simp only [if_neg h16]
      exact h1 i hi
  · intro h16 hne
    simp only [if_neg (show ¬ A.length = 16 by omega)]
    have := h2 h16
    have h3 : ¬ (0 < l2.length ∧ (ix l2 0).due ≤ till) := fun x => by rw [show cm l2 till = true from decide_eq_true x] at this; cases this
    simp only at hne
    omega
/-- what set makes -/
structure Oz (n : Int) (once : Bool) (s : St) : Prop where
  good : Good s
  od : Od n once 0 0 [] s.l
  nn : 0 ≤ s.last
  le : s.last ≤ n
  lt : ∀ t, t ∈ s.l → t.id ≤ s.last
theorem oz_set {n : Int} {once : Bool} (s : St) (o i e : Int) (h : Oz n once s) (hn : s.last + 1 ≤ n) (he : once = true → e = 0) : Oz n once (setR s o i e).2 := by
  have hgd := h.good.set o i e
  have hhp := set_heap s o i e h.od.hp
  unfold setR at hgd hhp ⊢
  split
  · exact h
  split
  · exact h
  rename_i h1 h2
  rw [if_neg h1, if_neg h2] at hgd hhp
  simp only [not_or, Bool.not_eq_false] at h1
  have hd := (isT_iff _).1 h1.2.2.2
  have hp := push_perm s.l ⟨s.last + 1, o, s.now + i, e⟩
  have hln := h.nn
  have hlen := hgd.len
  have hmem : ∀ t, t ∈ push s.l ⟨s.last + 1, o, s.now + i, e⟩ → t = ⟨s.last + 1, o, s.now + i, e⟩ ∨ t ∈ s.l := fun t ht => List.mem_cons.1 (hp.mem_iff.1 ht)
  refine ⟨hgd, ⟨hhp, fun t ht => ?_, fun t ht => ?_, fun ho t ht => ?_, fun ho => ?_, fun ho => ?_⟩, by simp only; omega, by simp only; omega, fun t ht => ?_⟩
  · rcases hmem t ht with rfl | a
    · exact ⟨hd.1, fun _ _ => by simp only; omega⟩
    · exact h.od.due t a
  · rcases hmem t ht with rfl | a
    · exact ⟨by simp only; omega, hn⟩
    · exact h.od.num t a
  · rcases hmem t ht with rfl | a
    · exact he ho
    · exact h.od.evr ho t a
  · simpa using hlen
  · rw [List.nil_append]
    refine ((hp.map T.id).nodup_iff).2 ?_
    rw [List.map_cons, List.nodup_cons]
    have := h.od.nod ho
    rw [List.nil_append] at this
    refine ⟨fun hx => ?_, this⟩
    obtain ⟨t, ht, e2⟩ := List.mem_map.1 hx
    have := h.lt t ht
    simp only at e2
    omega
  · rcases hmem t ht with rfl | a
    · exact Int.le_refl _
    · have := h.lt t a
      simp only
      omega
theorem setR_lastle (s : St) (o n e : Int) : (setR s o n e).2.last ≤ s.last + 1 := by
  unfold setR
  split
  · simp only; omega
  split
  · simp only; omega
  · exact Int.le_refl _
theorem oz_all (n : Int) (ps : List Int) : ∀ (ns : List Int) (i : Nat) (s : St), Oz n (decide (ps.length = 0)) s → s.last + (ns.length : Int) ≤ n → Oz n (decide (ps.length = 0)) (setAll ps ns i s)
  | [], _, _, h, _ => h
  | x :: ns, i, s, h, hn => by
    unfold setAll
    rw [List.length_cons] at hn
    refine oz_all n ps ns (i + 1) _ (oz_set s _ _ _ h (by omega) fun ho => if_pos (of_decide_eq_true ho)) ?_
    have := setR_lastle s (1 + ((i % 3 : Nat) : Int)) x (if ps.length = 0 then 0 else ps.getD (i % ps.length) 0)
    omega
theorem oz_zero (n : Int) (once : Bool) (hn : 0 ≤ n) : Oz n once St.zero := ⟨Good.zero, ⟨fun i h hi => by simp [St.zero] at hi, fun t h => (by cases h), fun t h => (by cases h), fun _ t h => (by cases h), fun _ => by decide, fun _ => by decide⟩, Int.le_refl _, hn, fun t h => (by cases h)⟩
end tm
end Go.Proofs.Ytfelmnhhldgobaa
