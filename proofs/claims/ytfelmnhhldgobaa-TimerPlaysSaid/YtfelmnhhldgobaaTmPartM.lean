/- Telling in parts, on lists. -/
import Derived.Test.YtfelmnhhldgobaaTmAlive
namespace Go.Proofs.Ytfelmnhhldgobaa
open Go.RowKit
namespace tm
def tl (l : List T) : T := (tellR ⟨0, 0, l⟩).1
def rl (l : List T) : List T := (tellR ⟨0, 0, l⟩).2.l
def cm (l : List T) (till : Int) : Bool := comesB ⟨0, 0, l⟩ till
def tellsL : Nat → List T → Int → List T × List T
  | 0, l, _ => ([], l)
  | n + 1, l, till => if cm l till = true then (tl l :: (tellsL n (rl l) till).1, (tellsL n (rl l) till).2) else ([], l)
theorem tells_l (till : Int) : ∀ (n : Nat) (s : St), tellsU n s till = ((tellsL n s.l till).1, ⟨s.now, s.last, (tellsL n s.l till).2⟩)
  | 0, s => rfl
  | n + 1, s => by
    have e1 : (tellR s).1 = tl s.l := rfl
    have e2 : (tellR s).2 = ⟨s.now, s.last, rl s.l⟩ := rfl
    have e3 : comesB s till = cm s.l till := rfl
    unfold tellsU tellsL
    rw [e1, e2, e3, tells_l till n]
    split <;> rfl
theorem cm_mono {l : List T} {p till : Int} (h : p ≤ till) (hc : cm l p = true) : cm l till = true := by
  unfold cm comesB at *
  have := of_decide_eq_true hc
  exact decide_eq_true ⟨this.1, by omega⟩
theorem tells_le (till : Int) : ∀ (n : Nat) (l : List T), (tellsL n l till).1.length ≤ n
  | 0, _ => Nat.le_refl _
  | n + 1, l => by
    unfold tellsL
    split
    · have := tells_le till n (rl l)
      simp only [List.length_cons]
      omega
    · simp
/-- what stops by itself stops so, however much may be told -/
theorem tells_more (till : Int) : ∀ (n m : Nat) (l : List T), (tellsL n l till).1.length < n → n ≤ m → tellsL m l till = tellsL n l till
  | 0, _, _, h, _ => by simp at h
  | n + 1, 0, _, _, hm => by omega
  | n + 1, m + 1, l, h, hm => by
    unfold tellsL at h ⊢
    split
    · rename_i hc
      rw [if_pos hc] at h
      simp only [List.length_cons] at h
      rw [tells_more till n m (rl l) (by omega) (by omega)]
    · rfl
/-- up to p, then up to till -/
theorem tells_split {p till : Int} (hp : p ≤ till) : ∀ (n : Nat) (l : List T), (tellsL n l till).1.length < n → (tellsL n l p).1.length < n ∧ tellsL n l till = ((tellsL n l p).1 ++ (tellsL n (tellsL n l p).2 till).1, (tellsL n (tellsL n l p).2 till).2) ∧ (tellsL n (tellsL n l p).2 till).1.length < n
  | 0, _, h => by simp at h
  | n + 1, l, h => by
    by_cases hc : cm l p = true
    · have ht := cm_mono hp hc
      have h' : (tellsL n (rl l) till).1.length < n := by
        unfold tellsL at h
        rw [if_pos ht] at h
        simpa using h
      obtain ⟨a, b, d⟩ := tells_split hp n (rl l) h'
      have e : tellsL (n + 1) l p = (tl l :: (tellsL n (rl l) p).1, (tellsL n (rl l) p).2) := by
        conv => lhs; unfold tellsL
        rw [if_pos hc]
      have e2 : tellsL (n + 1) l till = (tl l :: (tellsL n (rl l) till).1, (tellsL n (rl l) till).2) := by
        conv => lhs; unfold tellsL
        rw [if_pos ht]
      have hm := tells_more till n (n + 1) (tellsL n (rl l) p).2 d (Nat.le_succ _)
      rw [e, e2]
      simp only [List.length_cons]
      rw [hm]
      refine ⟨by omega, ?_, by omega⟩
      rw [b]
      rfl
    · have e : tellsL (n + 1) l p = ([], l) := by
        conv => lhs; unfold tellsL
        rw [if_neg hc]
      rw [e]
      exact ⟨by simp, by simp, h⟩
theorem pass_l (s : St) (till : Int) (h0 : s.now ≤ till) (hT : isT till = true) : passR s till = (((tellsL 16 s.l till).1, 0), ⟨if (tellsL 16 s.l till).1.length = 16 then (ix (tellsL 16 s.l till).1 15).due else till, s.last, (tellsL 16 s.l till).2⟩) := by
  unfold passR
  rw [if_neg (by rw [hT]; simp; omega), tells_l]
/-- a part of the time, where fewer than 16 are due in all -/
theorem pass_part (s : St) (p till : Int) (h0 : s.now ≤ p) (hp : p ≤ till) (hT : isT p = true) (h : (tellsL 16 s.l till).1.length < 16) : ∃ A l1, passR s p = ((A, 0), ⟨p, s.last, l1⟩) ∧ A.length < 16 ∧ (tellsL 16 s.l till).1 = A ++ (tellsL 16 l1 till).1 ∧ (tellsL 16 s.l till).2 = (tellsL 16 l1 till).2 ∧ (tellsL 16 l1 till).1.length < 16 := by
  obtain ⟨a, b, d⟩ := tells_split hp 16 s.l h
  have e := pass_l s p h0 hT
  rw [if_neg (by omega)] at e
  exact ⟨_, _, e, a, by rw [b], by rw [b], d⟩
/-- the timers that set makes -/
def setAll (ps : List Int) : List Int → Nat → St → St
  | [], _, s => s
  | n :: ns, i, s => setAll ps ns (i + 1) (setR s (1 + ((i % 3 : Nat) : Int)) n (if ps.length = 0 then 0 else ps.getD (i % ps.length) 0)).2
theorem setR_last (s : St) (o n e : Int) (h : s.last = (s.l.length : Int)) : (setR s o n e).2.last = ((setR s o n e).2.l.length : Int) := by
  unfold setR
  split
  · exact h
  split
  · exact h
  · simp only; rw [push_len, h]; omega
theorem setR_now (s : St) (o n e : Int) : (setR s o n e).2.now = s.now := by
  unfold setR
  split
  · rfl
  split
  · rfl
  · rfl
theorem Good.pass {s : St} (h : Good s) (till : Int) (hn : s.now ≤ till) (hT : isT till = true) (hl : (tellsL 16 s.l till).1.length < 16) : Good (passR s till).2 := by
  have key : ∀ n (s : St), Good s → Good (tellsU n s till).2 := by
    intro n
    induction n with
    | zero => intro s h; exact h
    | succ n ih =>
      intro s h
      unfold tellsU
      split
      · rename_i hc
        exact ih _ (h.tell (by unfold comesB at hc; exact (of_decide_eq_true hc).1))
      · exact h
  have hk := key 16 s h
  rw [tells_l] at hk
  rw [pass_l s till hn hT, if_neg (by omega)]
  exact ⟨((isT_iff _).1 hT).1, ((isT_iff _).1 hT).2, hk.len, hk.ts⟩
end tm
end Go.Proofs.Ytfelmnhhldgobaa
