/- How long tokens are, and how many: on lists; no Go. -/
import Derived.Test.YthmiaamjbokljaaGreatDoorTkJoinM
namespace Go.Proofs.YthmiaamjbokljaaGreatDoor
open Go
theorem tk.unq_len : ∀ (k : Nat) (l acc : List UInt8), (tk.unq k l acc).1.length ≤ acc.length + l.length
  | _, [], acc => by unfold tk.unq; simp
  | k, [c], acc => by
    unfold tk.unq
    split
    · simp
    · split <;> simp
  | k, c :: d :: r, acc => by
    unfold tk.unq
    split
    · simp
    · split
      · split
        · simp
        · have := tk.unq_len (k + 2) r (acc ++ [UInt8.ofNat (tk.escaped d)])
          simp only [List.length_append, List.length_cons, List.length_nil] at this ⊢
          omega
      · have := tk.unq_len (k + 1) (d :: r) (acc ++ [c])
        simp only [List.length_append, List.length_cons, List.length_nil] at this ⊢
        omega
/-- a good token of a text of n bytes -/
def tk.Fine (n : Nat) (l : List tk.Tok) : Prop := ∀ t ∈ l, t.kind ≠ 0 ∧ t.text.length ≤ n
theorem tk.Fine.add {n : Nat} {r : tk.St} (h : tk.Fine n r.toks) (t : tk.Tok) (k : Nat) (ht : t.kind ≠ 0 ∧ t.text.length ≤ n) : tk.Fine n (tk.add r t k).toks := by
  intro x hx
  unfold tk.add at hx
  dsimp only at hx
  rcases List.mem_append.1 hx with hx | hx
  · exact h x hx
  · obtain rfl := List.mem_singleton.1 hx
    exact ht
theorem tk.nx_fine (n : Nat) (r : tk.St) (c : UInt8) (l : List UInt8) (h : tk.Fine n r.toks) (hl : l.length + 1 ≤ n) : tk.Fine n (tk.nx r c l).toks := by
  unfold tk.nx
  split
  · exact h
  split
  · exact h
  split
  · unfold tk.remark; split <;> exact h
  split
  · exact h.add _ _ ⟨by simp, by simp; omega⟩
  split
  · exact h.add _ _ ⟨by simp, by simp; omega⟩
  split
  · unfold tk.quote
    split
    · exact h
    · rename_i e _
      dsimp only
      split
      · refine h.add _ _ ⟨by simp, ?_⟩
        have h1 := tk.unq_len 0 (((c :: l).take e).drop 1) []
        have h2 : (((c :: l).take e).drop 1).length ≤ l.length := by
          rw [List.length_drop, List.length_take, List.length_cons]; omega
        dsimp only
        simp only [List.length_nil] at h1
        omega
      · exact h
  split
  · unfold tk.integer
    dsimp only
    split
    · split
      · refine h.add _ _ ⟨by simp, ?_⟩
        dsimp only
        rw [List.length_take, List.length_cons]
        omega
      · exact h
    · exact h
  split
  · refine h.add _ _ ⟨by simp, ?_⟩
    dsimp only
    have := (List.takeWhile_prefix tk.isWord (l := c :: l)).length_le
    rw [List.length_cons] at this
    omega
  · exact h
theorem tk.run_fine (s : List UInt8) : ∀ (f : Nat) (r : tk.St), tk.Fine s.length r.toks → (r.code = 0 → r.toks.length ≤ r.at_ ∧ r.at_ ≤ s.length) → tk.Fine s.length (tk.run s f r).toks
  | 0, r, h, _ => h
  | f + 1, r, h, hc => by
    unfold tk.run
    split
    · rename_i hlt
      have hd := tk.drop_cons s r.at_ hlt.1
      rw [tk.next_nx hd]
      refine tk.run_fine s f _ (tk.nx_fine s.length r _ _ h (by rw [List.length_drop]; omega)) (fun h0 => ?_)
      have hp := tk.next_prog s r hlt.1 hlt.2 (hc hlt.2).1
      rw [tk.next_nx hd] at hp
      refine ⟨hp.2, ?_⟩
      have ha := (tk.nx_app s[r.at_] (s.drop (r.at_ + 1)) [] r h0).2
      rw [List.length_cons, List.length_drop] at ha
      omega
    · exact h
theorem tk.run_few (s : List UInt8) : ∀ (f : Nat) (r : tk.St), (r.code = 0 → r.toks.length ≤ r.at_ ∧ r.at_ ≤ s.length) → (tk.run s f r).code = 0 → (tk.run s f r).toks.length ≤ s.length
  | 0, r, hc, h0 => by have := hc h0; exact Nat.le_trans this.1 this.2
  | f + 1, r, hc, h0 => by
    unfold tk.run at h0 ⊢
    split
    · rename_i hlt
      rw [if_pos hlt] at h0
      have hd := tk.drop_cons s r.at_ hlt.1
      rw [tk.next_nx hd] at h0 ⊢
      refine tk.run_few s f _ (fun h1 => ?_) h0
      have hp := tk.next_prog s r hlt.1 hlt.2 (hc hlt.2).1
      rw [tk.next_nx hd] at hp
      refine ⟨hp.2, ?_⟩
      have ha := (tk.nx_app s[r.at_] (s.drop (r.at_ + 1)) [] r h1).2
      rw [List.length_cons, List.length_drop] at ha
      omega
    · rename_i hlt
      rw [if_neg hlt] at h0
      have := hc h0
      exact Nat.le_trans this.1 this.2
theorem tk.tokens_fine (s : List UInt8) : (∀ t ∈ (tk.tokens s).1, t.kind ≠ 0 ∧ t.text.length ≤ 4096) ∧ (tk.tokens s).1.length ≤ 4096 := by
  unfold tk.tokens
  split
  · exact ⟨fun t ht => (List.not_mem_nil ht).elim, by simp⟩
  · rename_i hl
    dsimp only
    split
    · rename_i h0
      have h1 := tk.run_fine s s.length {} (fun t ht => (List.not_mem_nil ht).elim) (fun _ => ⟨Nat.le_refl _, Nat.zero_le _⟩)
      refine ⟨fun t ht => ⟨(h1 t ht).1, by have := (h1 t ht).2; omega⟩, ?_⟩
      have h2 := tk.run_few s s.length {} (fun _ => ⟨Nat.le_refl _, Nat.zero_le _⟩) h0
      dsimp only
      omega
    · exact ⟨fun t ht => (List.not_mem_nil ht).elim, by simp⟩
end Go.Proofs.YthmiaamjbokljaaGreatDoor
