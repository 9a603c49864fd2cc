/- What is left behind a reading is an end of what was there. On lists; no Go. -/
import Derived.Test.YthmiaamjbokljaaGreatDoorKdRun
namespace Go.Proofs.YthmiaamjbokljaaGreatDoor.kd
open Go
theorem take_suf (s : Ps) : (take s).toks <:+ s.toks := List.tail_suffix _
theorem parts_suf (e : Nat) : ∀ (f : Nat) (s : Ps) (vs : List Val) (ps : List Prp) (R : List Val × List Prp) (s' : Ps), parts e f s vs ps = .ok R s' → s'.toks <:+ s.toks
  | 0, s, vs, ps, R, s', h => by cases h
  | f + 1, s, vs, ps, R, s', h => by
    unfold parts at h
    dsimp only at h
    split at h
    · split at h
      · exact (parts_suf e f _ _ _ _ _ h).trans (take_suf _)
      · split at h
        · cases h
        · split at h
          · exact (parts_suf e f _ _ _ _ _ h).trans ((take_suf _).trans ((take_suf _).trans (take_suf _)))
          · cases h
    · injection h with h1 h2
      subst h2
      exact List.suffix_refl _
theorem all_suf (e : Nat) : ∀ f, (∀ d s ns R s', list e f d s ns = .ok R s' → s'.toks <:+ s.toks) ∧ (∀ d s n s', node e f d s = .ok n s' → s'.toks <:+ s.toks.tail ∧ s.toks ≠ []) ∧ (∀ d s R s', kids e f d s = .ok R s' → s'.toks <:+ s.toks)
  | 0 => by
    refine ⟨?_, ?_, ?_⟩
    · intro d s ns R s' h
      unfold list at h
      cases h
    · intro d s n s' h
      unfold node at h
      cases h
    · intro d s R s' h
      unfold kids at h
      cases h
  | f + 1 => by
    obtain ⟨hL, hN, hK⟩ := all_suf e f
    refine ⟨?_, ?_, ?_⟩
    · intro d s ns R s' h
      unfold list at h
      dsimp only at h
      have hb : (breaks s).toks <:+ s.toks := List.dropWhile_suffix _
      split at h
      · injection h with h1 h2
        subst h2
        exact hb
      · split at h
        · rename_i n s2 hn
          exact (hL _ _ _ _ _ h).trans ((hN _ _ _ _ hn).1.trans ((List.tail_suffix _).trans hb))
        · cases h
    · intro d s n s' h
      unfold node at h
      dsimp only at h
      split at h
      · cases h
      · rename_i hnm
        obtain ⟨t, r, hs, -⟩ := name_cons (e := e) (s := s) (by simpa using hnm)
        split at h
        · cases h
        · split at h
          · cases h
          · rename_i vs ps s3 hp
            split at h
            · cases h
            · rename_i ks s4 hk
              split at h
              · cases h
              · injection h with h1 h2
                subst h2
                refine ⟨((hK _ _ _ _ hk).trans (parts_suf e _ _ _ _ _ _ hp)), by rw [hs]; exact List.cons_ne_nil _ _⟩
    · intro d s R s' h
      unfold kids at h
      dsimp only at h
      split at h
      · injection h with h1 h2
        subst h2
        exact List.suffix_refl _
      · split at h
        · cases h
        · split at h
          · cases h
          · rename_i ns s1 hl
            injection h with h1 h2
            subst h2
            exact (List.tail_suffix _).trans ((hL _ _ _ _ _ hl).trans (take_suf _))
theorem parts_beg (e : Nat) : ∀ (f : Nat) (s : Ps) (vs : List Val) (ps : List Prp) (R : List Val × List Prp) (s' : Ps), parts e f s vs ps = .ok R s' → s'.begun = s.begun
  | f, s, vs, ps, R, s', h => (parts_app e e [] (.inl rfl) 0 f s vs ps R s' h).1
theorem all_beg (e : Nat) : ∀ f, (∀ d s ns R s', list e f d s ns = .ok R s' → s.begun ≤ 300 → s'.begun ≤ 300) ∧ (∀ d s n s', node e f d s = .ok n s' → s'.begun ≤ 300) ∧ (∀ d s R s', kids e f d s = .ok R s' → s.begun ≤ 300 → s'.begun ≤ 300)
  | 0 => by
    refine ⟨?_, ?_, ?_⟩
    · intro d s ns R s' h
      unfold list at h
      cases h
    · intro d s n s' h
      unfold node at h
      cases h
    · intro d s R s' h
      unfold kids at h
      cases h
  | f + 1 => by
    obtain ⟨hL, hN, hK⟩ := all_beg e f
    refine ⟨?_, ?_, ?_⟩
    · intro d s ns R s' h hb
      unfold list at h
      dsimp only at h
      split at h
      · injection h with h1 h2
        subst h2
        exact hb
      · split at h
        · rename_i n s2 hn
          exact hL _ _ _ _ _ h (hN _ _ _ _ hn)
        · cases h
    · intro d s n s' h
      unfold node at h
      dsimp only at h
      split at h
      · cases h
      · split at h
        · cases h
        · rename_i h3
          split at h
          · cases h
          · rename_i vs ps s3 hp
            split at h
            · cases h
            · rename_i ks s4 hk
              split at h
              · cases h
              · injection h with h1 h2
                subst h2
                refine hK _ _ _ _ hk ?_
                rw [parts_beg e _ _ _ _ _ _ hp]
                exact Nat.le_of_not_lt h3
    · intro d s R s' h hb
      unfold kids at h
      dsimp only at h
      split at h
      · injection h with h1 h2
        subst h2
        exact hb
      · split at h
        · cases h
        · split at h
          · cases h
          · rename_i ns s1 hl
            injection h with h1 h2
            subst h2
            show s1.begun ≤ 300
            exact hL _ _ _ _ _ hl hb
/-- the number of a fault is none of 0, if there is fuel enough -/
theorem parts_fuel (e : Nat) : ∀ (f : Nat) (s : Ps) (vs : List Val) (ps : List Prp) (c : Nat) (x : Int) (s' : Ps), parts e f s vs ps = .bad c x s' → s.toks.length < f → c ≠ 0
  | 0, s, vs, ps, c, x, s', _, hf => by omega
  | f + 1, s, vs, ps, c, x, s', h, hf => by
    have htl : ∀ s : Ps, (take s).toks.length = s.toks.length - 1 := fun s => List.length_tail
    unfold parts at h
    dsimp only at h
    split at h
    · rename_i hv
      obtain ⟨t, r, hs, -⟩ := value_cons hv
      have hl : s.toks.length = r.length + 1 := by rw [hs]; rfl
      split at h
      · exact parts_fuel e f _ _ _ _ _ _ h (by rw [htl]; omega)
      · split at h
        · injection h with h1; subst h1; decide
        · split at h
          · exact parts_fuel e f _ _ _ _ _ _ h (by rw [htl, htl, htl]; omega)
          · injection h with h1; subst h1; unfold stray; split <;> decide
    · cases h
end Go.Proofs.YthmiaamjbokljaaGreatDoor.kd
