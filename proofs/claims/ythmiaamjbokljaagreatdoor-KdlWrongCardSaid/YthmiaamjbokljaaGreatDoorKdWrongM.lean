/- KdlWrong on lists: behind a text that is read, ten texts that aren't. -/
import Derived.Test.YthmiaamjbokljaaGreatDoorKdSuf
import Derived.Test.YthmiaamjbokljaaGreatDoorKdLim
import Derived.Test.YthmiaamjbokljaaGreatDoorTkJoinM
namespace Go.Proofs.YthmiaamjbokljaaGreatDoor.kd
open Go
theorem all_fuel (e : Nat) : ∀ f, (∀ d s ns c x s', list e f d s ns = .bad c x s' → 3 * s.toks.length + 3 ≤ f → c ≠ 0) ∧ (∀ d s c x s', node e f d s = .bad c x s' → 3 * s.toks.length + 2 ≤ f → c ≠ 0) ∧ (∀ d s c x s', kids e f d s = .bad c x s' → 3 * s.toks.length + 1 ≤ f → c ≠ 0)
  | 0 => ⟨fun _ _ _ _ _ _ _ h => by omega, fun _ _ _ _ _ _ h => by omega, fun _ _ _ _ _ _ h => by omega⟩
  | f + 1 => by
    obtain ⟨hL, hN, hK⟩ := all_fuel e f
    have htl : ∀ s : Ps, (take s).toks.length = s.toks.length - 1 := fun s => List.length_tail
    have hst : ∀ t : tk.Tok, stray t ≠ 0 := fun t => by unfold stray; split <;> decide
    refine ⟨?_, ?_, ?_⟩
    · intro d s ns c x s' h hf
      have hb : (breaks s).toks.length ≤ s.toks.length := (List.dropWhile_suffix _).length_le
      unfold list at h
      dsimp only at h
      split at h
      · cases h
      · split at h
        · rename_i n s2 hn
          obtain ⟨h1, h2⟩ := (all_suf e f).2.1 _ _ _ _ hn
          have h3 := h1.length_le
          rw [List.length_tail] at h3
          have h4 : 0 < (breaks s).toks.length := List.length_pos_iff.2 h2
          exact hL _ _ _ _ _ _ h (by omega)
        · rename_i c' x' s2 hn
          injection h with h1
          subst h1
          exact hN _ _ _ _ _ hn (by omega)
    · intro d s c x s' h hf
      unfold node at h
      dsimp only at h
      split at h
      · injection h with h1; subst h1; exact hst _
      · rename_i hnm
        obtain ⟨t, r, hs, -⟩ := name_cons (e := e) (s := s) (by simpa using hnm)
        have hl : s.toks.length = r.length + 1 := by rw [hs]; rfl
        split at h
        · injection h with h1; subst h1; decide
        · split at h
          · rename_i hp
            injection h with h1; subst h1
            exact parts_fuel e _ _ _ _ _ _ _ hp (Nat.lt_succ_self _)
          · rename_i vs ps s3 hp
            have h5 := (parts_suf e _ _ _ _ _ _ hp).length_le
            have h6 : s3.toks.length ≤ (take s).toks.length := h5
            rw [htl] at h6
            split at h
            · rename_i hk
              injection h with h1; subst h1
              exact hK _ _ _ _ _ hk (by omega)
            · split at h
              · injection h with h1; subst h1; exact hst _
              · cases h
    · intro d s c x s' h hf
      unfold kids at h
      dsimp only at h
      split at h
      · cases h
      · rename_i ho
        have hne : 0 < s.toks.length := by
          rcases hs : s.toks with _ | ⟨t, r⟩
          · exact absurd (by unfold peek; rw [hs]; rfl) ho
          · exact Nat.succ_pos _
        split at h
        · injection h with h1; subst h1; decide
        · split at h
          · rename_i hl
            injection h with h1; subst h1
            exact hL _ _ _ _ _ _ hl (by rw [htl]; omega)
          · cases h
def fin : Ans (List Node) → List Node × Nat × Int
  | .ok ns _ => (ns, 0, 0)
  | .bad c x _ => ([], c, x)
def more (e f : Nat) (x : List Node) : Ans Node → Ans (List Node)
  | .ok n s2 => list e f 0 s2 (x ++ [n])
  | .bad c y s2 => .bad c y s2
def rest (e f d : Nat) (t : tk.Tok) (r : List tk.Tok) (m : Nat) : Ans Node :=
  match parts e (r.length + 1) ⟨r, m + 1⟩ [] [] with
  | .bad c x s3 => .bad c x s3
  | .ok (vs, ps) s3 =>
    match kids e f d s3 with
    | .bad c x s4 => .bad c x s4
    | .ok ks s4 =>
      let n := peek e s4
      if n.kind ≠ 0 ∧ n.kind ≠ 5 ∧ isSign n 125 = false then .bad (stray n) n.at_ s4 else .ok (.mk t.text vs ps ks) s4
theorem parse_fin (s : List UInt8) (T : List tk.Tok) (h : tk.tokens s = (T, 0, 0)) : parse s = fin (list s.length (3 * T.length + 4) 0 { toks := T } []) := by
  unfold parse
  rw [h]
  rw [if_neg (by simp)]
  unfold fin
  rfl
theorem node_front (e f d : Nat) (t : tk.Tok) (r : List tk.Tok) (m : Nat) (h : isName t = true) : node e (f + 1) d ⟨t :: r, m⟩ = if 300 < m + 1 then .bad 3 t.at_ ⟨r, m + 1⟩ else rest e f d t r m := by
  unfold node
  rw [show peek e ⟨t :: r, m⟩ = t from rfl, show take ⟨t :: r, m⟩ = ⟨r, m⟩ from rfl]
  dsimp only
  rw [if_neg (by rw [h]; decide)]
  rfl
theorem list_front (e f : Nat) (b t : tk.Tok) (r : List tk.Tok) (m : Nat) (x : List Node) (hb : b.kind = 5) (h5 : t.kind ≠ 5) (h0 : t.kind ≠ 0) : list e (f + 1) 0 ⟨b :: t :: r, m⟩ x = more e f x (node e f 0 ⟨t :: r, m⟩) := by
  have hbr : breaks ⟨b :: t :: r, m⟩ = ⟨t :: r, m⟩ := by
    unfold breaks
    rw [List.dropWhile_cons_of_pos (by simpa using hb), List.dropWhile_cons_of_neg (by simpa using h5)]
  unfold list
  dsimp only
  rw [hbr, if_neg (show ¬ closes e 0 ⟨t :: r, m⟩ = true by unfold closes; rw [if_pos rfl]; simpa [peek] using h0)]
  unfold more
  cases node e f 0 ⟨t :: r, m⟩ <;> rfl
/-- a text behind one that is read: from the Break on -/
theorem behind (a b : List UInt8) (x : List Node) (p : Int) (T : List tk.Tok) (h : parse a = (x, 0, p)) (hb : tk.tokens b = (T, 0, 0)) (hl : a.length + b.length ≤ 4000) :
    (∃ y, parse (a ++ 10 :: b) = ([], 3, y)) ∨ ∃ g m, 3 * T.length ≤ g ∧ parse (a ++ 10 :: b) = fin (list (a ++ 10 :: b).length (g + 4) 0 ⟨{ kind := 5, text := [10], at_ := a.length } :: T.map (tk.sh (a.length + 1)), m⟩ x) := by
  have ha0 : (tk.tokens a).2.1 = 0 := by
    by_cases h0 : (tk.tokens a).2.1 = 0
    · exact h0
    · unfold parse at h
      rw [if_pos h0] at h
      exact absurd (congrArg (fun q => q.2.1) h) h0
  have hj := (tk.tokens_join a b ha0 hl).1 (by rw [hb])
  have hk : Kinds (tk.tokens a).1 := fun t ht => ((tk.tokens_fine a).1 t ht).1
  rw [parse_fin _ _ hj, hb]
  unfold parse at h
  rw [if_neg (by simpa using ha0)] at h
  generalize (tk.tokens a).1 = TA at *
  cases hL : list a.length (3 * TA.length + 4) 0 { toks := TA } [] with
  | bad c y s =>
    rw [hL] at h
    injection h with h1 h2
    injection h2 with h2 h3
    subst h2
    exact absurd rfl ((all_fuel a.length _).1 _ _ _ _ _ _ hL (by dsimp only; omega))
  | ok N s =>
    rw [hL] at h
    injection h with h1 h2
    subst h1
    obtain ⟨r0, m, hr, -, -, h0, -, hA⟩ := (all_app a.length (a ++ 10 :: b).length (3 * TA.length + 4)).1 0 _ _ _ _ hL hk
    rw [List.nil_append] at hr
    subst hr
    have := hA 0 0 ({ kind := 5, text := [10], at_ := a.length } :: T.map (tk.sh (a.length + 1))) TA [] (3 * (TA ++ { kind := 5, text := [10], at_ := a.length } :: T.map (tk.sh (a.length + 1))).length + 4) (.inr ⟨_, _, rfl, .inl rfl⟩) (alike.refl _) (by rw [List.length_append]; omega)
    rw [if_pos rfl] at this
    rcases this with ⟨f'', hf, e⟩ | ⟨⟨y, z, e⟩ | ⟨hk0, -⟩⟩
    · right
      rw [List.length_append, List.length_cons, List.length_map] at hf
      refine ⟨f'' - 4, 0 + m, by omega, ?_⟩
      rw [e, show f'' - 4 + 4 = f'' by omega]
      rfl
    · left
      exact ⟨y, by rw [e]; rfl⟩
    · omega
end Go.Proofs.YthmiaamjbokljaaGreatDoor.kd
