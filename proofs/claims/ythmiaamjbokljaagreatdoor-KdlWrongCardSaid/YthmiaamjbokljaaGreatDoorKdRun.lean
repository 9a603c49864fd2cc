/- A reading goes on alike behind other tokens, deeper, with more nodes begun: on lists; no Go. -/
import Derived.Test.YthmiaamjbokljaaGreatDoorKdMath
namespace Go.Proofs.YthmiaamjbokljaaGreatDoor.kd
open Go

def key (t : tk.Tok) : Nat × List UInt8 × Int := (t.kind, t.text, t.int)
def alike (a b : List tk.Tok) : Prop := a.map key = b.map key
theorem alike.refl (a : List tk.Tok) : alike a a := rfl
theorem alike.cons {t : tk.Tok} {r l : List tk.Tok} (h : alike l (t :: r)) : ∃ t' r', l = t' :: r' ∧ key t' = key t ∧ alike r' r := by
  cases l with
  | nil => cases h
  | cons t' r' => exact ⟨t', r', rfl, (List.cons.inj h).1, (List.cons.inj h).2⟩
theorem alike.nil {l : List tk.Tok} (h : alike l []) : l = [] := by cases l with | nil => rfl | cons _ _ => cases h
theorem key_kind {a b : tk.Tok} (h : key a = key b) : a.kind = b.kind := congrArg (fun x => x.1) h
theorem key_text {a b : tk.Tok} (h : key a = key b) : a.text = b.text := congrArg (fun x => x.2.1) h
theorem key_int {a b : tk.Tok} (h : key a = key b) : a.int = b.int := congrArg (fun x => x.2.2) h
theorem key_sign {a b : tk.Tok} (h : key a = key b) (c : UInt8) : isSign a c = isSign b c := by unfold isSign; rw [key_kind h, key_text h]
theorem key_name {a b : tk.Tok} (h : key a = key b) : isName a = isName b := by unfold isName; rw [key_kind h]
theorem key_isValue {a b : tk.Tok} (h : key a = key b) : isValue a = isValue b := by unfold isValue; rw [key_kind h, key_name h]
theorem key_value {a b : tk.Tok} (h : key a = key b) : value a = value b := by unfold value; rw [key_kind h, key_text h, key_int h]
/-- what may come behind -/
def Stop (U : List tk.Tok) : Prop := U = [] ∨ ∃ u U', U = u :: U' ∧ (u.kind = 5 ∨ isSign u 125 = true)
theorem peek_cons (e : Nat) (t : tk.Tok) (r : List tk.Tok) (c : Nat) : peek e ⟨t :: r, c⟩ = t := rfl
theorem sign_kind {t : tk.Tok} {c : UInt8} (h : isSign t c = true) : t.kind = 4 ∧ t.text = [c] := of_decide_eq_true h
theorem sign_other {t : tk.Tok} {c d : UInt8} (h : isSign t c = true) (hd : c ≠ d) : isSign t d = false := by
  obtain ⟨h1, h2⟩ := sign_kind h
  unfold isSign
  rw [h2]
  exact decide_eq_false fun x => hd (List.cons.inj x.2).1
theorem sign_no {t : tk.Tok} (h : t.kind ≠ 4) (c : UInt8) : isSign t c = false := decide_eq_false fun x => h x.1
/-- what stands at the end is no value and opens nothing -/
theorem Stop.peek {U : List tk.Tok} (h : Stop U) (e c : Nat) : isValue (kd.peek e ⟨U, c⟩) = false ∧ isSign (kd.peek e ⟨U, c⟩) 61 = false ∧ isSign (kd.peek e ⟨U, c⟩) 123 = false ∧ isName (kd.peek e ⟨U, c⟩) = false ∧ ((kd.peek e ⟨U, c⟩).kind = 0 ∨ (kd.peek e ⟨U, c⟩).kind = 5 ∨ isSign (kd.peek e ⟨U, c⟩) 125 = true) := by
  rcases h with rfl | ⟨u, U', rfl, hu⟩
  · exact ⟨rfl, by rfl, by rfl, rfl, .inl rfl⟩
  · rw [peek_cons]
    rcases hu with hu | hu
    · refine ⟨?_, sign_no (by omega) _, sign_no (by omega) _, ?_, .inr (.inl hu)⟩
      · unfold isValue isName; rw [hu]; rfl
      · unfold isName; rw [hu]; rfl
    · have hk := (sign_kind hu).1
      refine ⟨?_, sign_other hu (by decide), sign_other hu (by decide), ?_, .inr (.inr hu)⟩
      · unfold isValue isName; rw [hk]; rfl
      · unfold isName; rw [hk]; rfl
theorem value_cons {e : Nat} {s : Ps} (h : isValue (peek e s) = true) : ∃ t r, s.toks = t :: r ∧ peek e s = t := by
  obtain ⟨l, b⟩ := s
  cases l with
  | nil => cases h
  | cons t r => exact ⟨t, r, rfl, rfl⟩
theorem name_cons {e : Nat} {s : Ps} (h : isName (peek e s) = true) : ∃ t r, s.toks = t :: r ∧ peek e s = t := by
  obtain ⟨l, b⟩ := s
  cases l with
  | nil => cases h
  | cons t r => exact ⟨t, r, rfl, rfl⟩
theorem parts_app (e e' : Nat) (U : List tk.Tok) (hU : Stop U) (c : Nat) : ∀ (f : Nat) (s : Ps) (vs : List Val) (ps : List Prp) (R : List Val × List Prp) (s' : Ps), parts e f s vs ps = .ok R s' →
    s'.begun = s.begun ∧ ∀ f', f ≤ f' → ∀ T, alike T s.toks → ∃ T', alike T' s'.toks ∧ parts e' f' ⟨T ++ U, c⟩ vs ps = .ok R ⟨T' ++ U, c⟩
  | 0, s, vs, ps, R, s', h => by cases h
  | f + 1, s, vs, ps, R, s', h => by
    unfold parts at h
    dsimp only at h
    by_cases hv : isValue (peek e s) = true
    · rw [if_pos hv] at h
      obtain ⟨t, r, hs, hp⟩ := value_cons hv
      rw [hp] at h hv
      have ht : take s = ⟨r, s.begun⟩ := by unfold take; rw [hs]; rfl
      rw [ht] at h
      by_cases he : isName t = false ∨ isSign (peek e ⟨r, s.begun⟩) 61 = false
      · rw [if_pos he] at h
        obtain ⟨h1, h2⟩ := parts_app e e' U hU c f _ _ _ _ _ h
        refine ⟨h1, fun f' hf T hT => ?_⟩
        obtain ⟨g, rfl⟩ : ∃ g, f' = g + 1 := ⟨f' - 1, by omega⟩
        rw [hs] at hT
        obtain ⟨t', r', rfl, hk, hr⟩ := hT.cons
        obtain ⟨T', hT', hq⟩ := h2 g (by omega) r' hr
        refine ⟨T', hT', ?_⟩
        unfold parts
        dsimp only
        rw [List.cons_append, peek_cons, key_isValue hk, if_pos hv, key_value hk, key_name hk]
        rw [if_pos]
        · exact hq
        · refine he.imp id fun h0 => ?_
          show isSign (peek e' ⟨r' ++ U, c⟩) 61 = false
          cases r with
          | nil => rw [hr.nil]; exact (hU.peek e' c).2.1
          | cons q r2 =>
            obtain ⟨q', r2', rfl, hq', -⟩ := hr.cons
            rw [List.cons_append, peek_cons, key_sign hq']
            exact h0
      · rw [if_neg he] at h
        by_cases hd : (ps.any fun p => decide (p.name = t.text)) = true
        · rw [if_pos hd] at h; cases h
        rw [if_neg hd] at h
        cases r with
        | nil => exact absurd (.inr (by rfl)) he
        | cons q r2 =>
          have ht2 : take ⟨q :: r2, s.begun⟩ = ⟨r2, s.begun⟩ := rfl
          rw [ht2] at h
          by_cases hv2 : isValue (peek e ⟨r2, s.begun⟩) = true
          · rw [if_pos hv2] at h
            obtain ⟨v, r3, hs3, hp3⟩ := value_cons hv2
            dsimp only at hs3
            subst hs3
            rw [peek_cons] at h hv2
            obtain ⟨h1, h2⟩ := parts_app e e' U hU c f _ _ _ _ _ h
            refine ⟨h1, fun f' hf T hT => ?_⟩
            obtain ⟨g, rfl⟩ : ∃ g, f' = g + 1 := ⟨f' - 1, by omega⟩
            rw [hs] at hT
            obtain ⟨t', r', rfl, hk, hr⟩ := hT.cons
            obtain ⟨q', r2', rfl, hkq, hr2⟩ := hr.cons
            obtain ⟨v', r3', rfl, hkv, hr3⟩ := hr2.cons
            obtain ⟨T', hT', hq⟩ := h2 g (by omega) r3' hr3
            refine ⟨T', hT', ?_⟩
            unfold parts
            dsimp only
            rw [List.cons_append, peek_cons, key_isValue hk, if_pos hv, key_name hk]
            have e1 : take ⟨t' :: (q' :: v' :: r3' ++ U), c⟩ = ⟨q' :: (v' :: (r3' ++ U)), c⟩ := rfl
            rw [peek_cons] at he
            rw [e1, peek_cons, key_sign hkq, if_neg he]
            rw [key_text hk, if_neg hd]
            have e2 : take ⟨q' :: (v' :: (r3' ++ U)), c⟩ = ⟨v' :: (r3' ++ U), c⟩ := rfl
            rw [e2, peek_cons, key_isValue hkv, if_pos hv2, key_value hkv]
            exact hq
          · rw [if_neg hv2] at h; cases h
    · rw [if_neg hv] at h
      injection h with h1 h2
      subst h1 h2
      refine ⟨rfl, fun f' hf T hT => ⟨T, hT, ?_⟩⟩
      obtain ⟨g, rfl⟩ : ∃ g, f' = g + 1 := ⟨f' - 1, by omega⟩
      unfold parts
      dsimp only
      rw [if_neg]
      obtain ⟨l, b⟩ := s
      cases l with
      | nil => rw [hT.nil, List.nil_append, (hU.peek e' c).1]; decide
      | cons t r =>
        obtain ⟨t', r', rfl, hk, hr⟩ := hT.cons
        rw [List.cons_append, peek_cons, key_isValue hk]
        exact hv
/-- too many nodes, or too deep -/
def Over {α : Type} (k : Nat) (a : Ans α) : Prop := (∃ x y, a = .bad 3 x y) ∨ (0 < k ∧ ∃ x y, a = .bad 4 x y)
def Kinds (l : List tk.Tok) : Prop := ∀ t ∈ l, t.kind ≠ 0
theorem Kinds.tail {t : tk.Tok} {r : List tk.Tok} (h : Kinds (t :: r)) : Kinds r := fun x hx => h x (List.mem_cons_of_mem _ hx)
theorem parts_kinds (e : Nat) : ∀ (f : Nat) (s : Ps) (vs : List Val) (ps : List Prp) (R : List Val × List Prp) (s' : Ps), parts e f s vs ps = .ok R s' → Kinds s.toks → Kinds s'.toks
  | 0, s, vs, ps, R, s', h, _ => by cases h
  | f + 1, s, vs, ps, R, s', h, hk => by
    have htl : ∀ x : Ps, Kinds x.toks → Kinds (take x).toks := fun x hx => by
      obtain ⟨l, b⟩ := x
      cases l with
      | nil => exact hx
      | cons t r => exact hx.tail
    unfold parts at h
    dsimp only at h
    split at h
    · split at h
      · exact parts_kinds e f _ _ _ _ _ h (htl _ hk)
      · split at h
        · cases h
        · split at h
          · exact parts_kinds e f _ _ _ _ _ h (htl _ (htl _ (htl _ hk)))
          · cases h
    · injection h with h1 h2
      subst h2
      exact hk
theorem breaks_app {T s : List tk.Tok} (h : alike T s) (U : List tk.Tok) : (s.dropWhile (fun t => decide (t.kind = 5)) = [] ∧ (T ++ U).dropWhile (fun t => decide (t.kind = 5)) = U.dropWhile (fun t => decide (t.kind = 5))) ∨
    (s.dropWhile (fun t => decide (t.kind = 5)) ≠ [] ∧ ∃ T', alike T' (s.dropWhile (fun t => decide (t.kind = 5))) ∧ (T ++ U).dropWhile (fun t => decide (t.kind = 5)) = T' ++ U) := by
  induction s generalizing T with
  | nil => rw [h.nil]; exact .inl ⟨rfl, rfl⟩
  | cons t r ih =>
    obtain ⟨t', r', rfl, hk, hr⟩ := h.cons
    by_cases h5 : t.kind = 5
    · have h5' : t'.kind = 5 := (key_kind hk).trans h5
      rw [List.cons_append, List.dropWhile_cons, List.dropWhile_cons, if_pos (decide_eq_true h5), if_pos (decide_eq_true h5')]
      exact ih hr
    · have h5' : ¬ t'.kind = 5 := fun x => h5 ((key_kind hk).symm.trans x)
      right
      rw [List.cons_append, List.dropWhile_cons, List.dropWhile_cons, if_neg (by simpa using h5), if_neg (by simpa using h5')]
      exact ⟨by simp, t' :: r', h, rfl⟩
theorem drop_kinds {l : List tk.Tok} (h : Kinds l) : Kinds (l.dropWhile fun t => decide (t.kind = 5)) := fun t ht => h t ((List.dropWhile_suffix _).subset ht)
theorem dw_head {l : List tk.Tok} (h : l.dropWhile (fun t => decide (t.kind = 5)) ≠ []) : ∃ t r, l.dropWhile (fun t => decide (t.kind = 5)) = t :: r := by
  cases hl : l.dropWhile (fun t => decide (t.kind = 5)) with
  | nil => exact absurd hl h
  | cons t r => exact ⟨t, r, rfl⟩
/-- how a list of nodes goes on behind other tokens; k deeper, c begun ahead -/
def ListApp (e e' : Nat) (f : Nat) : Prop := ∀ (d : Nat) (s : Ps) (ns R : List Node) (s' : Ps), list e f d s ns = .ok R s' → Kinds s.toks →
  ∃ r0 m, R = ns ++ r0 ∧ s'.begun = s.begun + m ∧ Kinds s'.toks ∧ (d = 0 → s'.toks = []) ∧ (0 < d → ∃ t r, s'.toks = t :: r ∧ isSign t 125 = true) ∧
    ∀ (k c : Nat) (U T : List tk.Tok) (ns0 : List Node) (f' : Nat), Stop U → alike T s.toks → f ≤ f' →
      if d = 0 then (∃ f'', f' - f < f'' ∧ list e' f' k ⟨T ++ U, c⟩ ns0 = list e' f'' k ⟨U, c + m⟩ (ns0 ++ r0)) ∨ Over k (list e' f' k ⟨T ++ U, c⟩ ns0)
      else (∃ T', alike T' s'.toks ∧ list e' f' (d + k) ⟨T ++ U, c⟩ ns0 = .ok (ns0 ++ r0) ⟨T' ++ U, c + m⟩) ∨ Over k (list e' f' (d + k) ⟨T ++ U, c⟩ ns0)
def NodeApp (e e' : Nat) (f : Nat) : Prop := ∀ (d : Nat) (s : Ps) (n : Node) (s' : Ps), node e f d s = .ok n s' → Kinds s.toks →
  ∃ m, s'.begun = s.begun + m ∧ Kinds s'.toks ∧ ∀ (k c : Nat) (U T : List tk.Tok) (f' : Nat), Stop U → alike T s.toks → f ≤ f' →
    (∃ T', alike T' s'.toks ∧ node e' f' (d + k) ⟨T ++ U, c⟩ = .ok n ⟨T' ++ U, c + m⟩) ∨ Over k (node e' f' (d + k) ⟨T ++ U, c⟩)
def KidsApp (e e' : Nat) (f : Nat) : Prop := ∀ (d : Nat) (s : Ps) (R : List Node) (s' : Ps), kids e f d s = .ok R s' → Kinds s.toks →
  ∃ m, s'.begun = s.begun + m ∧ Kinds s'.toks ∧ ∀ (k c : Nat) (U T : List tk.Tok) (f' : Nat), Stop U → alike T s.toks → f ≤ f' →
    (∃ T', alike T' s'.toks ∧ kids e' f' (d + k) ⟨T ++ U, c⟩ = .ok R ⟨T' ++ U, c + m⟩) ∨ Over k (kids e' f' (d + k) ⟨T ++ U, c⟩)
theorem kids_step {e e' f : Nat} (hL : ListApp e e' f) : KidsApp e e' (f + 1) := by
  intro d s R s' h hk
  unfold kids at h
  dsimp only at h
  by_cases ho : isSign (peek e s) 123 = false
  · rw [if_pos ho] at h
    injection h with h1 h2
    subst h1 h2
    refine ⟨0, rfl, hk, fun k c U T f' hU hT hf => .inl ⟨T, hT, ?_⟩⟩
    obtain ⟨g, rfl⟩ : ∃ g, f' = g + 1 := ⟨f' - 1, by omega⟩
    unfold kids
    dsimp only
    rw [if_pos]
    · rfl
    · obtain ⟨l, b⟩ := s
      cases l with
      | nil => rw [hT.nil]; exact (hU.peek e' c).2.2.1
      | cons t r =>
        obtain ⟨t', r', rfl, hkk, -⟩ := hT.cons
        rw [List.cons_append, peek_cons, key_sign hkk]
        exact ho
  · rw [if_neg ho] at h
    by_cases h12 : 12 ≤ d
    · rw [if_pos h12] at h; cases h
    rw [if_neg h12] at h
    obtain ⟨l, b⟩ := s
    cases l with
    | nil => exact absurd (by rfl) ho
    | cons t r =>
      rw [peek_cons] at ho
      have ht : take ⟨t :: r, b⟩ = ⟨r, b⟩ := rfl
      rw [ht] at h
      cases hl : list e f (d + 1) ⟨r, b⟩ [] with
      | bad c x y => rw [hl] at h; cases h
      | ok N s1 =>
        rw [hl] at h
        dsimp only at h
        injection h with h1 h2
        subst h1 h2
        obtain ⟨r0, m, hR, hm, hk1, -, hc1, happ⟩ := hL _ _ _ _ _ hl (Kinds.tail hk)
        obtain ⟨q, r1, hq, hq2⟩ := hc1 (by omega)
        rw [List.nil_append] at hR
        subst hR
        refine ⟨m, hm, ?_, fun k c U T f' hU hT hf => ?_⟩
        · show Kinds s1.toks.tail
          rw [hq] at hk1 ⊢
          exact hk1.tail
        obtain ⟨g, rfl⟩ : ∃ g, f' = g + 1 := ⟨f' - 1, by omega⟩
        obtain ⟨t', r', rfl, hkk, hr'⟩ := hT.cons
        have hA := happ k c U r' [] g hU hr' (by omega)
        rw [if_neg (by omega), show d + 1 + k = d + k + 1 by omega] at hA
        unfold kids
        dsimp only
        rw [List.cons_append, peek_cons, key_sign hkk, if_neg ho]
        have ht' : take ⟨t' :: (r' ++ U), c⟩ = ⟨r' ++ U, c⟩ := rfl
        rw [ht']
        by_cases h12k : 12 ≤ d + k
        · rw [if_pos h12k]
          exact .inr (.inr ⟨by omega, _, _, rfl⟩)
        rw [if_neg h12k]
        rcases hA with ⟨T', hT', hA⟩ | ⟨x, y, hA⟩ | ⟨hk0, x, y, hA⟩
        · rw [hA]
          rw [hq] at hT'
          obtain ⟨q', r1', rfl, -, hr1⟩ := hT'.cons
          refine .inl ⟨r1', ?_, rfl⟩
          show alike r1' s1.toks.tail
          rw [hq]; exact hr1
        · rw [hA]; exact .inr (.inl ⟨_, _, rfl⟩)
        · rw [hA]; exact .inr (.inr ⟨hk0, _, _, rfl⟩)
theorem node_step {e e' f : Nat} (hK : KidsApp e e' f) : NodeApp e e' (f + 1) := by
  intro d s n s' h hk
  unfold node at h
  dsimp only at h
  by_cases hn : isName (peek e s) = false
  · rw [if_pos hn] at h; cases h
  rw [if_neg hn] at h
  obtain ⟨t, r, hs, hp⟩ := name_cons (by simpa using hn)
  obtain ⟨l, b⟩ := s
  dsimp only at hs
  subst hs
  rw [peek_cons] at h hn
  have ht : take ⟨t :: r, b⟩ = ⟨r, b⟩ := rfl
  rw [ht] at h
  dsimp only at h
  by_cases h3 : 300 < b + 1
  · rw [if_pos h3] at h; cases h
  rw [if_neg h3] at h
  cases hpt : parts e (r.length + 1) ⟨r, b + 1⟩ [] [] with
  | bad c x y => rw [hpt] at h; cases h
  | ok V s3 =>
    rw [hpt] at h
    obtain ⟨vs, ps⟩ := V
    dsimp only at h
    have hk3 := parts_kinds e _ _ _ _ _ _ hpt (Kinds.tail hk)
    cases hkd : kids e f d s3 with
    | bad c x y => rw [hkd] at h; cases h
    | ok ks s4 =>
      rw [hkd] at h
      dsimp only at h
      by_cases hend : (peek e s4).kind ≠ 0 ∧ (peek e s4).kind ≠ 5 ∧ isSign (peek e s4) 125 = false
      · rw [if_pos hend] at h; cases h
      rw [if_neg hend] at h
      injection h with h1 h2
      subst h1 h2
      obtain ⟨m, hm, hk4, happ⟩ := hK _ _ _ _ hkd hk3
      have hb3 := (parts_app e e' [] (.inl rfl) 0 _ _ _ _ _ _ hpt).1
      dsimp only at hb3
      refine ⟨m + 1, by show s4.begun = b + (m + 1); omega, hk4, fun k c U T f' hU hT hf => ?_⟩
      obtain ⟨g, rfl⟩ : ∃ g, f' = g + 1 := ⟨f' - 1, by omega⟩
      obtain ⟨t', r', rfl, hkk, hr'⟩ := hT.cons
      unfold node
      dsimp only
      rw [List.cons_append, peek_cons, key_name hkk, if_neg hn]
      have ht' : take ⟨t' :: (r' ++ U), c⟩ = ⟨r' ++ U, c⟩ := rfl
      rw [ht']
      dsimp only
      by_cases h3c : 300 < c + 1
      · rw [if_pos h3c]; exact .inr (.inl ⟨_, _, rfl⟩)
      rw [if_neg h3c]
      obtain ⟨T', hT', hq⟩ := (parts_app e e' U hU (c + 1) _ _ _ _ _ _ hpt).2 ((r' ++ U).length + 1) (by
        have hlen : r'.length = r.length := by have := congrArg List.length hr'; simpa using this
        rw [List.length_append]; omega) r' hr'
      rw [hq]
      dsimp only
      have hA := happ k (c + 1) U T' g hU hT' (by omega)
      rcases hA with ⟨T4, hT4, hA⟩ | ⟨x, y, hA⟩ | ⟨hk0, x, y, hA⟩
      · rw [hA]
        dsimp only
        rw [if_neg]
        · exact .inl ⟨T4, hT4, by rw [key_text hkk, Nat.add_assoc, Nat.add_comm 1 m]⟩
        · obtain ⟨l4, b4⟩ := s4
          cases l4 with
          | nil =>
            rw [hT4.nil, List.nil_append]
            rcases (hU.peek e' (c + 1 + m)).2.2.2.2 with h0 | h5 | hc
            · exact fun x => x.1 h0
            · exact fun x => x.2.1 h5
            · exact fun x => by rw [hc] at x; exact Bool.noConfusion x.2.2
          | cons q r4 =>
            obtain ⟨q', r4', rfl, hq', -⟩ := hT4.cons
            rw [List.cons_append, peek_cons, key_kind hq', key_sign hq']
            exact hend
      · rw [hA]; exact .inr (.inl ⟨_, _, rfl⟩)
      · rw [hA]; exact .inr (.inr ⟨hk0, _, _, rfl⟩)
theorem closes_pos (e d : Nat) (s : Ps) (h : 0 < d) : closes e d s = isSign (peek e s) 125 := if_neg (by omega)
theorem list_breaks (e f d : Nat) (l l' : List tk.Tok) (c : Nat) (ns : List Node) (h : l.dropWhile (fun t => decide (t.kind = 5)) = l'.dropWhile (fun t => decide (t.kind = 5))) : list e (f + 1) d ⟨l, c⟩ ns = list e (f + 1) d ⟨l', c⟩ ns := by
  unfold list breaks
  dsimp only
  rw [h]
theorem list_step {e e' f : Nat} (hN : NodeApp e e' f) (hL : ListApp e e' f) : ListApp e e' (f + 1) := by
  intro d s ns R s' h hk
  obtain ⟨l, b⟩ := s
  unfold list at h
  dsimp only [breaks] at h
  by_cases hc : closes e d ⟨l.dropWhile (fun t => decide (t.kind = 5)), b⟩ = true
  · rw [if_pos hc] at h
    injection h with h1 h2
    subst h1 h2
    refine ⟨[], 0, by simp, rfl, drop_kinds hk, ?_, ?_, fun k c U T ns0 f' hU hT hf => ?_⟩
    · intro h0
      subst h0
      unfold closes at hc
      rw [if_pos rfl] at hc
      have h0 := of_decide_eq_true hc
      cases hl : l.dropWhile (fun t => decide (t.kind = 5)) with
      | nil => rfl
      | cons t r => rw [hl, peek_cons] at h0; exact absurd h0 (drop_kinds hk t (by rw [hl]; exact List.mem_cons_self))
    · intro h0
      unfold closes at hc
      rw [if_neg (by omega)] at hc
      cases hl : l.dropWhile (fun t => decide (t.kind = 5)) with
      | nil => rw [hl] at hc; cases hc
      | cons t r => rw [hl, peek_cons] at hc; exact ⟨t, r, rfl, hc⟩
    · obtain ⟨g, rfl⟩ : ∃ g, f' = g + 1 := ⟨f' - 1, by omega⟩
      dsimp only at hT
      rw [List.append_nil]
      by_cases hd : d = 0
      · rw [if_pos hd]
        subst hd
        left
        refine ⟨g + 1, by omega, ?_⟩
        rcases breaks_app hT U with ⟨h1, h2⟩ | ⟨h1, -⟩
        · exact list_breaks e' g k _ _ _ _ h2
        · obtain ⟨t, r, hl⟩ := dw_head h1
          unfold closes at hc
          rw [if_pos rfl, hl, peek_cons] at hc
          exact absurd (of_decide_eq_true hc) (drop_kinds hk t (by rw [hl]; exact List.mem_cons_self))
      · rw [if_neg hd]
        left
        unfold closes at hc
        rw [if_neg hd] at hc
        rcases breaks_app hT U with ⟨h1, -⟩ | ⟨-, T', h1, h2⟩
        · rw [h1] at hc; cases hc
        · refine ⟨T', h1, ?_⟩
          cases hl : l.dropWhile (fun t => decide (t.kind = 5)) with
          | nil => rw [hl] at hc; cases hc
          | cons t r =>
            rw [hl] at h1 hc
            rw [peek_cons] at hc
            obtain ⟨t', r', rfl, hkk, -⟩ := h1.cons
            unfold list breaks
            dsimp only
            rw [h2, List.cons_append, if_pos (by rw [closes_pos e' (d + k) _ (by omega), peek_cons, key_sign hkk]; exact hc)]
            rfl
  · rw [if_neg hc] at h
    cases hnd : node e f d ⟨l.dropWhile (fun t => decide (t.kind = 5)), b⟩ with
    | bad c x y => rw [hnd] at h; cases h
    | ok n s2 =>
      rw [hnd] at h
      dsimp only at h
      have hnm : isName (peek e ⟨l.dropWhile (fun t => decide (t.kind = 5)), b⟩) = true := by
        cases f with
        | zero => cases hnd
        | succ f =>
          unfold node at hnd
          dsimp only at hnd
          by_cases hn : isName (peek e ⟨l.dropWhile (fun t => decide (t.kind = 5)), b⟩) = false
          · rw [if_pos hn] at hnd; cases hnd
          · simpa using hn
      obtain ⟨t, r, hl, -⟩ := name_cons hnm
      dsimp only at hl
      obtain ⟨m1, hm1, hk2, happ1⟩ := hN _ _ _ _ hnd (drop_kinds hk)
      obtain ⟨r0, m2, hR, hm2, hk3, h0, hpos, happ2⟩ := hL _ _ _ _ _ h hk2
      dsimp only at hm1
      refine ⟨n :: r0, m1 + m2, by rw [hR]; simp, by show s'.begun = b + (m1 + m2); omega, hk3, h0, hpos, fun k c U T ns0 f' hU hT hf => ?_⟩
      obtain ⟨g, rfl⟩ : ∃ g, f' = g + 1 := ⟨f' - 1, by omega⟩
      dsimp only at hT
      rcases breaks_app hT U with ⟨h1, -⟩ | ⟨-, T', h1, h2⟩
      · rw [h1] at hl; cases hl
      have e1 : list e' (g + 1) (d + k) ⟨T ++ U, c⟩ ns0 = match node e' g (d + k) ⟨T' ++ U, c⟩ with
          | .ok n s2 => list e' g (d + k) s2 (ns0 ++ [n])
          | .bad c x s2 => .bad c x s2 := by
        conv => lhs; unfold list
        dsimp only [breaks]
        have hcl : closes e' (d + k) ⟨T' ++ U, c⟩ = false := by
          rw [hl] at h1
          obtain ⟨t', r', rfl, hkk, -⟩ := h1.cons
          rw [hl, peek_cons, ← key_name hkk] at hnm
          unfold closes
          rw [List.cons_append, peek_cons]
          have hkd : t'.kind = 1 ∨ t'.kind = 2 := of_decide_eq_true hnm
          split
          · exact decide_eq_false (by omega)
          · exact sign_no (by omega) _
        rw [h2, if_neg (by rw [hcl]; exact Bool.noConfusion)]
        cases node e' g (d + k) ⟨T' ++ U, c⟩ <;> rfl
      have hA := happ1 k c U T' g hU h1 (by omega)
      have e2 : ∀ X, X = list e' (g + 1) (d + k) ⟨T ++ U, c⟩ ns0 → if d = 0 then (∃ f'', g + 1 - (f + 1) < f'' ∧ X = list e' f'' k ⟨U, c + (m1 + m2)⟩ (ns0 ++ n :: r0)) ∨ Over k X
          else (∃ T', alike T' s'.toks ∧ X = .ok (ns0 ++ n :: r0) ⟨T' ++ U, c + (m1 + m2)⟩) ∨ Over k X := by
        intro X hX
        rw [e1] at hX
        rcases hA with ⟨T2, hT2, hA⟩ | ⟨x, y, hA⟩ | ⟨hk0, x, y, hA⟩
        · rw [hA] at hX
          dsimp only at hX
          have hB := happ2 k (c + m1) U T2 (ns0 ++ [n]) g hU hT2 (by omega)
          rw [Nat.add_assoc, List.append_assoc, List.singleton_append] at hB
          subst hX
          by_cases hd : d = 0
          · subst hd
            rw [if_pos rfl] at hB ⊢
            rw [Nat.zero_add]
            rcases hB with ⟨f'', hf'', hB⟩ | hB
            · exact .inl ⟨f'', by omega, hB⟩
            · exact .inr hB
          · rw [if_neg hd] at hB ⊢
            exact hB
        · rw [hA] at hX
          subst hX
          split
          · exact .inr (.inl ⟨_, _, rfl⟩)
          · exact .inr (.inl ⟨_, _, rfl⟩)
        · rw [hA] at hX
          subst hX
          split
          · exact .inr (.inr ⟨hk0, _, _, rfl⟩)
          · exact .inr (.inr ⟨hk0, _, _, rfl⟩)
      have := e2 _ rfl
      by_cases hd : d = 0
      · subst hd
        rw [if_pos rfl] at this ⊢
        rw [Nat.zero_add] at this
        exact this
      · rw [if_neg hd] at this ⊢
        exact this
theorem all_app (e e' : Nat) : ∀ f, ListApp e e' f ∧ NodeApp e e' f ∧ KidsApp e e' f
  | 0 => by
    refine ⟨?_, ?_, ?_⟩
    · intro d s ns R s' h _
      unfold list at h
      cases h
    · intro d s n s' h _
      unfold node at h
      cases h
    · intro d s R s' h _
      unfold kids at h
      cases h
  | f + 1 => ⟨list_step (all_app e e' f).2.1 (all_app e e' f).1, node_step (all_app e e' f).2.2, kids_step (all_app e e' f).1⟩
end Go.Proofs.YthmiaamjbokljaaGreatDoor.kd
