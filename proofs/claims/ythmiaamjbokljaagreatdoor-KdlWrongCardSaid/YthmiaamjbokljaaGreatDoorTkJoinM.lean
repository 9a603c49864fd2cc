/- Two texts with a line feed between: what the reader says of them. On lists; no Go. -/
import Derived.Test.YthmiaamjbokljaaGreatDoorTkTokens
namespace Go.Proofs.YthmiaamjbokljaaGreatDoor
open Go

/-- one reading, out of what lies ahead -/
def tk.nx (r : tk.St) (c : UInt8) (l : List UInt8) : tk.St :=
  if tk.isBlank c then { r with at_ := r.at_ + tk.span tk.isBlank (c :: l) }
  else if Lib.hasPrefix (c :: l) [47, 47] then { r with at_ := r.at_ + tk.span tk.inLine (c :: l) }
  else if Lib.hasPrefix (c :: l) [47, 42] then tk.remark r (c :: l)
  else if tk.isBreak c then tk.tell r 5 [c]
  else if tk.isSign c then tk.tell r 4 [c]
  else if c.toNat = 34 then tk.quote r (c :: l)
  else if 0 < tk.intLen (c :: l) then tk.integer r (c :: l)
  else if tk.isWord c then tk.tell r 1 ((c :: l).takeWhile tk.isWord)
  else tk.fail r 70 r.at_
theorem tk.next_nx {s : List UInt8} {r : tk.St} {c : UInt8} {l : List UInt8} (h : s.drop r.at_ = c :: l) : tk.next s r = tk.nx r c l := by
  unfold tk.next
  rw [h]
  rfl

theorem tk.tw_app (p : UInt8 → Bool) (hp : p 10 = false) (b : List UInt8) : ∀ L : List UInt8, (L ++ 10 :: b).takeWhile p = L.takeWhile p
  | [] => by simp [hp]
  | c :: l => by
    rw [List.cons_append, List.takeWhile_cons, List.takeWhile_cons, tk.tw_app p hp b l]
theorem tk.span_app (p : UInt8 → Bool) (hp : p 10 = false) (b L : List UInt8) : tk.span p (L ++ 10 :: b) = tk.span p L := by
  unfold tk.span
  rw [tk.tw_app p hp]
theorem tk.ix_cons (x : UInt8) (l p : List UInt8) : Lib.index (x :: l) p = if p.isPrefixOf (x :: l) then 0 else if Lib.index l p == -1 then -1 else Lib.index l p + 1 := rfl
theorem tk.ix_app : ∀ (m t : List UInt8), 0 ≤ Lib.index m [42, 47] → Lib.index (m ++ t) [42, 47] = Lib.index m [42, 47] ∧ (Lib.index m [42, 47]).toNat + 2 ≤ m.length
  | [], t, h => absurd h (by decide)
  | [x], t, h => by
    rw [tk.ix_cons] at h
    have hp : ([42, 47] : List UInt8).isPrefixOf [x] = false := by simp [List.isPrefixOf]
    rw [hp] at h
    exact absurd h (by decide)
  | x :: y :: l, t, h => by
    have e1 := tk.ix_cons x (y :: l) [42, 47]
    have hq : ([42, 47] : List UInt8).isPrefixOf (x :: (y :: l ++ t)) = ([42, 47] : List UInt8).isPrefixOf (x :: y :: l) := by simp [List.isPrefixOf]
    have e2 : Lib.index ((x :: y :: l) ++ t) [42, 47] = if ([42, 47] : List UInt8).isPrefixOf (x :: y :: l) then 0 else if Lib.index (y :: l ++ t) [42, 47] == -1 then -1 else Lib.index (y :: l ++ t) [42, 47] + 1 := by
      rw [← hq]; exact tk.ix_cons x (y :: l ++ t) [42, 47]
    rw [e1] at h
    rw [e1, e2]
    by_cases hp : ([42, 47] : List UInt8).isPrefixOf (x :: y :: l) = true
    · rw [if_pos hp, if_pos hp]
      exact ⟨rfl, by simp⟩
    · rw [if_neg hp] at h
      rw [if_neg hp, if_neg hp]
      by_cases hm : (Lib.index (y :: l) [42, 47] == -1) = true
      · rw [if_pos hm] at h; exact absurd h (by decide)
      · have hge := Lib.index_ge (y :: l) [42, 47]
        have h2 : 0 ≤ Lib.index (y :: l) [42, 47] := by
          have : Lib.index (y :: l) [42, 47] ≠ -1 := by simpa using hm
          omega
        obtain ⟨i1, i2⟩ := tk.ix_app (y :: l) t h2
        rw [i1, if_neg hm]
        refine ⟨rfl, ?_⟩
        simp only [List.length_cons] at i2 ⊢
        omega
theorem tk.qend_app : ∀ (k : Nat) (l t : List UInt8) (e : Nat), tk.qend k l = some e → tk.qend k (l ++ t) = some e ∧ e < k + l.length
  | k, [], t, e, h => by simp [tk.qend] at h
  | k, [c], t, e, h => by
    unfold tk.qend at h
    by_cases hc : c.toNat = 34
    · rw [if_pos hc] at h
      obtain rfl := Option.some.inj h
      refine ⟨?_, by simp⟩
      cases t with
      | nil => unfold tk.qend; exact if_pos hc
      | cons d r =>
        show tk.qend k (c :: d :: r) = some k
        unfold tk.qend
        rw [if_neg (by omega), if_pos hc]
    · rw [if_neg hc] at h; cases h
  | k, c :: d :: r, t, e, h => by
    unfold tk.qend at h
    show tk.qend k (c :: d :: (r ++ t)) = some e ∧ _
    unfold tk.qend
    split
    · rename_i h92
      rw [if_pos h92] at h
      obtain ⟨h1, h2⟩ := tk.qend_app (k + 2) r t e h
      refine ⟨h1, ?_⟩
      simp only [List.length_cons]; omega
    · rename_i h92
      rw [if_neg h92] at h
      split
      · rename_i h34
        rw [if_pos h34] at h
        obtain rfl := Option.some.inj h
        exact ⟨rfl, by simp⟩
      · rename_i h34
        rw [if_neg h34] at h
        obtain ⟨h1, h2⟩ := tk.qend_app (k + 1) (d :: r) t e h
        refine ⟨h1, ?_⟩
        simp only [List.length_cons] at h2 ⊢; omega
theorem tk.trim_app (c : UInt8) (l t : List UInt8) : Lib.trimPrefix (c :: (l ++ t)) [45] = Lib.trimPrefix (c :: l) [45] ++ t := by
  unfold Lib.trimPrefix Lib.hasPrefix
  have h1 : ([45] : List UInt8).isPrefixOf (c :: (l ++ t)) = ([45] : List UInt8).isPrefixOf (c :: l) := by simp [List.isPrefixOf]
  rw [h1]
  split <;> rfl
theorem tk.intLen_app (c : UInt8) (l b : List UInt8) : tk.intLen (c :: (l ++ 10 :: b)) = tk.intLen (c :: l) := by
  unfold tk.intLen
  dsimp only
  rw [tk.trim_app, tk.span_app tk.isDigit (by decide)]
  split
  · rfl
  · have := tk.trim_len (c :: l)
    simp only [List.length_cons, List.length_append] at this ⊢
    omega
theorem tk.hp_app (c : UInt8) (l b : List UInt8) (x : UInt8) (hx : x ≠ 10) : Lib.hasPrefix (c :: (l ++ 10 :: b)) [47, x] = Lib.hasPrefix (c :: l) [47, x] := by
  unfold Lib.hasPrefix
  cases l with
  | nil =>
    have hx' : (x == 10) = false := by simpa using hx
    simp [List.isPrefixOf, hx]
  | cons d m => simp [List.isPrefixOf]

theorem tk.nx_app (c : UInt8) (l b : List UInt8) (r : tk.St) (h0 : (tk.nx r c l).code = 0) : tk.nx r c (l ++ 10 :: b) = tk.nx r c l ∧ (tk.nx r c l).at_ ≤ r.at_ + (c :: l).length := by
  have e1 := tk.hp_app c l b 47 (by decide)
  have e2 := tk.hp_app c l b 42 (by decide)
  have e3 : tk.span tk.isBlank (c :: (l ++ 10 :: b)) = tk.span tk.isBlank (c :: l) := tk.span_app tk.isBlank (by decide) b (c :: l)
  have e4 : tk.span tk.inLine (c :: (l ++ 10 :: b)) = tk.span tk.inLine (c :: l) := tk.span_app tk.inLine (by decide) b (c :: l)
  have e5 := tk.intLen_app c l b
  have e6 : (c :: (l ++ 10 :: b)).takeWhile tk.isWord = (c :: l).takeWhile tk.isWord := tk.tw_app tk.isWord (by decide) b (c :: l)
  have hlt : ∀ n, n ≤ (c :: l).length → r.at_ + n ≤ r.at_ + (c :: l).length := fun n h => by omega
  revert h0
  unfold tk.nx
  rw [e1, e2, e3, e4, e5, e6]
  split
  · exact fun _ => ⟨rfl, hlt _ (tk.span_le _ _)⟩
  split
  · exact fun _ => ⟨rfl, hlt _ (tk.span_le _ _)⟩
  split
  · rename_i hp
    cases l with
    | nil => simp [Lib.hasPrefix, List.isPrefixOf] at hp
    | cons d m =>
      unfold tk.remark
      show (if Lib.index m [42, 47] < 0 then _ else _ : tk.St).code = 0 → (if Lib.index (m ++ 10 :: b) [42, 47] < 0 then _ else ({ r with at_ := r.at_ + (2 + (Lib.index (m ++ 10 :: b) [42, 47]).toNat + 2) } : tk.St)) = (if Lib.index m [42, 47] < 0 then _ else _) ∧ (if Lib.index m [42, 47] < 0 then _ else _ : tk.St).at_ ≤ _
      by_cases hi : Lib.index m [42, 47] < 0
      · rw [if_pos hi]
        exact fun h => absurd (show (71 : Nat) = 0 from h) (by decide)
      · obtain ⟨i1, i2⟩ := tk.ix_app m (10 :: b) (by omega)
        rw [i1, if_neg hi, if_neg hi]
        refine fun _ => ⟨rfl, hlt (2 + (Lib.index m [42, 47]).toNat + 2) ?_⟩
        simp only [List.length_cons]; omega
  split
  · exact fun _ => ⟨rfl, hlt 1 (by simp)⟩
  split
  · exact fun _ => ⟨rfl, hlt 1 (by simp)⟩
  split
  · unfold tk.quote tk.quoteEnd
    show (match tk.qend 1 l with | none => _ | some e => _ : tk.St).code = 0 → (match tk.qend 1 (l ++ 10 :: b) with | none => _ | some e => _ : tk.St) = (match tk.qend 1 l with | none => _ | some e => _) ∧ (match tk.qend 1 l with | none => _ | some e => _ : tk.St).at_ ≤ _
    cases hq : tk.qend 1 l with
    | none => exact fun h => absurd (show (71 : Nat) = 0 from h) (by decide)
    | some e =>
      obtain ⟨q1, q2⟩ := tk.qend_app 1 l (10 :: b) e hq
      rw [q1]
      have ht : (c :: (l ++ 10 :: b)).take e = (c :: l).take e := List.take_append_of_le_length (l₁ := c :: l) (by simp only [List.length_cons]; omega)
      dsimp only
      rw [ht]
      split
      · exact fun _ => ⟨rfl, hlt (e + 1) (by simp only [List.length_cons]; omega)⟩
      · rename_i hu
        exact fun h => absurd h hu
  split
  · have hn := tk.intLen_le (c :: l)
    unfold tk.integer
    dsimp only
    rw [e5]
    have ht : (c :: (l ++ 10 :: b)).take (tk.intLen (c :: l)) = (c :: l).take (tk.intLen (c :: l)) := List.take_append_of_le_length (l₁ := c :: l) hn
    have hd : (c :: (l ++ 10 :: b)).drop (tk.intLen (c :: l)) = (c :: l).drop (tk.intLen (c :: l)) ++ 10 :: b := List.drop_append_of_le_length (l₁ := c :: l) hn
    rw [ht, hd, tk.span_app tk.isWord (by decide)]
    split
    · split
      · exact fun _ => ⟨rfl, hlt _ hn⟩
      · exact fun h => absurd (show (73 : Nat) = 0 from h) (by decide)
    · exact fun h => absurd (show (73 : Nat) = 0 from h) (by decide)
  split
  · exact fun _ => ⟨rfl, hlt _ (tk.span_le tk.isWord (c :: l))⟩
  · exact fun h => absurd (show (70 : Nat) = 0 from h) (by decide)
theorem tk.next_app (a b : List UInt8) (r : tk.St) (h : r.at_ < a.length) (h0 : (tk.next a r).code = 0) : tk.next (a ++ 10 :: b) r = tk.next a r ∧ (tk.next a r).at_ ≤ a.length := by
  have hl := tk.drop_cons a r.at_ h
  have hd : (a ++ 10 :: b).drop r.at_ = a[r.at_] :: (a.drop (r.at_ + 1) ++ 10 :: b) := by
    rw [List.drop_append_of_le_length (by omega), hl]; rfl
  rw [tk.next_nx hl] at h0 ⊢
  rw [tk.next_nx hd]
  obtain ⟨h1, h2⟩ := tk.nx_app _ _ b r h0
  refine ⟨h1, Nat.le_trans h2 ?_⟩
  simp only [List.length_cons, List.length_drop]; omega

theorem tk.run_go (s : List UInt8) (f : Nat) (r : tk.St) (h : r.at_ < s.length ∧ r.code = 0) : tk.run s (f + 1) r = tk.run s f (tk.next s r) := by
  show (if _ then _ else _) = _
  rw [if_pos h]
theorem tk.run_fuel (s : List UInt8) : ∀ (f : Nat) (r : tk.St), s.length - r.at_ ≤ f → r.toks.length ≤ r.at_ → ∀ g, f ≤ g → tk.run s g r = tk.run s f r
  | 0, r, h, _, g, _ => by rw [tk.run_stop s g r (by omega)]; rfl
  | f + 1, r, h, ht, g, hg => by
    by_cases hc : r.at_ < s.length ∧ r.code = 0
    · obtain ⟨g, rfl⟩ : ∃ k, g = k + 1 := ⟨g - 1, by omega⟩
      rw [tk.run_go s f r hc, tk.run_go s g r hc]
      obtain ⟨h1, h2⟩ := tk.next_prog s r hc.1 hc.2 ht
      rcases h1 with h1 | ⟨h1, _⟩
      · rw [tk.run_stop s f _ (by omega), tk.run_stop s g _ (by omega)]
      · exact tk.run_fuel s f _ (by omega) h2 g (by omega)
    · rw [tk.run_stop s _ r hc, tk.run_stop s _ r hc]
theorem tk.run_app (a b : List UInt8) : ∀ (f : Nat) (r : tk.St), r.at_ ≤ a.length → r.toks.length ≤ r.at_ → a.length - r.at_ ≤ f → (tk.run a f r).code = 0 → ∀ F, (a ++ 10 :: b).length - r.at_ ≤ F → ∃ F', b.length + 1 ≤ F' ∧ tk.run (a ++ 10 :: b) F r = tk.run (a ++ 10 :: b) F' (tk.run a f r) ∧ (tk.run a f r).at_ = a.length ∧ (tk.run a f r).toks.length ≤ a.length
  | 0, r, h1, h2, h3, h4, F, hF => by
    have e : r.at_ = a.length := by omega
    rw [List.length_append, List.length_cons] at hF
    exact ⟨F, by omega, rfl, e, by show r.toks.length ≤ _; omega⟩
  | f + 1, r, h1, h2, h3, h4, F, hF => by
    by_cases hc : r.at_ < a.length ∧ r.code = 0
    · rw [tk.run_go a f r hc] at h4 ⊢
      obtain ⟨p1, p2⟩ := tk.next_prog a r hc.1 hc.2 h2
      by_cases hn : (tk.next a r).code = 0
      · obtain ⟨e, hb⟩ := tk.next_app a b r hc.1 hn
        have hF' := hF
        rw [List.length_append, List.length_cons] at hF'
        obtain ⟨F, rfl⟩ : ∃ k, F = k + 1 := ⟨F - 1, by omega⟩
        rw [tk.run_go (a ++ 10 :: b) F r ⟨by rw [List.length_append, List.length_cons]; omega, hc.2⟩, e]
        refine tk.run_app a b f _ hb p2 (by omega) h4 F ?_
        rw [List.length_append, List.length_cons]; omega
      · rw [tk.run_stop a f _ (by omega)] at h4
        exact absurd h4 hn
    · rw [tk.run_stop a _ r hc] at h4 ⊢
      have e : r.at_ = a.length := by omega
      rw [List.length_append, List.length_cons] at hF
      exact ⟨F, by omega, rfl, e, by omega⟩

/-- the second reader stands m bytes on, with X ahead of its tokens -/
def tk.sh (m : Nat) (t : tk.Tok) : tk.Tok := { t with at_ := t.at_ + m }
structure tk.Sh (X : List tk.Tok) (m : Nat) (r r' : tk.St) : Prop where
  at_ : r'.at_ = r.at_ + m
  toks : r'.toks = X ++ r.toks.map (tk.sh m)
  code : r'.code = r.code
  place : r.code ≠ 0 → r'.place = r.place + (m : Int)
theorem tk.Sh.add {X : List tk.Tok} {m : Nat} {r r' : tk.St} (h : tk.Sh X m r r') (t : tk.Tok) (n : Nat) : tk.Sh X m (tk.add r t n) (tk.add r' t n) :=
  ⟨by show r'.at_ + n = r.at_ + n + m; rw [h.at_]; omega, by
    show r'.toks ++ [{ t with at_ := r'.at_ }] = X ++ (r.toks ++ [{ t with at_ := r.at_ }]).map (tk.sh m)
    rw [h.toks, h.at_, List.map_append, List.append_assoc]
    rfl, h.code, h.place⟩
theorem tk.Sh.fail {X : List tk.Tok} {m : Nat} {r r' : tk.St} (h : tk.Sh X m r r') (c : Nat) (x x' : Int) (hx : x' = x + (m : Int)) : tk.Sh X m (tk.fail r c x) (tk.fail r' c x') :=
  ⟨h.at_, h.toks, rfl, fun _ => hx⟩
theorem tk.Sh.go {X : List tk.Tok} {m : Nat} {r r' : tk.St} (h : tk.Sh X m r r') (n : Nat) : tk.Sh X m { r with at_ := r.at_ + n } { r' with at_ := r'.at_ + n } :=
  ⟨by show r'.at_ + n = r.at_ + n + m; rw [h.at_]; omega, h.toks, h.code, h.place⟩
theorem tk.Sh.nx {X : List tk.Tok} {m : Nat} {r r' : tk.St} (h : tk.Sh X m r r') (c : UInt8) (l : List UInt8) : tk.Sh X m (tk.nx r c l) (tk.nx r' c l) := by
  have ha : ((r'.at_ : Nat) : Int) = (r.at_ : Int) + (m : Int) := by rw [h.at_]; omega
  unfold tk.nx
  split
  · exact h.go _
  split
  · exact h.go _
  split
  · unfold tk.remark
    split
    · exact h.fail _ _ _ ha
    · exact h.go _
  split
  · exact h.add _ _
  split
  · exact h.add _ _
  split
  · unfold tk.quote
    split
    · exact h.fail _ _ _ ha
    · dsimp only
      split
      · exact h.add _ _
      · exact h.fail _ _ _ (by omega)
  split
  · unfold tk.integer
    dsimp only
    split
    · split
      · exact h.add _ _
      · exact h.fail _ _ _ ha
    · exact h.fail _ _ _ ha
  split
  · exact h.add _ _
  · exact h.fail _ _ _ ha
theorem tk.Sh.run {X : List tk.Tok} {m : Nat} {s b : List UInt8} (hs : s.drop m = b) (hm : s.length = b.length + m) : ∀ (f : Nat) {r r' : tk.St}, tk.Sh X m r r' → tk.Sh X m (tk.run b f r) (tk.run s f r')
  | 0, r, r', h => h
  | f + 1, r, r', h => by
    by_cases hc : r.at_ < b.length ∧ r.code = 0
    · have hc' : r'.at_ < s.length ∧ r'.code = 0 := ⟨by rw [h.at_, hm]; omega, h.code.trans hc.2⟩
      rw [tk.run_go b f r hc, tk.run_go s f r' hc']
      refine tk.Sh.run hs hm f ?_
      have hl := tk.drop_cons b r.at_ hc.1
      have hd : s.drop r'.at_ = b[r.at_]'hc.1 :: b.drop (r.at_ + 1) := by
        rw [← hl, ← hs, List.drop_drop, h.at_, Nat.add_comm]
      rw [tk.next_nx hl, tk.next_nx hd]
      exact h.nx _ _
    · have hc' : ¬ (r'.at_ < s.length ∧ r'.code = 0) := fun q => hc ⟨by have := q.1; rw [h.at_, hm] at this; omega, h.code.symm.trans q.2⟩
      rw [tk.run_stop b _ r hc, tk.run_stop s _ r' hc']
      exact h

theorem tk.tokens_join (a b : List UInt8) (h : (tk.tokens a).2.1 = 0) (hl : a.length + b.length ≤ 4000) :
    ((tk.tokens b).2.1 = 0 → tk.tokens (a ++ 10 :: b) = ((tk.tokens a).1 ++ { kind := 5, text := [10], at_ := a.length } :: (tk.tokens b).1.map (tk.sh (a.length + 1)), 0, 0)) ∧
    ((tk.tokens b).2.1 ≠ 0 → tk.tokens (a ++ 10 :: b) = ([], (tk.tokens b).2.1, (tk.tokens b).2.2 + ((a.length + 1 : Nat) : Int))) := by
  have hla : ¬ 4096 < a.length := by omega
  have hlb : ¬ 4096 < b.length := by omega
  have hls : ¬ 4096 < (a ++ 10 :: b).length := by rw [List.length_append, List.length_cons]; omega
  revert h
  unfold tk.tokens
  rw [if_neg hla, if_neg hlb, if_neg hls]
  dsimp only
  intro h
  have h4 : (tk.run a a.length {}).code = 0 := by
    by_cases hx : (tk.run a a.length {}).code = 0
    · exact hx
    · rw [if_neg hx] at h; exact absurd h hx
  rw [if_pos h4]
  obtain ⟨F, hF, e, h5, h6⟩ := tk.run_app a b a.length {} (by exact Nat.zero_le _) (Nat.le_refl _) (by exact Nat.sub_le _ _) h4 (a ++ 10 :: b).length (by exact Nat.sub_le _ _)
  rw [e]
  generalize hR : tk.run a a.length {} = R at *
  obtain ⟨F, rfl⟩ : ∃ k, F = k + 1 := ⟨F - 1, by omega⟩
  have hd : (a ++ 10 :: b).drop R.at_ = 10 :: b := by rw [h5]; simp
  rw [tk.run_go _ F R ⟨by rw [h5, List.length_append, List.length_cons]; omega, h4⟩, tk.next_nx hd]
  have hnx : tk.nx R 10 b = tk.tell R 5 [10] := by
    unfold tk.nx
    rw [if_neg (by decide), if_neg (by simp [Lib.hasPrefix, List.isPrefixOf]), if_neg (by simp [Lib.hasPrefix, List.isPrefixOf]), if_pos (by decide)]
  rw [hnx]
  have hs0 : tk.Sh (R.toks ++ [{ kind := 5, text := [10], at_ := a.length }]) (a.length + 1) {} (tk.tell R 5 [10]) :=
    ⟨by show R.at_ + 1 = 0 + (a.length + 1); omega, by
      show R.toks ++ [_] = _
      rw [h5]
      simp, h4, fun hx => absurd rfl hx⟩
  have hs := tk.Sh.run (s := a ++ 10 :: b) (b := b) (m := a.length + 1) (by simp) (by simp; omega) F hs0
  rw [tk.run_fuel b b.length {} (by exact Nat.sub_le _ _) (Nat.le_refl _) F (by omega)] at hs
  constructor
  · intro hb
    have hb' : (tk.run b b.length {}).code = 0 := by
      by_cases hx : (tk.run b b.length {}).code = 0
      · exact hx
      · rw [if_neg hx] at hb; exact absurd hb hx
    rw [if_pos (hs.code.trans hb'), if_pos hb', hs.toks]
    simp
  · intro hb
    have hb' : (tk.run b b.length {}).code ≠ 0 := by
      intro hx
      rw [if_pos hx] at hb; exact hb rfl
    rw [if_neg hb', if_neg (fun q => hb' (hs.code.symm.trans q)), hs.code, hs.place hb']
end Go.Proofs.YthmiaamjbokljaaGreatDoor
