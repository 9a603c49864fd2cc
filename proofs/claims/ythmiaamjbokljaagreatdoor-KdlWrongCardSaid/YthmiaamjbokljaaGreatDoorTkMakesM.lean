/- TokMakes, on lists: a quoted text's token; a number's digits. No Go. -/
import Derived.Test.YthmiaamjbokljaaGreatDoorTkJoinM
import Derived.Lib.ItoaMem
import Derived.Lib.ItoaLen
namespace Go.Proofs.YthmiaamjbokljaaGreatDoor
open Go

/-- a byte as it stands in quotes -/
def tk.qb (c : UInt8) : List UInt8 :=
  if c.toNat = 10 then [92, 110] else if c.toNat = 9 then [92, 116] else if c.toNat = 34 ∨ c.toNat = 92 then [92, c] else [c]
def tk.qbs (t : List UInt8) : List UInt8 := t.flatMap tk.qb
/-- may a byte stand in a Quote, escaped or as it is? -/
def tk.may (c : UInt8) : Bool := decide (c.toNat = 10 ∨ c.toNat = 9 ∨ ¬ (c.toNat < 32 ∨ c.toNat = 127))
theorem tk.qbs_cons (c : UInt8) (t : List UInt8) : tk.qbs (c :: t) = tk.qb c ++ tk.qbs t := rfl
theorem tk.ub_ext {c d : UInt8} (h : c.toNat = d.toNat) : c = d := UInt8.toNat_inj.1 h
theorem tk.qend_q : ∀ (t : List UInt8) (k : Nat) (x : List UInt8), tk.qend k (tk.qbs t ++ 34 :: x) = some (k + (tk.qbs t).length)
  | [], k, x => by
    cases x with
    | nil => rfl
    | cons d r =>
      show tk.qend k (34 :: d :: r) = some (k + 0)
      unfold tk.qend
      rw [if_neg (by decide), if_pos (by decide)]; rfl
  | c :: t, k, x => by
    have ih := fun k => tk.qend_q t k x
    have hne : ∃ d r, tk.qbs t ++ 34 :: x = d :: r := by
      cases h : tk.qbs t with
      | nil => exact ⟨34, x, rfl⟩
      | cons d r => exact ⟨d, r ++ 34 :: x, rfl⟩
    obtain ⟨d, r, hdr⟩ := hne
    rw [hdr] at ih
    rw [tk.qbs_cons, List.append_assoc, hdr]
    have esc2 : ∀ y : UInt8, tk.qend k ([92, y] ++ (d :: r)) = some (k + ([92, y] ++ tk.qbs t).length) := fun y => by
      show tk.qend k (92 :: y :: d :: r) = _
      unfold tk.qend
      rw [if_pos (by decide), ih]
      simp only [List.length_append, List.length_cons, List.length_nil]
      congr 1; omega
    unfold tk.qb
    split
    · exact esc2 110
    split
    · exact esc2 116
    split
    · exact esc2 c
    · rename_i h10 h9 h34
      show tk.qend k (c :: d :: r) = _
      unfold tk.qend
      rw [if_neg (by omega), if_neg (by omega), ih]
      simp only [List.length_append, List.length_cons, List.length_nil]
      congr 1; omega
theorem tk.unq_q : ∀ (t : List UInt8) (at_ : Nat) (acc : List UInt8), (∀ c ∈ t, tk.may c = true) → tk.unq at_ (tk.qbs t) acc = (acc ++ t, 0, 0)
  | [], at_, acc, _ => by simp [tk.qbs, tk.unq]
  | c :: t, at_, acc, hm => by
    have ih := fun at_ acc => tk.unq_q t at_ acc (fun d hd => hm d (List.mem_cons_of_mem _ hd))
    have hc := hm c (List.mem_cons_self)
    simp only [tk.may, decide_eq_true_eq] at hc
    have esc2 : ∀ y : UInt8, tk.escaped y ≠ 0 → UInt8.ofNat (tk.escaped y) = c → tk.unq at_ ([92, y] ++ tk.qbs t) acc = (acc ++ c :: t, 0, 0) := fun y h0 hy => by
      show tk.unq at_ (92 :: y :: tk.qbs t) acc = _
      unfold tk.unq
      rw [if_neg (by decide), if_pos (by decide), if_neg h0, ih, hy]
      simp
    rw [tk.qbs_cons]
    unfold tk.qb
    split
    · rename_i h10
      exact esc2 110 (by decide) (tk.ub_ext (by rw [h10]; decide))
    split
    · rename_i h9
      exact esc2 116 (by decide) (tk.ub_ext (by rw [h9]; decide))
    split
    · rename_i h10 h9 h34
      have he : tk.escaped c = c.toNat := by unfold tk.escaped; rw [if_pos h34]
      exact esc2 c (by rw [he]; omega) (by rw [he]; exact UInt8.ofNat_toNat)
    · rename_i h10 h9 h34
      have hct : tk.isControl c = false := by simp only [tk.isControl, decide_eq_false_iff_not]; omega
      have h92 : ¬ c.toNat = 92 := by omega
      show tk.unq at_ (c :: tk.qbs t) acc = _
      cases h : tk.qbs t with
      | nil =>
        have := ih (at_ + 1) (acc ++ [c])
        rw [h] at this
        unfold tk.unq at this
        unfold tk.unq
        rw [hct, if_neg (by decide), if_neg h92]
        have h2 : acc ++ [c] = (acc ++ [c]) ++ t := congrArg Prod.fst this
        rw [h2]; simp
      | cons d r =>
        unfold tk.unq
        rw [hct, if_neg (by decide), if_neg h92, ← h, ih]
        simp
/-- a quoted text's tokens -/
theorem tk.tokens_quoted (t : List UInt8) (hm : ∀ c ∈ t, tk.may c = true) (hl : (tk.qbs t).length ≤ 4000) : tk.tokens (34 :: (tk.qbs t ++ [34])) = ([{ kind := 2, text := t }], 0, 0) := by
  have hlen : (34 :: (tk.qbs t ++ [34])).length = (tk.qbs t).length + 2 := by simp
  unfold tk.tokens
  rw [if_neg (by rw [hlen]; omega), hlen]
  have hnx : tk.nx {} 34 (tk.qbs t ++ [34]) = tk.add {} { kind := 2, text := t } ((tk.qbs t).length + 2) := by
    unfold tk.nx
    rw [if_neg (by decide), if_neg (by simp [Lib.hasPrefix, List.isPrefixOf]), if_neg (by simp [Lib.hasPrefix, List.isPrefixOf]), if_neg (by decide), if_neg (by decide), if_pos (by decide)]
    unfold tk.quote tk.quoteEnd
    rw [show (34 :: (tk.qbs t ++ [34])).drop 1 = tk.qbs t ++ 34 :: [] from rfl, tk.qend_q]
    have ht : ((34 :: (tk.qbs t ++ [34])).take (1 + (tk.qbs t).length)).drop 1 = tk.qbs t := by
      rw [Nat.add_comm, List.take_succ_cons]
      simp
    dsimp only
    rw [ht, tk.unq_q t 0 [] hm, if_pos rfl, show 1 + (tk.qbs t).length + 1 = (tk.qbs t).length + 2 by omega]
    rfl
  rw [show (tk.qbs t).length + 2 = ((tk.qbs t).length + 1) + 1 from rfl, tk.run_go _ _ {} ⟨by rw [hlen]; show 0 < _; omega, rfl⟩, tk.next_nx (c := 34) (l := tk.qbs t ++ [34]) rfl, hnx, tk.run_stop _ _ _ (by
    intro q
    have := q.1
    rw [hlen] at this
    have e : (tk.add {} { kind := 2, text := t } ((tk.qbs t).length + 2)).at_ = 0 + ((tk.qbs t).length + 2) := rfl
    omega)]
  rfl

/-- digits that are read again -/
theorem tk.parse_snoc (M : Nat) (c : UInt8) : ∀ (l : List UInt8) (acc a : Nat), Lib.parseUintM M acc l = .ok a → Lib.parseUintM M acc (l ++ [c]) = Lib.parseUintM M a [c]
  | [], acc, a, h => by
    have e : acc = a := by
      unfold Lib.parseUintM at h
      exact Lib.NumEnd.ok.inj h
    rw [e]; rfl
  | d :: l, acc, a, h => by
    rw [List.cons_append]
    unfold Lib.parseUintM at h
    rw [Lib.parseUintM]
    split at h
    · rename_i h1
      rw [if_pos h1]
      split at h
      · cases h
      · rename_i h2
        rw [if_neg h2]
        split at h
        · cases h
        · rename_i h3
          rw [if_neg h3]
          exact tk.parse_snoc M c l _ a h
    · cases h
theorem tk.dig_nat (d : Nat) (h : d < 10) : (UInt8.ofNat (48 + d)).toNat = 48 + d := by rw [UInt8.toNat_ofNat']; omega
theorem tk.parse_one (a d : Nat) (hd : d < 10) (h : a * 10 + d ≤ 2 ^ 64 - 1) : Lib.parseUintM (2 ^ 64 - 1) a [UInt8.ofNat (48 + d)] = .ok (a * 10 + d) := by
  unfold Lib.parseUintM
  rw [tk.dig_nat d hd, if_pos (by omega), if_neg (by omega), if_neg (by omega)]
  unfold Lib.parseUintM
  congr 1; omega
theorem tk.parse_dec (u : Nat) (h : u ≤ 2 ^ 64 - 1) : Lib.parseUintM (2 ^ 64 - 1) 0 (Lib.decDigits u) = .ok u := by
  induction u using Nat.strongRecOn with
  | ind u ih =>
    rw [Lib.decDigits]
    split
    · rename_i h10
      have := tk.parse_one 0 u h10 (by omega)
      simpa using this
    · rename_i h10
      rw [tk.parse_snoc _ _ _ _ _ (ih (u / 10) (by omega) (by omega)), tk.parse_one (u / 10) (u % 10) (by omega) (by omega)]
      congr 1; omega
theorem tk.dec_digits (u : Nat) : ∀ c ∈ Lib.decDigits u, tk.isDigit c = true := by
  induction u using Nat.strongRecOn with
  | ind u ih =>
    rw [Lib.decDigits]
    split
    · rename_i h10
      intro c hc
      rw [List.mem_singleton] at hc
      subst hc
      simp only [tk.isDigit, decide_eq_true_eq, tk.dig_nat u h10]; omega
    · rename_i h10
      intro c hc
      rcases List.mem_append.1 hc with hc | hc
      · exact ih (u / 10) (by omega) c hc
      · rw [List.mem_singleton] at hc
        subst hc
        have := tk.dig_nat (u % 10) (by omega)
        simp only [tk.isDigit, decide_eq_true_eq, this]; omega
theorem tk.dec_cons (u : Nat) : ∃ b l, Lib.decDigits u = b :: l := by
  rw [Lib.decDigits]
  split
  · exact ⟨_, _, rfl⟩
  · cases h : Lib.decDigits (u / 10) with
    | nil => exact ⟨_, _, rfl⟩
    | cons b l => exact ⟨b, _, rfl⟩
/-- a number's digits, its sign ahead -/
theorem tk.itoa_form (n : Int) (h0 : -9223372036854775808 ≤ n) (h1 : n ≤ 9223372036854775807) : ∃ (neg : Bool) (u : Nat), u ≤ 9223372036854775808 ∧ (neg = false → u ≤ 9223372036854775807) ∧ n = (if neg then -(u : Int) else (u : Int)) ∧ Lib.itoa n = (if neg then [45] else []) ++ Lib.decDigits u := by
  by_cases hn : n < 0
  · exact ⟨true, n.natAbs, by omega, (fun h => Bool.noConfusion h), by simp; omega, by unfold Lib.itoa; rw [if_pos hn]; rfl⟩
  · exact ⟨false, n.toNat, by omega, by omega, by simp; omega, by unfold Lib.itoa; rw [if_neg hn]; rfl⟩
theorem tk.parse_itoa (n : Int) (h0 : -9223372036854775808 ≤ n) (h1 : n ≤ 9223372036854775807) : Lib.parseIntB 64 (Lib.itoa n) = .ok n := by
  obtain ⟨neg, u, hu, hu2, hn, he⟩ := tk.itoa_form n h0 h1
  rw [he]
  obtain ⟨b, l, hbl⟩ := tk.dec_cons u
  have hb := tk.dec_digits u b (by rw [hbl]; exact List.mem_cons_self)
  simp only [tk.isDigit, decide_eq_true_eq] at hb
  have hp := tk.parse_dec u (by omega)
  have hpb : Lib.parseUintB 64 (Lib.decDigits u) = .ok u := by
    unfold Lib.parseUintB
    rw [if_neg (by rw [hbl]; simp), hp]
  cases neg with
  | true =>
    show Lib.parseIntB 64 (45 :: Lib.decDigits u) = _
    unfold Lib.parseIntB
    dsimp only
    rw [if_pos (by decide), hpb]
    dsimp only
    rw [if_neg (by simp), if_neg (by omega), hn]
    rfl
  | false =>
    have := hu2 rfl
    show Lib.parseIntB 64 (Lib.decDigits u) = _
    rw [hbl] at hpb ⊢
    unfold Lib.parseIntB
    dsimp only
    rw [if_neg (by omega), hpb]
    dsimp only
    rw [if_neg (by omega), if_neg (by omega), if_neg (by omega), hn]
    rfl
theorem tk.nx_num (n : Int) (h0 : -9223372036854775808 ≤ n) (h1 : n ≤ 9223372036854775807) (x : List UInt8) (hx : x.takeWhile tk.isDigit = []) (c : UInt8) (l : List UInt8) (hcl : Lib.itoa n ++ x = c :: l) (r : tk.St) :
    tk.nx r c l = if tk.span tk.isWord x = 0 then tk.add r { kind := 3, text := Lib.itoa n, int := n } (Lib.itoa n).length else tk.fail r 73 r.at_ := by
  obtain ⟨neg, u, _, _, _, he⟩ := tk.itoa_form n h0 h1
  obtain ⟨b, m, hbl⟩ := tk.dec_cons u
  have hb := tk.dec_digits u b (by rw [hbl]; exact List.mem_cons_self)
  simp only [tk.isDigit, decide_eq_true_eq] at hb
  have hpos : 1 ≤ (Lib.decDigits u).length := by rw [hbl]; simp
  have hsp : tk.span tk.isDigit (Lib.decDigits u ++ x) = (Lib.decDigits u).length := by
    unfold tk.span
    rw [List.takeWhile_append_of_pos (tk.dec_digits u), hx, List.append_nil]
  have hlen : (Lib.itoa n).length = (if neg then 1 else 0) + (Lib.decDigits u).length := by rw [he]; cases neg <;> simp <;> omega
  have htr : Lib.trimPrefix (c :: l) [45] = Lib.decDigits u ++ x := by
    rw [← hcl, he]
    cases neg with
    | true =>
      show Lib.trimPrefix (45 :: (Lib.decDigits u ++ x)) [45] = _
      unfold Lib.trimPrefix Lib.hasPrefix
      rw [if_pos (by simp [List.isPrefixOf])]
      rfl
    | false =>
      show Lib.trimPrefix (Lib.decDigits u ++ x) [45] = _
      unfold Lib.trimPrefix Lib.hasPrefix
      rw [if_neg ?_]
      rw [hbl]
      simp only [List.cons_append, List.isPrefixOf, Bool.and_true, Bool.not_eq_true]
      have : (45 : UInt8) ≠ b := fun q => by rw [← q] at hb; exact absurd hb (by decide)
      simpa using this
  have hil : tk.intLen (c :: l) = (Lib.itoa n).length := by
    unfold tk.intLen
    dsimp only
    rw [htr, hsp, if_neg (by omega), ← hcl, List.length_append, List.length_append, hlen]
    omega
  have hc : c.toNat = 45 ∨ 48 ≤ c.toNat ∧ c.toNat ≤ 57 := by
    rw [he] at hcl
    cases neg with
    | true =>
      have : (45 : UInt8) = c := (List.cons.inj hcl).1
      rw [← this]; exact .inl (by decide)
    | false =>
      rw [hbl] at hcl
      have : b = c := (List.cons.inj hcl).1
      rw [← this]; exact .inr hb
  have h47 : ∀ y, Lib.hasPrefix (c :: l) [47, y] = false := fun y => by
    have : (47 : UInt8) ≠ c := fun q => by rw [← q] at hc; exact absurd hc (by decide)
    simp [Lib.hasPrefix, List.isPrefixOf, this]
  unfold tk.nx
  rw [if_neg (by simp only [tk.isBlank, decide_eq_true_eq]; omega), h47, if_neg (by decide), h47, if_neg (by decide), if_neg (by simp only [tk.isBreak, decide_eq_true_eq]; omega), if_neg (by simp only [tk.isSign, decide_eq_true_eq]; omega), if_neg (by omega), if_pos (by rw [hil, hlen]; omega)]
  unfold tk.integer
  dsimp only
  rw [hil, ← hcl, List.take_left, List.drop_left, tk.parse_itoa n h0 h1]
theorem tk.itoa_pos (n : Int) : 1 ≤ (Lib.itoa n).length := by
  unfold Lib.itoa
  split
  · simp
  · obtain ⟨b, l, e⟩ := tk.dec_cons n.toNat
    rw [e]; simp
theorem tk.itoa_blank (n : Int) (h0 : -9223372036854775808 ≤ n) (h1 : n ≤ 9223372036854775807) (x : List UInt8) : tk.span tk.isBlank (32 :: (Lib.itoa n ++ x)) = 1 := by
  obtain ⟨neg, u, _, _, _, he⟩ := tk.itoa_form n h0 h1
  obtain ⟨b, m, hbl⟩ := tk.dec_cons u
  have hb := tk.dec_digits u b (by rw [hbl]; exact List.mem_cons_self)
  simp only [tk.isDigit, decide_eq_true_eq] at hb
  unfold tk.span
  rw [List.takeWhile_cons, if_pos (by decide), he]
  cases neg with
  | true =>
    show ((32 : UInt8) :: List.takeWhile tk.isBlank (45 :: (Lib.decDigits u ++ x))).length = 1
    rw [List.takeWhile_cons, if_neg (by decide)]; rfl
  | false =>
    show ((32 : UInt8) :: List.takeWhile tk.isBlank (Lib.decDigits u ++ x)).length = 1
    rw [hbl, List.cons_append, List.takeWhile_cons, if_neg (by simp only [tk.isBlank, decide_eq_true_eq]; omega)]; rfl
theorem tk.nx_blank (r : tk.St) (c : UInt8) (l : List UInt8) (h : tk.isBlank c = true) : tk.nx r c l = { r with at_ := r.at_ + tk.span tk.isBlank (c :: l) } := by
  unfold tk.nx
  rw [if_pos h]
/-- a number twice, a blank between -/
theorem tk.tokens_twice (n : Int) (h0 : -9223372036854775808 ≤ n) (h1 : n ≤ 9223372036854775807) : tk.tokens (Lib.itoa n ++ 32 :: Lib.itoa n) = ([{ kind := 3, text := Lib.itoa n, int := n }, { kind := 3, text := Lib.itoa n, int := n, at_ := (Lib.itoa n).length + 1 }], 0, 0) := by
  have hL := tk.itoa_pos n
  have hM := Lib.itoa_length_le n h0 h1
  obtain ⟨c, l, hcl⟩ : ∃ c l, Lib.itoa n ++ 32 :: Lib.itoa n = c :: l := by
    cases h : Lib.itoa n with
    | nil => rw [h] at hL; simp at hL
    | cons c l => exact ⟨c, _, rfl⟩
  obtain ⟨c', l', hcl'⟩ : ∃ c l, Lib.itoa n ++ [] = c :: l := by
    cases h : Lib.itoa n with
    | nil => rw [h] at hL; simp at hL
    | cons c l => exact ⟨c, _, rfl⟩
  have hlen : (Lib.itoa n ++ 32 :: Lib.itoa n).length = ((Lib.itoa n).length + (Lib.itoa n).length - 2) + 3 := by simp; omega
  unfold tk.tokens
  rw [if_neg (by rw [hlen]; omega)]
  have hs : (Lib.itoa n ++ 32 :: Lib.itoa n).length = (Lib.itoa n).length + (Lib.itoa n).length + 1 := by rw [hlen]; omega
  have e1 : tk.next (Lib.itoa n ++ 32 :: Lib.itoa n) {} = tk.add {} { kind := 3, text := Lib.itoa n, int := n } (Lib.itoa n).length := by
    rw [tk.next_nx (s := Lib.itoa n ++ 32 :: Lib.itoa n) (r := {}) (c := c) (l := l) hcl, tk.nx_num n h0 h1 (32 :: Lib.itoa n) (by rw [List.takeWhile_cons, if_neg (by decide)]) c l hcl, if_pos (by unfold tk.span; rw [List.takeWhile_cons, if_neg (by decide)]; rfl)]
  have hd2 : (Lib.itoa n ++ 32 :: Lib.itoa n).drop (0 + (Lib.itoa n).length) = 32 :: Lib.itoa n := by rw [Nat.zero_add, List.drop_left]
  have hb2 := tk.itoa_blank n h0 h1 []
  rw [List.append_nil] at hb2
  have e2 : tk.next (Lib.itoa n ++ 32 :: Lib.itoa n) (tk.add {} { kind := 3, text := Lib.itoa n, int := n } (Lib.itoa n).length) = { tk.add {} { kind := 3, text := Lib.itoa n, int := n } (Lib.itoa n).length with at_ := (Lib.itoa n).length + 1 } := by
    rw [tk.next_nx (c := 32) (l := Lib.itoa n) hd2, tk.nx_blank _ _ _ (by decide), hb2]
    unfold tk.add
    simp
  have hd3 : (Lib.itoa n ++ 32 :: Lib.itoa n).drop ((Lib.itoa n).length + 1) = c' :: l' := by
    rw [← hcl', List.append_nil]
    simp
  have e3 : tk.next (Lib.itoa n ++ 32 :: Lib.itoa n) { tk.add {} { kind := 3, text := Lib.itoa n, int := n } (Lib.itoa n).length with at_ := (Lib.itoa n).length + 1 } = tk.add { tk.add {} { kind := 3, text := Lib.itoa n, int := n } (Lib.itoa n).length with at_ := (Lib.itoa n).length + 1 } { kind := 3, text := Lib.itoa n, int := n } (Lib.itoa n).length := by
    rw [tk.next_nx (c := c') (l := l') hd3, tk.nx_num n h0 h1 [] rfl c' l' hcl', if_pos (show tk.span tk.isWord [] = 0 from rfl)]
  have g : ∀ r : tk.St, r.at_ < (Lib.itoa n).length + (Lib.itoa n).length + 1 → r.code = 0 → r.at_ < (Lib.itoa n ++ 32 :: Lib.itoa n).length ∧ r.code = 0 := fun r h h' => ⟨by rw [hs]; exact h, h'⟩
  rw [show tk.run (Lib.itoa n ++ 32 :: Lib.itoa n) (Lib.itoa n ++ 32 :: Lib.itoa n).length {} = tk.run (Lib.itoa n ++ 32 :: Lib.itoa n) (((Lib.itoa n).length + (Lib.itoa n).length - 2) + 3) {} by rw [hlen]]
  rw [tk.run_go _ _ _ (g _ (by show 0 < _; omega) rfl), e1, tk.run_go _ _ _ (g _ (by show 0 + (Lib.itoa n).length < _; omega) rfl), e2, tk.run_go _ _ _ (g _ (by show (Lib.itoa n).length + 1 < _; omega) rfl), e3, tk.run_stop _ _ _ (by
    intro q
    have := q.1
    rw [hs] at this
    have e : (tk.add { tk.add {} { kind := 3, text := Lib.itoa n, int := n } (Lib.itoa n).length with at_ := (Lib.itoa n).length + 1 } { kind := 3, text := Lib.itoa n, int := n } (Lib.itoa n).length).at_ = (Lib.itoa n).length + 1 + (Lib.itoa n).length := rfl
    omega)]
  rfl
/-- a word byte behind a number -/
theorem tk.tokens_wrong (n : Int) (h0 : -9223372036854775808 ≤ n) (h1 : n ≤ 9223372036854775807) : tk.tokens (120 :: 32 :: (Lib.itoa n ++ [121])) = ([], 73, 2) := by
  have hL := tk.itoa_pos n
  have hM := Lib.itoa_length_le n h0 h1
  obtain ⟨c, l, hcl⟩ : ∃ c l, Lib.itoa n ++ [121] = c :: l := by
    cases h : Lib.itoa n with
    | nil => rw [h] at hL; simp at hL
    | cons c l => exact ⟨c, _, rfl⟩
  have hlen : (120 :: 32 :: (Lib.itoa n ++ [121])).length = (Lib.itoa n).length + 3 := by simp
  unfold tk.tokens
  rw [if_neg (by rw [hlen]; omega), hlen]
  have e1 : tk.next (120 :: 32 :: (Lib.itoa n ++ [121])) {} = tk.tell {} 1 [120] := by
    rw [tk.next_nx (c := 120) (l := 32 :: (Lib.itoa n ++ [121])) rfl]
    have hil : tk.intLen (120 :: 32 :: (Lib.itoa n ++ [121])) = 0 := by
      unfold tk.intLen
      dsimp only
      rw [if_pos]
      unfold tk.span Lib.trimPrefix
      rw [if_neg (by simp [Lib.hasPrefix, List.isPrefixOf]), List.takeWhile_cons, if_neg (by decide)]
      rfl
    have htw : (120 :: 32 :: (Lib.itoa n ++ [121])).takeWhile tk.isWord = [120] := by
      rw [List.takeWhile_cons, if_pos (by decide), List.takeWhile_cons, if_neg (by decide)]
    unfold tk.nx
    rw [if_neg (by decide), if_neg (by simp [Lib.hasPrefix, List.isPrefixOf]), if_neg (by simp [Lib.hasPrefix, List.isPrefixOf]), if_neg (by decide), if_neg (by decide), if_neg (by decide), hil, if_neg (by decide), if_pos (by decide), htw]
  have e2 : tk.next (120 :: 32 :: (Lib.itoa n ++ [121])) (tk.tell {} 1 [120]) = { tk.tell {} 1 [120] with at_ := 2 } := by
    rw [tk.next_nx (c := 32) (l := Lib.itoa n ++ [121]) rfl, tk.nx_blank _ _ _ (by decide), tk.itoa_blank n h0 h1 [121]]
    rfl
  have e3 : tk.next (120 :: 32 :: (Lib.itoa n ++ [121])) { tk.tell {} 1 [120] with at_ := 2 } = tk.fail { tk.tell {} 1 [120] with at_ := 2 } 73 2 := by
    rw [tk.next_nx (s := 120 :: 32 :: (Lib.itoa n ++ [121])) (r := { tk.tell {} 1 [120] with at_ := 2 }) (c := c) (l := l) hcl, tk.nx_num n h0 h1 [121] (by decide) c l hcl, if_neg (by decide)]
    rfl
  have g : ∀ r : tk.St, r.at_ < (Lib.itoa n).length + 3 → r.code = 0 → r.at_ < (120 :: 32 :: (Lib.itoa n ++ [121])).length ∧ r.code = 0 := fun r h h' => ⟨by rw [hlen]; exact h, h'⟩
  rw [tk.run_go _ _ _ (g _ (by show 0 < _; omega) rfl), e1, tk.run_go _ _ _ (g _ (by show 1 < _; omega) rfl), e2, tk.run_go _ _ _ (g _ (by show 2 < _; omega) rfl), e3, tk.run_stop _ _ _ (by
    intro q
    exact absurd q.2 (by decide))]
  rfl
end Go.Proofs.YthmiaamjbokljaaGreatDoor
