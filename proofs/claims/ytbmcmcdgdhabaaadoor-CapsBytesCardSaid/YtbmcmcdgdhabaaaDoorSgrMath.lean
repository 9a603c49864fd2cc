/- Styles and the numbers that make them, as plain functions (no Go). -/
import Derived.Laws.BitsLemmas
namespace Go.Proofs.YtbmcmcdgdhabaaaDoor.S5.sg
open Go

structure St where
  (fg bg at_ : Int)
deriving DecidableEq
def zero : St := ⟨0, 0, 0⟩
def rightC (c : Int) : Bool := (decide (0 ≤ c) && decide (c ≤ 256)) || (decide (16777216 ≤ c) && decide (c < 33554432))
def right (s : St) : Bool := rightC s.fg && rightC s.bg && decide (0 ≤ s.at_) && decide (s.at_ ≤ 31)
def known (s : St) : St := if right s then s else zero
theorem rightC_iff (c : Int) : rightC c = true ↔ (0 ≤ c ∧ c ≤ 256) ∨ (16777216 ≤ c ∧ c < 33554432) := by simp [rightC]
theorem right_iff (s : St) : right s = true ↔ ((0 ≤ s.fg ∧ s.fg ≤ 256) ∨ (16777216 ≤ s.fg ∧ s.fg < 33554432)) ∧ ((0 ≤ s.bg ∧ s.bg ≤ 256) ∨ (16777216 ≤ s.bg ∧ s.bg < 33554432)) ∧ 0 ≤ s.at_ ∧ s.at_ ≤ 31 := by
  simp only [right, Bool.and_eq_true, rightC_iff, decide_eq_true_eq, and_assoc]
theorem right_known (s : St) : right (known s) = true := by
  unfold known
  split
  · assumption
  · decide
theorem known_known (s : St) : known (known s) = known s := by
  show (if right (known s) then known s else zero) = known s
  rw [right_known]; rfl
theorem known_right {s : St} (h : right s = true) : known s = s := by unfold known; rw [h]; rfl

/-- marks, as the document has them -/
def has (a m : Int) : Bool := decide (a / m % 2 = 1)
def withM (a m : Int) : Int := if has a m then a else a + m
def without (a m : Int) : Int := if has a m then a - m else a
def markOf (a n : Int) : Int :=
  if n = 1 then withM a 1 else if n = 2 then withM a 2 else if n = 3 then withM a 4 else if n = 4 then withM a 8 else if n = 7 then withM a 16
  else if n = 22 then without (without a 1) 2 else if n = 23 then without a 4 else if n = 24 then without a 8 else if n = 27 then without a 16 else a
theorem fin32 {a : Int} (h0 : 0 ≤ a) (h1 : a ≤ 31) : ∃ i : Fin 32, a = (i.val : Int) := ⟨⟨a.toNat, by omega⟩, by simp; omega⟩
theorem markOf_le {a : Int} (n : Int) (h0 : 0 ≤ a) (h1 : a ≤ 31) : 0 ≤ markOf a n ∧ markOf a n ≤ 31 := by
  have key : ∀ i : Fin 32, ∀ m : Fin 5, (0 ≤ withM (i.val : Int) ([1, 2, 4, 8, 16].getD m.val 0) ∧ withM (i.val : Int) ([1, 2, 4, 8, 16].getD m.val 0) ≤ 31) ∧ (0 ≤ without (i.val : Int) ([1, 2, 4, 8, 16].getD m.val 0) ∧ without (i.val : Int) ([1, 2, 4, 8, 16].getD m.val 0) ≤ 31) := by decide
  obtain ⟨i, rfl⟩ := fin32 h0 h1
  unfold markOf
  split
  · exact (key i 0).1
  split
  · exact (key i 1).1
  split
  · exact (key i 2).1
  split
  · exact (key i 3).1
  split
  · exact (key i 4).1
  split
  · obtain ⟨j, hj⟩ := fin32 (key i 0).2.1 (key i 0).2.2
    have hj' : without (i.val : Int) 1 = (j.val : Int) := hj
    rw [hj']
    exact (key j 1).2
  split
  · exact (key i 2).2
  split
  · exact (key i 3).2
  split
  · exact (key i 4).2
  · exact ⟨h0, h1⟩
/-- a colour by a number, counted from where its field's numbers begin -/
def basic (c k : Int) : Int := if 0 ≤ k ∧ k < 8 then 1 + k else if 60 ≤ k ∧ k < 68 then k - 51 else if k = 9 then 0 else c
theorem basic_right {c : Int} (k : Int) (h : rightC c = true) : rightC (basic c k) = true := by
  rw [rightC_iff] at *
  unfold basic
  (repeat' split) <;> omega
def one (s : St) (n : Int) : St := if n = -1 ∨ n = 0 then zero else ⟨basic s.fg (n - 30), basic s.bg (n - 40), markOf s.at_ n⟩
theorem one_right {s : St} (n : Int) (h : right s = true) : right (one s n) = true := by
  unfold one
  split
  · decide
  · simp only [right, Bool.and_eq_true, decide_eq_true_eq, and_assoc] at h ⊢
    have := markOf_le n h.2.2.1 h.2.2.2
    exact ⟨basic_right _ h.1, basic_right _ h.2.1, this.1, this.2⟩

/-- how many numbers a colour takes that is told in this way -/
def taken (w : Int) : Nat := if w = 2 then 3 else if w = 5 then 1 else 0
def parts (l : List Int) : Bool := l.all fun n => decide (0 ≤ n) && decide (n ≤ 255)
def told (l : List Int) : Int := if l.length = 1 then l.getD 0 0 + 1 else 16777216 + l.getD 0 0 * 65536 + l.getD 1 0 * 256 + l.getD 2 0
/-- a colour by the numbers behind; those that are left -/
def ext (c : Int) : List Int → Int × List Int
  | [] => (c, [])
  | w :: behind => if taken w = 0 ∨ behind.length < taken w then (c, []) else (if parts (behind.take (taken w)) then told (behind.take (taken w)) else c, behind.drop (taken w))
theorem ext_len (c : Int) (l : List Int) : (ext c l).2.length ≤ l.length := by
  cases l with
  | nil => simp [ext]
  | cons w behind =>
    simp only [ext]
    split
    · simp
    · simp only [List.length_drop, List.length_cons]; omega
theorem parts_iff (l : List Int) : parts l = true ↔ ∀ n ∈ l, 0 ≤ n ∧ n ≤ 255 := by simp [parts]
theorem taken_cases (w : Int) : (w = 2 ∧ taken w = 3) ∨ (w = 5 ∧ taken w = 1) ∨ (w ≠ 2 ∧ w ≠ 5 ∧ taken w = 0) := by
  unfold taken
  by_cases h2 : w = 2
  · exact .inl ⟨h2, if_pos h2⟩
  · by_cases h5 : w = 5
    · exact .inr (.inl ⟨h5, by rw [if_neg h2, if_pos h5]⟩)
    · exact .inr (.inr ⟨h2, h5, by rw [if_neg h2, if_neg h5]⟩)
theorem ext_right {c : Int} (l : List Int) (h : rightC c = true) : rightC (ext c l).1 = true := by
  cases l with
  | nil => exact h
  | cons w behind =>
    simp only [ext]
    split
    · exact h
    · rename_i hc
      split
      · rename_i hp
        rw [parts_iff] at hp
        rw [rightC_iff]
        rcases taken_cases w with ⟨_, ht⟩ | ⟨_, ht⟩ | ⟨_, _, ht⟩
        · rw [ht] at hc hp ⊢
          match behind, hc with
          | [], hc => simp at hc
          | [_], hc => simp at hc
          | [_, _], hc => simp at hc
          | x :: y :: z :: r, _ =>
            have h1 := hp x (by simp); have h2 := hp y (by simp); have h3 := hp z (by simp)
            simp [told]
            omega
        · rw [ht] at hc hp ⊢
          match behind, hc with
          | [], hc => simp at hc
          | x :: r, _ =>
            have h1 := hp x (by simp)
            simp [told]
            omega
        · omega
      · exact h
/-- what the first number does; the numbers behind those that belong to it -/
def step (s : St) (n : Int) (rest : List Int) : St × List Int :=
  if n = 38 then (⟨(ext s.fg rest).1, s.bg, s.at_⟩, (ext s.fg rest).2)
  else if n = 48 then (⟨s.fg, (ext s.bg rest).1, s.at_⟩, (ext s.bg rest).2)
  else (one s n, rest)
theorem step_len (s : St) (n : Int) (rest : List Int) : (step s n rest).2.length ≤ rest.length := by
  unfold step
  split
  · exact ext_len _ _
  · split
    · exact ext_len _ _
    · exact Nat.le_refl _
theorem step_right {s : St} (n : Int) (rest : List Int) (h : right s = true) : right (step s n rest).1 = true := by
  unfold step
  split
  · simp only [right, Bool.and_eq_true] at h ⊢
    exact ⟨⟨⟨ext_right _ h.1.1.1, h.1.1.2⟩, h.1.2⟩, h.2⟩
  · split
    · simp only [right, Bool.and_eq_true] at h ⊢
      exact ⟨⟨⟨h.1.1.1, ext_right _ h.1.1.2⟩, h.1.2⟩, h.2⟩
    · exact one_right n h
def goN : Nat → St → List Int → St
  | 0, s, _ => s
  | _ + 1, s, [] => s
  | f + 1, s, n :: rest => goN f (step s n rest).1 (step s n rest).2
theorem goN_eq : ∀ (f g : Nat) (s : St) (l : List Int), l.length ≤ f → l.length ≤ g → goN f s l = goN g s l
  | 0, 0, _, _, _, _ => rfl
  | 0, g + 1, s, l, hf, _ => by
    have : l = [] := List.length_eq_zero_iff.1 (by omega)
    subst this; rfl
  | f + 1, 0, s, l, _, hg => by
    have : l = [] := List.length_eq_zero_iff.1 (by omega)
    subst this; rfl
  | f + 1, g + 1, s, [], _, _ => rfl
  | f + 1, g + 1, s, n :: rest, hf, hg => by
    have := step_len s n rest
    simp only [List.length_cons] at hf hg
    exact goN_eq f g _ _ (by omega) (by omega)
/-- what comes of a style by numbers -/
def go (s : St) (l : List Int) : St := goN l.length s l
theorem go_nil (s : St) : go s [] = s := rfl
theorem go_cons (s : St) (n : Int) (rest : List Int) : go s (n :: rest) = go (step s n rest).1 (step s n rest).2 := by
  show goN (rest.length + 1) s (n :: rest) = _
  exact goN_eq _ _ _ _ (step_len s n rest) (Nat.le_refl _)
theorem go_right : ∀ (f : Nat) (s : St) (l : List Int), l.length ≤ f → right s = true → right (go s l) = true
  | _, s, [], _, h => h
  | 0, s, _ :: _, hf, _ => by simp at hf
  | f + 1, s, n :: rest, hf, h => by
    rw [go_cons]
    have := step_len s n rest
    simp only [List.length_cons] at hf
    exact go_right f _ _ (by omega) (step_right n rest h)
/-- Apply -/
def apply (s : St) (l : List Int) : St := if l = [] then zero else go (known s) (l.take 16)
theorem apply_right (s : St) (l : List Int) : right (apply s l) = true := by
  unfold apply
  split
  · decide
  · exact go_right _ _ _ (Nat.le_refl _) (right_known s)
theorem go_plain (s : St) (n : Int) (rest : List Int) (h1 : n ≠ 38) (h2 : n ≠ 48) : go s (n :: rest) = go (one s n) rest := by
  rw [go_cons]; unfold step; rw [if_neg h1, if_neg h2]
theorem go_append : ∀ (l r : List Int) (s : St), (∀ n ∈ l, n ≠ 38 ∧ n ≠ 48) → go s (l ++ r) = go (go s l) r
  | [], r, s, _ => by rw [go_nil]; rfl
  | n :: l, r, s, h => by
    have h0 := h n (by simp)
    rw [List.cons_append, go_plain _ _ _ h0.1 h0.2, go_plain _ _ _ h0.1 h0.2]
    exact go_append l r _ (fun m hm => h m (by simp [hm]))
/-- numbers in two parts -/
theorem apply_parts (s : St) (l : List Int) (k : Nat) (hk : 0 < k) (hk2 : k < l.length) (hl : l.length ≤ 16) (h : ∀ n ∈ l, n ≠ 38 ∧ n ≠ 48) : apply (apply s (l.take k)) (l.drop k) = apply s l := by
  have e1 : l.take k ≠ [] := fun e => by have := congrArg List.length e; simp only [List.length_take, List.length_nil] at this; omega
  have e2 : l.drop k ≠ [] := fun e => by have := congrArg List.length e; simp only [List.length_drop, List.length_nil] at this; omega
  have e3 : l ≠ [] := fun e => by rw [e] at hk2; simp at hk2
  have t1 : (l.take k).take 16 = l.take k := List.take_of_length_le (by simp; omega)
  have t2 : (l.drop k).take 16 = l.drop k := List.take_of_length_le (by simp; omega)
  have t3 : l.take 16 = l := List.take_of_length_le hl
  have r1 : right (go (known s) (l.take k)) = true := go_right _ _ _ (Nat.le_refl _) (right_known s)
  have a1 : apply s (l.take k) = go (known s) (l.take k) := by unfold apply; rw [if_neg e1, t1]
  rw [a1]
  unfold apply
  rw [if_neg e2, if_neg e3, t2, t3, known_right r1, ← go_append _ _ _ (fun n hn => h n (List.mem_of_mem_take hn)), List.take_append_drop]

/-- Params -/
def marksP (a : Int) : List Int := (if has a 1 then [1] else []) ++ (if has a 2 then [2] else []) ++ (if has a 4 then [3] else []) ++ (if has a 8 then [4] else []) ++ (if has a 16 then [7] else [])
def colourP (c base : Int) : List Int :=
  if c = 0 then [] else if c ≤ 8 then [base + c - 1] else if c ≤ 256 then [base + 8, 5, c - 1] else [base + 8, 2, (c - 16777216) / 65536, (c - 16777216) / 256 % 256, (c - 16777216) % 256]
def params (s : St) : List Int := 0 :: marksP (known s).at_ ++ colourP (known s).fg 30 ++ colourP (known s).bg 40
theorem colourP_len (c base : Int) : (colourP c base).length ≤ 5 := by unfold colourP; (repeat' split) <;> simp
theorem marksP_len (a : Int) : (marksP a).length ≤ 5 := by unfold marksP; simp only [List.length_append]; (repeat' split) <;> simp
theorem params_len (s : St) : (params s).length ≤ 16 := by
  have h1 := colourP_len (known s).fg 30; have h2 := colourP_len (known s).bg 40; have h3 := marksP_len (known s).at_
  simp only [params, List.length_append, List.length_cons]
  omega
theorem marks_go (a : Int) (h0 : 0 ≤ a) (h1 : a ≤ 31) : go zero (marksP a) = ⟨0, 0, a⟩ := by
  have key : ∀ i : Fin 32, go zero (marksP (i.val : Int)) = ⟨0, 0, (i.val : Int)⟩ := by decide +kernel
  obtain ⟨i, rfl⟩ := fin32 h0 h1
  exact key i
theorem marks_plain (a : Int) : ∀ n ∈ marksP a, n ≠ 38 ∧ n ≠ 48 := by
  intro n hn
  unfold marksP at hn
  simp only [List.mem_append] at hn
  rcases hn with (((hn | hn) | hn) | hn) | hn <;> (split at hn <;> simp at hn <;> omega)
theorem ext_three (c x y z : Int) (r : List Int) (hx : 0 ≤ x ∧ x ≤ 255) (hy : 0 ≤ y ∧ y ≤ 255) (hz : 0 ≤ z ∧ z ≤ 255) : ext c (2 :: x :: y :: z :: r) = (16777216 + x * 65536 + y * 256 + z, r) := by
  have hp : parts [x, y, z] = true := by rw [parts_iff]; intro n hn; simp at hn; rcases hn with rfl | rfl | rfl <;> assumption
  simp only [ext, show taken 2 = 3 by rfl]
  rw [if_neg (by simp)]
  simp only [List.take_succ_cons, List.take_zero, List.drop_succ_cons, List.drop_zero, hp, if_true]
  rfl
theorem ext_one (c x : Int) (r : List Int) (hx : 0 ≤ x ∧ x ≤ 255) : ext c (5 :: x :: r) = (x + 1, r) := by
  have hp : parts [x] = true := by rw [parts_iff]; intro n hn; simp at hn; rcases hn with rfl; assumption
  simp only [ext, show taken 5 = 1 by rfl]
  rw [if_neg (by simp)]
  simp only [List.take_succ_cons, List.take_zero, List.drop_succ_cons, List.drop_zero, hp, if_true]
  rfl
theorem colour_fg (b a c : Int) (r : List Int) (h : rightC c = true) : go ⟨0, b, a⟩ (colourP c 30 ++ r) = go ⟨c, b, a⟩ r := by
  rw [rightC_iff] at h
  unfold colourP
  split
  · rename_i e; subst e; rfl
  split
  · rw [List.cons_append, List.nil_append, go_plain _ _ _ (by omega) (by omega)]
    congr 1
    unfold one basic markOf
    rw [if_neg (by omega)]
    simp only [St.mk.injEq]
    refine ⟨?_, ?_, ?_⟩
    · rw [if_pos (by omega)]; omega
    · rw [if_neg (by omega), if_neg (by omega), if_neg (by omega)]
    · (repeat' split) <;> omega
  split
  · rw [show (30 : Int) + 8 = 38 by rfl]
    simp only [List.cons_append, List.nil_append]
    rw [go_cons, step, if_pos rfl, ext_one _ _ _ (by omega), show c - 1 + 1 = c by omega]
  · rw [show (30 : Int) + 8 = 38 by rfl]
    simp only [List.cons_append, List.nil_append]
    rw [go_cons, step, if_pos rfl, ext_three _ _ _ _ _ (by omega) (by omega) (by omega), show 16777216 + (c - 16777216) / 65536 * 65536 + (c - 16777216) / 256 % 256 * 256 + (c - 16777216) % 256 = c by omega]
theorem colour_bg (f a c : Int) (r : List Int) (h : rightC c = true) : go ⟨f, 0, a⟩ (colourP c 40 ++ r) = go ⟨f, c, a⟩ r := by
  rw [rightC_iff] at h
  unfold colourP
  split
  · rename_i e; subst e; rfl
  split
  · rw [List.cons_append, List.nil_append, go_plain _ _ _ (by omega) (by omega)]
    congr 1
    unfold one basic markOf
    rw [if_neg (by omega)]
    simp only [St.mk.injEq]
    refine ⟨?_, ?_, ?_⟩
    · rw [if_neg (by omega), if_neg (by omega), if_neg (by omega)]
    · rw [if_pos (by omega)]; omega
    · (repeat' split) <;> omega
  split
  · rw [show (40 : Int) + 8 = 48 by rfl]
    simp only [List.cons_append, List.nil_append]
    rw [go_cons, step, if_neg (by decide), if_pos rfl, ext_one _ _ _ (by omega), show c - 1 + 1 = c by omega]
  · rw [show (40 : Int) + 8 = 48 by rfl]
    simp only [List.cons_append, List.nil_append]
    rw [go_cons, step, if_neg (by decide), if_pos rfl, ext_three _ _ _ _ _ (by omega) (by omega) (by omega), show 16777216 + (c - 16777216) / 65536 * 65536 + (c - 16777216) / 256 % 256 * 256 + (c - 16777216) % 256 = c by omega]
/-- the numbers of a style make it of any style -/
theorem apply_params (a s : St) : apply a (params s) = known s := by
  have hr := right_known s
  have hne : params s ≠ [] := by simp [params]
  unfold apply
  rw [if_neg hne, List.take_of_length_le (params_len s)]
  unfold params
  rw [List.append_assoc, List.cons_append, go_plain _ _ _ (by decide) (by decide), show one (known a) 0 = zero by rfl]
  simp only [right, Bool.and_eq_true, decide_eq_true_eq] at hr
  rw [go_append _ _ _ (marks_plain _), marks_go _ hr.1.2 hr.2, colour_fg _ _ _ _ hr.1.1.1]
  have := colour_bg (known s).fg (known s).at_ (known s).bg [] hr.1.1.2
  rw [List.append_nil] at this
  rw [this, go_nil]

/-- bits, as the code has them -/
theorem or_mark {a : Int} (h0 : 0 ≤ a) (h1 : a ≤ 31) : bits .or .i64 a 1 = withM a 1 ∧ bits .or .i64 a 2 = withM a 2 ∧ bits .or .i64 a 4 = withM a 4 ∧ bits .or .i64 a 8 = withM a 8 ∧ bits .or .i64 a 16 = withM a 16 := by
  have key : ∀ i : Fin 32, bits .or .i64 (i.val : Int) 1 = withM (i.val : Int) 1 ∧ bits .or .i64 (i.val : Int) 2 = withM (i.val : Int) 2 ∧ bits .or .i64 (i.val : Int) 4 = withM (i.val : Int) 4 ∧ bits .or .i64 (i.val : Int) 8 = withM (i.val : Int) 8 ∧ bits .or .i64 (i.val : Int) 16 = withM (i.val : Int) 16 := by decide +kernel
  obtain ⟨i, rfl⟩ := fin32 h0 h1
  exact key i
theorem not_mark {a : Int} (h0 : 0 ≤ a) (h1 : a ≤ 31) : bits .andNot .i64 a 1 = without a 1 ∧ bits .andNot .i64 a 2 = without a 2 ∧ bits .andNot .i64 a 4 = without a 4 ∧ bits .andNot .i64 a 8 = without a 8 ∧ bits .andNot .i64 a 16 = without a 16 := by
  have key : ∀ i : Fin 32, bits .andNot .i64 (i.val : Int) 1 = without (i.val : Int) 1 ∧ bits .andNot .i64 (i.val : Int) 2 = without (i.val : Int) 2 ∧ bits .andNot .i64 (i.val : Int) 4 = without (i.val : Int) 4 ∧ bits .andNot .i64 (i.val : Int) 8 = without (i.val : Int) 8 ∧ bits .andNot .i64 (i.val : Int) 16 = without (i.val : Int) 16 := by decide +kernel
  obtain ⟨i, rfl⟩ := fin32 h0 h1
  exact key i
theorem and_mark {a : Int} (h0 : 0 ≤ a) (h1 : a ≤ 31) : (bits .and .i64 a 1 != 0) = has a 1 ∧ (bits .and .i64 a 2 != 0) = has a 2 ∧ (bits .and .i64 a 4 != 0) = has a 4 ∧ (bits .and .i64 a 8 != 0) = has a 8 ∧ (bits .and .i64 a 16 != 0) = has a 16 := by
  have key : ∀ i : Fin 32, (bits .and .i64 (i.val : Int) 1 != 0) = has (i.val : Int) 1 ∧ (bits .and .i64 (i.val : Int) 2 != 0) = has (i.val : Int) 2 ∧ (bits .and .i64 (i.val : Int) 4 != 0) = has (i.val : Int) 4 ∧ (bits .and .i64 (i.val : Int) 8 != 0) = has (i.val : Int) 8 ∧ (bits .and .i64 (i.val : Int) 16 != 0) = has (i.val : Int) 16 := by decide +kernel
  obtain ⟨i, rfl⟩ := fin32 h0 h1
  exact key i
theorem and255 (x : Int) (h0 : 0 ≤ x) (h1 : x < 9223372036854775808) : bits .and .i64 x 255 = x % 256 :=
  bits_mask .i64 63 (by decide) (fun n h0 h1 => by rw [IntKind.wrap_i64]; omega) 8 (by decide) x h0 (by omega)
end Go.Proofs.YtbmcmcdgdhabaaaDoor.S5.sg
