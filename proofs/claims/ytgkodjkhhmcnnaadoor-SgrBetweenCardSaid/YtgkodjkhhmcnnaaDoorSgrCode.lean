/- What sgr's small functions do. -/
import Derived.Test.YtgkodjkhhmcnnaaDoorSgrMem
namespace Go.Proofs.YtgkodjkhhmcnnaaDoor.S5
open Go.RowKit

/-- the rows of the marks' table -/
theorem run_marks0 (w : World) : (Instr.index 76 (.agg #[.int .i64 1, .int .i64 1, .int .i64 22, .int .i64 2, .int .i64 2, .int .i64 22, .int .i64 4, .int .i64 3, .int .i64 23, .int .i64 8, .int .i64 4, .int .i64 24, .int .i64 16, .int .i64 7, .int .i64 27]) (.int .i64 0)).run Tryd.prog w = .ok (.agg #[.int .i64 1, .int .i64 1, .int .i64 22]) w := by kernel_rfl
theorem run_marks1 (w : World) : (Instr.index 76 (.agg #[.int .i64 1, .int .i64 1, .int .i64 22, .int .i64 2, .int .i64 2, .int .i64 22, .int .i64 4, .int .i64 3, .int .i64 23, .int .i64 8, .int .i64 4, .int .i64 24, .int .i64 16, .int .i64 7, .int .i64 27]) (.int .i64 1)).run Tryd.prog w = .ok (.agg #[.int .i64 2, .int .i64 2, .int .i64 22]) w := by kernel_rfl
theorem run_marks2 (w : World) : (Instr.index 76 (.agg #[.int .i64 1, .int .i64 1, .int .i64 22, .int .i64 2, .int .i64 2, .int .i64 22, .int .i64 4, .int .i64 3, .int .i64 23, .int .i64 8, .int .i64 4, .int .i64 24, .int .i64 16, .int .i64 7, .int .i64 27]) (.int .i64 2)).run Tryd.prog w = .ok (.agg #[.int .i64 4, .int .i64 3, .int .i64 23]) w := by kernel_rfl
theorem run_marks3 (w : World) : (Instr.index 76 (.agg #[.int .i64 1, .int .i64 1, .int .i64 22, .int .i64 2, .int .i64 2, .int .i64 22, .int .i64 4, .int .i64 3, .int .i64 23, .int .i64 8, .int .i64 4, .int .i64 24, .int .i64 16, .int .i64 7, .int .i64 27]) (.int .i64 3)).run Tryd.prog w = .ok (.agg #[.int .i64 8, .int .i64 4, .int .i64 24]) w := by kernel_rfl
theorem run_marks4 (w : World) : (Instr.index 76 (.agg #[.int .i64 1, .int .i64 1, .int .i64 22, .int .i64 2, .int .i64 2, .int .i64 22, .int .i64 4, .int .i64 3, .int .i64 23, .int .i64 8, .int .i64 4, .int .i64 24, .int .i64 16, .int .i64 7, .int .i64 27]) (.int .i64 4)).run Tryd.prog w = .ok (.agg #[.int .i64 16, .int .i64 7, .int .i64 27]) w := by kernel_rfl
attribute [local go_sem ↓ 10000] run_marks0 run_marks1 run_marks2 run_marks3 run_marks4
theorem ret_int {k : IntKind} {a b : Int} (h : a = b) : Ending.returned (.int k a) = .returned (.int k b) := by rw [h]
theorem rightColour_any (c : Int) (w : World) :
    Calls Tryd.prog 43 #[.int .i64 c] w fun e w' => e = .returned (.bool (sg.rightC c)) ∧ w = w' := by
  go_enter Tryd.func43, Tryd.ntmps43
  go_wp2
  all_goals
    go_ret
    exact ⟨ret_bool (by rw [Bool.eq_iff_iff]; simp [sg.rightC]; try omega), rfl⟩

theorem right_any (f b a : Int) (w : World) :
    Calls Tryd.prog 23 #[.agg #[.int .i64 f, .int .i64 b, .int .i64 a]] w fun e w' => e = .returned (.bool (sg.right ⟨f, b, a⟩)) ∧ Below w.heap.size w w' := by
  have HD : Hid (sg.right ⟨f, b, a⟩ = (sg.rightC f && sg.rightC b && decide (0 ≤ a) && decide (a ≤ 31))) := Lib.hid rfl
  generalize sg.right ⟨f, b, a⟩ = R at *
  go_enter Tryd.func23, Tryd.ntmps23
  go_wp2_with fail
  refine (rightColour_any _ _).mono ?_
  rintro e w1 ⟨rfl, rfl⟩
  generalize sg.rightC f = p at *
  cases p
  · go_wp2_with fail
    go_ret
    exact ⟨ret_bool (by rw [HD.out]; simp), (Below.refl _ _).alloc (Nat.le_refl _) _⟩
  · go_wp2_with fail
    refine (rightColour_any _ _).mono ?_
    rintro e w1 ⟨rfl, rfl⟩
    generalize sg.rightC b = q at *
    cases q
    · go_wp2_with fail
      go_ret
      exact ⟨ret_bool (by rw [HD.out]; simp), (Below.refl _ _).alloc (Nat.le_refl _) _⟩
    · go_wp2
      all_goals
        go_ret
        exact ⟨ret_bool (by rw [HD.out, Bool.eq_iff_iff]; simp; try omega), (Below.refl _ _).alloc (Nat.le_refl _) _⟩

theorem two_after {w w1 : World} {s t : sg.St} (hb : Below ((w.alloc (stObj s)).alloc (stObj t)).heap.size ((w.alloc (stObj s)).alloc (stObj t)) w1) : StAt w1 w.heap.size s ∧ StAt w1 (w.heap.size + 1) t ∧ Below w.heap.size w w1 := by
  have h0 : StAt ((w.alloc (stObj s)).alloc (stObj t)) w.heap.size s := (StAt.new w s).kept ((Kept.refl _ (fun _ => False)).alloc _) (fun h => h)
  have h1 : StAt ((w.alloc (stObj s)).alloc (stObj t)) (w.heap.size + 1) t := by
    have := StAt.new (w.alloc (stObj s)) t
    simpa using this
  have hs : ((w.alloc (stObj s)).alloc (stObj t)).heap.size = w.heap.size + 2 := by simp
  have hbb : Below w.heap.size w ((w.alloc (stObj s)).alloc (stObj t)) := ((Below.refl _ _).alloc (Nat.le_refl _) _).alloc (by simp) _
  exact ⟨h0.below hb (by omega), h1.below hb (by omega), hbb.trans (hb.mono (by omega))⟩
theorem one_after {w w1 : World} {s : sg.St} (hb : Below (w.alloc (stObj s)).heap.size (w.alloc (stObj s)) w1) : StAt w1 w.heap.size s ∧ Below w.heap.size w w1 := by
  have h0 := StAt.new w s
  have hs : (w.alloc (stObj s)).heap.size = w.heap.size + 1 := by simp
  exact ⟨h0.below hb (by omega), ((Below.refl _ _).alloc (Nat.le_refl _) _).trans (hb.mono (by omega))⟩
theorem below_set3 {B b : Nat} {w w1 : World} (h : Below B w w1) (hB : B ≤ b) (x y z : Value) : Below B w (((w1.setCell ⟨b, 0, none⟩ x).setCell ⟨b, 1, none⟩ y).setCell ⟨b, 2, none⟩ z) :=
  ((h.setCell hB _).setCell hB _).setCell hB _
set_option maxHeartbeats 400000 in
theorem known_any (f b a : Int) (w : World) :
    Calls Tryd.prog 24 #[.agg #[.int .i64 f, .int .i64 b, .int .i64 a]] w fun e w' => e = .returned (stV (sg.known ⟨f, b, a⟩)) ∧ Below w.heap.size w w' := by
  have HD : Hid (sg.known ⟨f, b, a⟩ = if sg.right ⟨f, b, a⟩ then ⟨f, b, a⟩ else sg.zero) := Lib.hid rfl
  generalize sg.known ⟨f, b, a⟩ = R at *
  go_enter Tryd.func24, Tryd.ntmps24
  go_wp2_with fail
  refine (right_any _ _ _ _).mono ?_
  rintro e w1 ⟨rfl, hb⟩
  obtain ⟨s0, s1, hbl⟩ := two_after (s := ⟨f, b, a⟩) (t := sg.zero) hb
  clear hb
  obtain ⟨k0, k1, k2, f0, f1, f2, u0⟩ := s0.cells
  obtain ⟨l0, l1, l2, g0, g1, g2, u1⟩ := s1.cells
  clear s0 s1
  generalize hB : w.heap.size = B at *
  have HB := Lib.hid hB; clear hB
  generalize sg.right ⟨f, b, a⟩ = p at *
  cases p
  · go_wp2
    simp [bodyPost, results, Tryd.results24, go_sem, l0, l1, l2]
    exact ⟨by rw [HD.out]; simp [sg.zero], by rw [HB.out]; exact below_set3 hbl (Nat.le_succ _) _ _ _⟩
  · go_wp2
    simp [bodyPost, results, Tryd.results24, go_sem, l0, l1, l2]
    exact ⟨by rw [HD.out]; simp, by rw [HB.out]; exact below_set3 hbl (Nat.le_succ _) _ _ _⟩

/-- a number of its own sets a colour -/
def Puts (w w' : World) (a : Addr) (old new : Int) : Prop := (w' = w ∧ new = old) ∨ w' = w.setCell a (.int .i64 new)
set_option maxHeartbeats 400000 in
theorem setBasic_any (b i : Nat) (c n : Int) (w : World) (hc : w.cell? ⟨b, i, none⟩ = some (.int .i64 c)) (hf : w.frozen? ⟨b, i, none⟩ = false) :
    Calls Tryd.prog 52 #[.pointer (some ⟨b, i, none⟩), .int .i64 n] w fun e w' => e = .returned (.tuple #[]) ∧ Puts w w' ⟨b, i, none⟩ c (sg.basic c n) := by
  have H0 := Lib.hid (show 0 ≤ n → n < 8 → sg.basic c n = 1 + n by intro h1 h2; unfold sg.basic; rw [if_pos ⟨h1, h2⟩])
  have H1 := Lib.hid (show 60 ≤ n → n < 68 → sg.basic c n = 9 + n - 60 by intro h1 h2; unfold sg.basic; rw [if_neg (by omega), if_pos ⟨h1, h2⟩]; omega)
  have H2 := Lib.hid (show (n == 9) = true → sg.basic c n = 0 by intro h1; have h9 : n = 9 := (by simpa using h1); subst h9; rfl)
  have H3 := Lib.hid (show ¬ (0 ≤ n ∧ n < 8) → ¬ (60 ≤ n ∧ n < 68) → (n == 9) = false → sg.basic c n = c by intro h1 h2 h3; have h9 : n ≠ 9 := (by simpa using h3); unfold sg.basic; rw [if_neg h1, if_neg h2, if_neg h9])
  generalize sg.basic c n = R at *
  go_enter Tryd.func52, Tryd.ntmps52
  go_wp2
  all_goals
    go_end0
    refine ⟨rfl, ?_⟩
    first
      | exact .inr (by rw [H0.out (by assumption) (by assumption)])
      | exact .inr (by rw [H1.out (by assumption) (by assumption)])
      | exact .inr (by rw [H2.out (by assumption)])
      | exact .inl ⟨rfl, H3.out (by omega) (by omega) (by assumption)⟩

/-- what the first k rows of the marks' table do -/
def markK (a n : Int) : Nat → Int
  | 0 => a
  | k + 1 => if n = [1, 2, 3, 4, 7].getD k 0 then sg.withM (markK a n k) ([1, 2, 4, 8, 16].getD k 0) else if n = [22, 22, 23, 24, 27].getD k 0 then sg.without (markK a n k) ([1, 2, 4, 8, 16].getD k 0) else markK a n k
theorem markK_all (a n : Int) : markK a n 5 = sg.markOf a n := by
  simp only [markK, List.getD, List.getElem?_cons_zero, List.getElem?_cons_succ, Option.getD_some]
  unfold sg.markOf
  by_cases h1 : n = 1
  · subst h1; simp
  by_cases h2 : n = 2
  · subst h2; simp
  by_cases h3 : n = 3
  · subst h3; simp
  by_cases h4 : n = 4
  · subst h4; simp
  by_cases h7 : n = 7
  · subst h7; simp
  by_cases h22 : n = 22
  · subst h22; simp
  by_cases h23 : n = 23
  · subst h23; simp
  by_cases h24 : n = 24
  · subst h24; simp
  by_cases h27 : n = 27
  · subst h27; simp
  simp [h1, h2, h3, h4, h7, h22, h23, h24, h27]
theorem mark_step (a n : Int) (k : Nat) : markK a n (k + 1) = if n = [1, 2, 3, 4, 7].getD k 0 then sg.withM (markK a n k) ([1, 2, 4, 8, 16].getD k 0) else if n = [22, 22, 23, 24, 27].getD k 0 then sg.without (markK a n k) ([1, 2, 4, 8, 16].getD k 0) else markK a n k := rfl

end Go.Proofs.YtgkodjkhhmcnnaaDoor.S5
