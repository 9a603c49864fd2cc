/- What the document's answers for styles do: the small functions. -/
import Derived.Test.YtgkodjkhhmcnnaaDoorSgrAlive
namespace Go.Proofs.YtgkodjkhhmcnnaaDoor.S5
open Go.RowKit

theorem colour_any (c : Int) (w : World) :
    Calls Tryd.prog 49 #[.int .i64 c] w fun e w' => e = .returned (.bool (sg.rightC c)) ∧ w = w' := by
  go_enter Tryd.func49, Tryd.ntmps49
  go_wp2
  all_goals
    go_ret
    exact ⟨ret_bool (by rw [Bool.eq_iff_iff]; simp [sg.rightC]; try omega), rfl⟩
theorem refRight_any (f b a : Int) (w : World) :
    Calls Tryd.prog 27 #[.agg #[.int .i64 f, .int .i64 b, .int .i64 a]] w fun e w' => e = .returned (.bool (sg.right ⟨f, b, a⟩)) ∧ Below w.heap.size w w' := by
  have HD : Hid (sg.right ⟨f, b, a⟩ = (sg.rightC f && sg.rightC b && decide (0 ≤ a) && decide (a ≤ 31))) := Lib.hid rfl
  generalize sg.right ⟨f, b, a⟩ = R at *
  go_enter Tryd.func27, Tryd.ntmps27
  go_wp2_with fail
  refine (colour_any _ _).mono ?_
  rintro e w1 ⟨rfl, rfl⟩
  generalize sg.rightC f = p at *
  cases p
  · go_wp2_with fail
    go_ret
    exact ⟨ret_bool (by rw [HD.out]; simp), (Below.refl _ _).alloc (Nat.le_refl _) _⟩
  · go_wp2_with fail
    refine (colour_any _ _).mono ?_
    rintro e w1 ⟨rfl, rfl⟩
    generalize sg.rightC b = q at *
    cases q
    · go_wp2_with fail
      go_ret
      exact ⟨ret_bool (by rw [HD.out]; simp), (Below.refl _ _).alloc (Nat.le_refl _) _⟩
    · go_wp2
      all_goals
        go_ret
        exact ⟨ret_bool (by rw [HD.out, Bool.eq_iff_iff]; simp; try omega), (Below.refl _ _).alloc (Nat.le_refl _) _⟩
set_option maxHeartbeats 400000 in
theorem clean_any (f b a : Int) (w : World) :
    Calls Tryd.prog 15 #[.agg #[.int .i64 f, .int .i64 b, .int .i64 a]] w fun e w' => e = .returned (stV (sg.known ⟨f, b, a⟩)) ∧ Below w.heap.size w w' := by
  have HD : Hid (sg.known ⟨f, b, a⟩ = if sg.right ⟨f, b, a⟩ then ⟨f, b, a⟩ else sg.zero) := Lib.hid rfl
  generalize sg.known ⟨f, b, a⟩ = R at *
  go_enter Tryd.func15, Tryd.ntmps15
  go_wp2_with fail
  refine (refRight_any _ _ _ _).mono ?_
  rintro e w1 ⟨rfl, hb⟩
  obtain ⟨s0, s1, hbl⟩ := two_after (s := ⟨f, b, a⟩) (t := sg.zero) hb
  clear hb
  obtain ⟨k0, k1, k2, f0, f1, f2, u0⟩ := s0.cells
  obtain ⟨l0, l1, l2, g0, g1, g2, u1⟩ := s1.cells
  clear s0 s1
  generalize hB : w.heap.size = B at *
  have HB := Lib.hid hB; clear hB
  generalize sg.right ⟨f, b, a⟩ = p at *
  cases p
  · go_wp2
    simp [bodyPost, results, Tryd.results15, go_sem, l0, l1, l2]
    exact ⟨by rw [HD.out]; simp [sg.zero], by rw [HB.out]; exact below_set3 hbl (Nat.le_succ _) _ _ _⟩
  · go_wp2
    simp [bodyPost, results, Tryd.results15, go_sem, l0, l1, l2]
    exact ⟨by rw [HD.out]; simp, by rw [HB.out]; exact below_set3 hbl (Nat.le_succ _) _ _ _⟩

theorem has_any (a m : Int) (w : World) (h0 : 0 ≤ a) (h1 : a ≤ 31) (hm : m = 1 ∨ m = 2 ∨ m = 4 ∨ m = 8 ∨ m = 16) :
    Calls Tryd.prog 47 #[.int .i64 a, .int .i64 m] w fun e w' => e = .returned (.bool (sg.has a m)) ∧ w = w' := by
  have HD : Hid (sg.has a m = (a / m % 2 == 1)) := Lib.hid (by unfold sg.has; rw [Bool.eq_iff_iff]; simp)
  generalize sg.has a m = R at *
  rcases hm with rfl | rfl | rfl | rfl | rfl
  all_goals
    go_enter Tryd.func47, Tryd.ntmps47
    go_wp2
    go_ret
    exact ⟨ret_bool (by rw [HD.out]; try (simp; done)), rfl⟩
/-- two tables in new memory -/
theorem marks_any (w : World) :
    Calls Tryd.prog 46 #[] w fun e w' => e = .returned (.tuple #[.slice (some ⟨w.heap.size, 0, none⟩) 5 5, .slice (some ⟨w.heap.size + 1, 0, none⟩) 5 5]) ∧ w' = (w.alloc (.cells #[.int .i64 1, .int .i64 2, .int .i64 3, .int .i64 4, .int .i64 7] 3)).alloc (.cells #[.int .i64 1, .int .i64 2, .int .i64 4, .int .i64 8, .int .i64 16] 3) := by
  go_enter Tryd.func46, Tryd.ntmps46
  go_wp2
  go_ret2
  exact ⟨rfl, rfl⟩

/-- these numbers, in a slice of new memory -/
def Gives2 (w : World) (zs : List Int) (e : Ending) (w' : World) : Prop := ∃ o n cap, e = .returned (.slice o n cap) ∧ Ints w' o n cap zs ∧ Below w.heap.size w w' ∧ ∀ a, o = some a → w.heap.size ≤ a.block ∧ a.block < w'.heap.size
theorem gives2_nil (w : World) {zs : List Int} (h : zs = []) : Gives2 w zs (.returned (.slice none 0 0)) w := ⟨_, _, _, rfl, by rw [h]; exact Ints.nil w, Below.refl _ _, fun a h => by cases h⟩
theorem gives2_new (w : World) (T : TypeId) {zs ys : List Int} (h : zs = ys) (hl : ys.length ≤ 1000) : Gives2 w zs (.returned (.slice (some ⟨w.heap.size, 0, none⟩) ys.length ys.length)) (w.alloc (.cells (ys.map (Value.int .i64)).toArray T)) :=
  ⟨_, _, _, rfl, by rw [h]; exact Ints.new w T ys hl, (Below.refl _ _).alloc (Nat.le_refl _) _, fun a h => by cases h; exact ⟨Nat.le_refl _, by simp⟩⟩
set_option maxHeartbeats 800000 in
theorem numbers_any (c base : Int) (w : World) (hc : sg.rightC c = true) (hb : 30 ≤ base ∧ base ≤ 40) :
    Calls Tryd.prog 48 #[.int .i64 c, .int .i64 base] w (Gives2 w (sg.colourP c base)) := by
  rw [sg.rightC_iff] at hc
  have HD : Hid (sg.colourP c base = if c = 0 then [] else if c ≤ 8 then [base + c - 1] else if c ≤ 256 then [base + 8, 5, c - 1] else [base + 8, 2, (c - 16777216) / 65536, (c - 16777216) / 256 % 256, (c - 16777216) % 256]) := Lib.hid rfl
  generalize sg.colourP c base = R at *
  obtain ⟨b1, b2⟩ := hb
  by_cases h0 : c = 0
  · subst h0
    rw [if_pos rfl] at HD
    clear hc
    go_enter Tryd.func48, Tryd.ntmps48
    go_wp2
    go_ret
    exact gives2_nil w HD.out
  · have e0 : (c == 0) = false := by simpa using h0
    rw [if_neg h0] at HD
    have hc0 : 0 ≤ c := by omega
    by_cases h8 : c ≤ 8
    · rw [if_pos h8] at HD
      clear hc h0
      go_enter Tryd.func48, Tryd.ntmps48
      go_wp2
      go_ret
      exact gives2_new w _ HD.out (by simp)
    · rw [if_neg h8] at HD
      by_cases h256 : c ≤ 256
      · rw [if_pos h256] at HD
        clear hc h0
        have h8 : 8 < c := by omega
        go_enter Tryd.func48, Tryd.ntmps48
        go_wp2
        go_ret
        exact gives2_new w _ HD.out (by simp)
      · rw [if_neg h256] at HD
        have h1 : 16777216 ≤ c := by omega
        have h2 : c < 33554432 := by omega
        clear hc h0 h8 h256
        go_enter Tryd.func48, Tryd.ntmps48
        go_wp2
        go_ret
        exact gives2_new w _ HD.out (by simp)
end Go.Proofs.YtgkodjkhhmcnnaaDoor.S5
