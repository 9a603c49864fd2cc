/- A clock's New, Now, Next, comes, Set. -/
import Derived.Test.YtfelmnhhldgobaaTmMath2
namespace Go.Proofs.Ytfelmnhhldgobaa
open Go.RowKit
abbrev CS (w : World) (c : Nat) (V : Value) (s : tm.St) : Prop := CK w c s.now s.last V s.l
abbrev CSR (c : Nat) (V : Value) (w w' : World) (s : tm.St) : Prop := CKR c V w w' s.now s.last s.l
theorem CKR.same {w : World} {c : Nat} {now last : Int} {V : Value} {l : List tm.T} (h : CK w c now last V l) : CKR c V w w now last l := ⟨V, h, Fr.refl _ _, fun _ x => .inl x⟩
theorem CKR.drew {w : World} {c : Nat} {now last : Int} {V : Value} {l : List tm.T} (h : CK w c now last V l) (k : Nat) : CKR c V w (w.drewN k) now last l := ⟨V, h.below (below_dN (Below.refl _ _) k), (Fr.refl _ _).drewN k, fun _ x => .inl x⟩
theorem CKR.then {w w1 w2 : World} {c : Nat} {n2 a2 : Int} {V V1 : Value} {l2 : List tm.T} (f : Fr (OwnC c V) w w1) (o : ∀ y, OwnC c V1 y → OwnC c V y ∨ w.heap.size ≤ y) (r : CKR c V1 w1 w2 n2 a2 l2) : CKR c V w w2 n2 a2 l2 := by
  obtain ⟨V2, h2, f2, o2⟩ := r
  refine ⟨V2, h2, f.trans f2 fun k hk x => ?_, fun y hy => ?_⟩
  · rcases o k x with a | a
    · exact a
    · omega
  · rcases o2 y hy with a | a
    · exact o y a
    · have := f.size
      exact .inr (by omega)
theorem CKR.after {w w1 w2 : World} {c : Nat} {n2 a2 : Int} {V : Value} {l2 : List tm.T} (b : Below w.heap.size w w1) (r : CKR c V w1 w2 n2 a2 l2) : CKR c V w w2 n2 a2 l2 := by
  obtain ⟨V2, h2, f2, o2⟩ := r
  refine ⟨V2, h2, (Fr.of_below b _).then f2, fun y hy => ?_⟩
  rcases o2 y hy with a | a
  · exact .inl a
  · exact .inr (Nat.le_trans b.size a)
theorem CKR.below {w w1 w2 : World} {c : Nat} {n2 a2 : Int} {V : Value} {l2 : List tm.T} (r : CKR c V w w1 n2 a2 l2) (b : Below w1.heap.size w1 w2) : CKR c V w w2 n2 a2 l2 := by
  obtain ⟨V2, h2, f2, o2⟩ := r
  exact ⟨V2, h2.below b, f2.below b, o2⟩
theorem newC_any (w : World) : Calls Try.prog 7 #[] w fun e w' => e = .returned (.pointer (some ⟨w.heap.size, 0, none⟩)) ∧ w' = w.alloc (.cells #[.int .i64 0, .int .i64 0, .slice none 0 0] 65) := by
  go_enter Try.func7, Try.ntmps7
  go_wp2_with fail
  go_ret
  exact ⟨rfl, rfl⟩
theorem CS.new (w : World) : CS (w.alloc (.cells #[.int .i64 0, .int .i64 0, .slice none 0 0] 65)) w.heap.size (.slice none 0 0) tm.St.zero := ⟨heap_alloc_new w _, rfl, .inl ⟨rfl, rfl⟩⟩
theorem isTime_any (x : Int) (w : World) (R : Bool) (hR : tm.isT x = R) : Calls Try.prog 23 #[.int .i64 x] w fun e w' => e = .returned (.bool R) ∧ w' = w := by
  subst hR
  go_enter Try.func23, Try.ntmps23
  by_cases h0 : 0 ≤ x
  · go_wp2_with fail
    go_ret
    exact ⟨ret_bool (by unfold tm.isT; simp [h0]), rfl⟩
  · have h0' : x < 0 := by omega
    go_wp2_with fail
    go_ret
    exact ⟨ret_bool (decide_eq_false (by omega)).symm, rfl⟩
theorem now_any (c : Nat) (V : Value) (s : tm.St) (w : World) (h : CS w c V s) : Calls Try.prog 19 #[.pointer (some ⟨c, 0, none⟩)] w fun e w' => e = .returned (.int .i64 s.now) ∧ w' = w := by
  obtain ⟨c0, -, -⟩ := h.cell
  have hl := h.lt
  clear h
  go_enter Try.func19, Try.ntmps19
  go_wp2_with fail
  go_ret
  exact ⟨rfl, rfl⟩
set_option maxRecDepth 100000 in
theorem next_any (c : Nat) (V : Value) (s : tm.St) (w : World) (h : CS w c V s) (R : Int × Bool) (hR : tm.nextR s = R) : Calls Try.prog 17 #[.pointer (some ⟨c, 0, none⟩)] w fun e w' => e = .returned (.tuple #[.int .i64 R.1, .bool R.2]) ∧ w' = w := by
  subst hR
  obtain ⟨-, -, c2⟩ := h.cell
  have hl := h.lt
  by_cases h0 : s.l.length = 0
  · obtain ⟨o, cap, rfl⟩ := h.slice
    rw [show tm.nextR s = (0, false) by unfold tm.nextR; rw [if_pos h0]]
    rw [h0] at c2
    clear h
    go_enter Try.func17, Try.ntmps17
    go_wp2_with fail
    go_ret2
    exact ⟨rfl, rfl⟩
  · obtain ⟨g, cap, rfl, -, hq⟩ := h.hq (by omega)
    obtain ⟨-, -, d2, -⟩ := hq.q.cell (tm.ix_at (l := s.l) (i := 0) (by omega))
    rw [Nat.zero_mul, Nat.zero_add] at d2
    have hgl := hq.q.lt
    rw [show tm.nextR s = ((tm.ix s.l 0).due, true) by unfold tm.nextR; rw [if_neg h0]]
    obtain ⟨n, hn⟩ : ∃ n, s.l.length = n := ⟨_, rfl⟩
    rw [hn] at c2 h0
    have hne : ((n : Int) == 0) = false := beq_eq_false_iff_ne.2 (by omega)
    have hpos : (0 : Int) < (n : Int) := by omega
    generalize (tm.ix s.l 0).due = D at *
    clear h hq hn
    go_enter Try.func17, Try.ntmps17
    go_wp2_with fail
    go_ret2
    exact ⟨rfl, rfl⟩
set_option maxRecDepth 100000 in
theorem comes_any (c : Nat) (V : Value) (s : tm.St) (till : Int) (w : World) (h : CS w c V s) (R : Bool) (hR : tm.comesB s till = R) : Calls Try.prog 33 #[.pointer (some ⟨c, 0, none⟩), .int .i64 till] w fun e w' => e = .returned (.bool R) ∧ w' = w := by
  have HN := Lib.hid (next_any c V s w h _ rfl)
  have HR : Hid (R = ((tm.nextR s).2 && decide ((tm.nextR s).1 ≤ till))) := Lib.hid (by
    rw [← hR]
    unfold tm.comesB tm.nextR
    by_cases h0 : s.l.length = 0
    · rw [if_pos h0]; simp [h0]
    · rw [if_neg h0]; simp [show 0 < s.l.length by omega])
  generalize tm.nextR s = p at *
  obtain ⟨D, b⟩ := p
  clear h hR
  go_enter Try.func33, Try.ntmps33
  go_wp2_with fail
  refine HN.out.mono ?_
  rintro e w' ⟨rfl, hw⟩
  replace hw := hw.symm
  subst hw
  cases b with
  | false =>
    go_wp2_with fail
    go_ret
    exact ⟨ret_bool (by rw [HR.out]; rfl), rfl⟩
  | true =>
    go_wp2_with fail
    go_ret
    exact ⟨ret_bool (by rw [HR.out]; simp), rfl⟩
end Go.Proofs.Ytfelmnhhldgobaa
