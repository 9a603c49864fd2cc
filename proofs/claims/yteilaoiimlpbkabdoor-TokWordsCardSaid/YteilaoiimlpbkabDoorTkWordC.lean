/- The document's Word and Digit. -/
import Derived.Test.YteilaoiimlpbkabDoorTkAlive
import Derived.Test.YteilaoiimlpbkabDoorTkWordN
namespace Go.Proofs.YteilaoiimlpbkabDoor
open Go.RowKit
theorem refDigit_any (c : UInt8) (w : World) : Calls Tryd.prog 11 #[.int .u8 c.toNat] w fun e w' => e = .returned (.bool (tk.isDigit c)) ∧ w' = w := by
  have HD : Hid (tk.isDigit c = decide (48 ≤ c.toNat ∧ c.toNat ≤ 57)) := Lib.hid rfl
  generalize tk.isDigit c = R at *
  generalize c.toNat = q at *
  by_cases g0 : (48 : Int) ≤ (q : Int)
  · by_cases g1 : (q : Int) ≤ 57
    · go_enter Tryd.func11, Tryd.ntmps11
      go_wp2
      go_ret
      exact ⟨ret_bool (by rw [HD.out]; symm; simp; omega), rfl⟩
    · go_enter Tryd.func11, Tryd.ntmps11
      go_wp2
      go_ret
      exact ⟨ret_bool (by rw [HD.out]; symm; simp; omega), rfl⟩
  · go_enter Tryd.func11, Tryd.ntmps11
    go_wp2
    go_ret
    exact ⟨ret_bool (by rw [HD.out]; symm; simp; omega), rfl⟩
set_option maxHeartbeats 800000 in
theorem refWord_any (c : UInt8) (w : World) : Calls Tryd.prog 10 #[.int .u8 c.toNat] w fun e w' => e = .returned (.bool (tk.isWord c)) ∧ w' = w := by
  have HL : Hid (tk.isLetter c = decide (65 ≤ c.toNat ∧ c.toNat ≤ 90 ∨ 97 ≤ c.toNat ∧ c.toNat ≤ 122)) := Lib.hid rfl
  have HD : Hid (tk.isWord c = (tk.isLetter c || tk.isDigit c || decide (c.toNat = 45 ∨ c.toNat = 95 ∨ c.toNat = 46 ∨ c.toNat = 58))) := Lib.hid rfl
  have HG := Lib.hid (fun W => refDigit_any c W)
  generalize tk.isWord c = R at *
  generalize tk.isLetter c = L at *
  generalize tk.isDigit c = D at *
  generalize c.toNat = q at *
  by_cases g0 : (97 : Int) ≤ (q : Int) ∧ (q : Int) ≤ 122
  · obtain ⟨g1, g2⟩ := g0
    have HR : Hid (R = true) := Lib.hid (by rw [HD.out, HL.out]; simp; omega)
    go_enter Tryd.func10, Tryd.ntmps10
    go_wp2
    go_ret
    exact ⟨ret_bool HR.out.symm, rfl⟩
  by_cases h0 : (65 : Int) ≤ (q : Int) ∧ (q : Int) ≤ 90
  · obtain ⟨g1, g2⟩ := h0
    have HR : Hid (R = true) := Lib.hid (by rw [HD.out, HL.out]; simp; omega)
    have g3 : decide ((97 : Int) ≤ (q : Int)) = false := decide_eq_false (by omega)
    go_enter Tryd.func10, Tryd.ntmps10
    go_wp2
    go_ret
    exact ⟨ret_bool HR.out.symm, rfl⟩
  have HR : Hid (R = (D || decide (q = 45 ∨ q = 95 ∨ q = 46 ∨ q = 58))) := Lib.hid (by
    have hl : L = false := by rw [HL.out]; simp; omega
    rw [HD.out, hl, Bool.false_or])
  clear HD HL
  have h4 : q = 45 ∨ q = 95 ∨ q = 46 ∨ q = 58 ∨ (q ≠ 45 ∧ q ≠ 95 ∧ q ≠ 46 ∧ q ≠ 58) := by omega
  have H4 := Lib.hid h4
  clear h4
  have hn : ((q : Int) < 65) ∨ (90 < (q : Int) ∧ (q : Int) < 97) ∨ (122 < (q : Int)) := by omega
  clear g0 h0
  rcases hn with hn | ⟨hn, hn2⟩ | hn
  all_goals
    go_enter Tryd.func10, Tryd.ntmps10
    go_wp2_with fail
    refine (HG.out _).mono ?_
    rintro e w' ⟨rfl, rfl⟩
    cases D
    case true =>
      go_wp2
      go_ret
      exact ⟨ret_bool (by rw [HR.out]; rfl), rfl⟩
    case false =>
      rcases H4.out with rfl | rfl | rfl | rfl | ⟨g0, g1, g2, g3⟩
      · first | (exfalso; omega) | (go_wp2; go_ret; exact ⟨ret_bool (by rw [HR.out]; rfl), rfl⟩)
      · first | (exfalso; omega) | (go_wp2; go_ret; exact ⟨ret_bool (by rw [HR.out]; rfl), rfl⟩)
      · first | (exfalso; omega) | (go_wp2; go_ret; exact ⟨ret_bool (by rw [HR.out]; rfl), rfl⟩)
      · first | (exfalso; omega) | (go_wp2; go_ret; exact ⟨ret_bool (by rw [HR.out]; rfl), rfl⟩)
      · have e0 : ((q : Int) == 45) = false := by simp; omega
        have e1 : ((q : Int) == 95) = false := by simp; omega
        have e2 : ((q : Int) == 46) = false := by simp; omega
        have e3 : ((q : Int) == 58) = false := by simp; omega
        go_wp2
        go_ret
        exact ⟨ret_bool (by rw [HR.out]; simp [g0, g1, g2, g3] <;> omega), rfl⟩
theorem tk.digs_snoc (s : List UInt8) (k : Nat) (h : k < s.length) : tk.digs (s.take (k + 1)) = (tk.digs (s.take k) && (tk.isDigit s[k] || (decide (k = 0) && decide (s[k].toNat = 45)))) := by
  rw [List.take_succ_eq_append_getElem h]
  cases k with
  | zero => simp [tk.digs]
  | succ k =>
    cases s with
    | nil => simp at h
    | cons c l =>
      have hl : k < l.length := by simpa using h
      simp only [List.take_succ_cons, List.cons_append, tk.digs, List.getElem_cons_succ, List.all_append, List.all_cons, List.all_nil, Bool.and_true, Nat.add_one_ne_zero, decide_false, Bool.false_and, Bool.or_false, Bool.and_assoc]
/-- is one word these tokens, the text's own? -/
def tk.plainOf (s : List UInt8) (ts : List tk.Tok) : Bool := match ts with
  | [t] => decide (t.kind = 1 ∧ t.text = s)
  | _ => false
theorem tk.plain_words {s : List UInt8} {ts : List tk.Tok} {c : Nat} {x : Int} (h : tk.tokens s = (ts, c, x)) : tk.plain s = tk.plainOf s ts := by
  show tk.plainOf s (tk.tokens s).1 = _
  rw [h]
end Go.Proofs.YteilaoiimlpbkabDoor
