/- What kinds bytes are of; how many a text begins with. -/
import Derived.Test.YthmiaamjbokljaaGreatDoorTkMem
namespace Go.Proofs.YthmiaamjbokljaaGreatDoor
open Go.RowKit
theorem isBlank_any (c : UInt8) (w : World) : Calls Tryz.prog 53 #[.int .u8 c.toNat] w fun e w' => e = .returned (.bool (tk.isBlank c)) ∧ w' = w := by
  have HD : Hid (tk.isBlank c = decide (c.toNat = 9 ∨ c.toNat = 13 ∨ c.toNat = 32)) := Lib.hid rfl
  generalize tk.isBlank c = R at *
  generalize c.toNat = q at *
  by_cases g0 : q = 9
  · subst g0
    go_enter Tryz.func53, Tryz.ntmps53
    go_wp2
    go_ret
    exact ⟨ret_bool (by rw [HD.out]; rfl), rfl⟩
  have g0i : ((q : Int) == 9) = false := by simp; omega
  by_cases g1 : q = 13
  · subst g1
    go_enter Tryz.func53, Tryz.ntmps53
    go_wp2
    go_ret
    exact ⟨ret_bool (by rw [HD.out]; rfl), rfl⟩
  have g1i : ((q : Int) == 13) = false := by simp; omega
  by_cases g2 : q = 32
  · subst g2
    go_enter Tryz.func53, Tryz.ntmps53
    go_wp2
    go_ret
    exact ⟨ret_bool (by rw [HD.out]; rfl), rfl⟩
  have g2i : ((q : Int) == 32) = false := by simp; omega
  go_enter Tryz.func53, Tryz.ntmps53
  go_wp2
  go_ret
  exact ⟨ret_bool (by rw [HD.out]; simp [g0, g1, g2]), rfl⟩
theorem isBreak_any (c : UInt8) (w : World) : Calls Tryz.prog 58 #[.int .u8 c.toNat] w fun e w' => e = .returned (.bool (tk.isBreak c)) ∧ w' = w := by
  have HD : Hid (tk.isBreak c = decide (c.toNat = 10 ∨ c.toNat = 59)) := Lib.hid rfl
  generalize tk.isBreak c = R at *
  generalize c.toNat = q at *
  by_cases g0 : q = 10
  · subst g0
    go_enter Tryz.func58, Tryz.ntmps58
    go_wp2
    go_ret
    exact ⟨ret_bool (by rw [HD.out]; rfl), rfl⟩
  have g0i : ((q : Int) == 10) = false := by simp; omega
  by_cases g1 : q = 59
  · subst g1
    go_enter Tryz.func58, Tryz.ntmps58
    go_wp2
    go_ret
    exact ⟨ret_bool (by rw [HD.out]; rfl), rfl⟩
  have g1i : ((q : Int) == 59) = false := by simp; omega
  go_enter Tryz.func58, Tryz.ntmps58
  go_wp2
  go_ret
  exact ⟨ret_bool (by rw [HD.out]; simp [g0, g1]), rfl⟩
theorem isSign_any (c : UInt8) (w : World) : Calls Tryz.prog 60 #[.int .u8 c.toNat] w fun e w' => e = .returned (.bool (tk.isSign c)) ∧ w' = w := by
  have HD : Hid (tk.isSign c = decide (c.toNat = 123 ∨ c.toNat = 125 ∨ c.toNat = 61)) := Lib.hid rfl
  generalize tk.isSign c = R at *
  generalize c.toNat = q at *
  by_cases g0 : q = 123
  · subst g0
    go_enter Tryz.func60, Tryz.ntmps60
    go_wp2
    go_ret
    exact ⟨ret_bool (by rw [HD.out]; rfl), rfl⟩
  have g0i : ((q : Int) == 123) = false := by simp; omega
  by_cases g1 : q = 125
  · subst g1
    go_enter Tryz.func60, Tryz.ntmps60
    go_wp2
    go_ret
    exact ⟨ret_bool (by rw [HD.out]; rfl), rfl⟩
  have g1i : ((q : Int) == 125) = false := by simp; omega
  by_cases g2 : q = 61
  · subst g2
    go_enter Tryz.func60, Tryz.ntmps60
    go_wp2
    go_ret
    exact ⟨ret_bool (by rw [HD.out]; rfl), rfl⟩
  have g2i : ((q : Int) == 61) = false := by simp; omega
  go_enter Tryz.func60, Tryz.ntmps60
  go_wp2
  go_ret
  exact ⟨ret_bool (by rw [HD.out]; simp [g0, g1, g2]), rfl⟩
theorem isDigit_any (c : UInt8) (w : World) : Calls Tryz.prog 86 #[.int .u8 c.toNat] w fun e w' => e = .returned (.bool (tk.isDigit c)) ∧ w' = w := by
  have HD : Hid (tk.isDigit c = decide (48 ≤ c.toNat ∧ c.toNat ≤ 57)) := Lib.hid rfl
  generalize tk.isDigit c = R at *
  generalize c.toNat = q at *
  by_cases g0 : (48 : Int) ≤ (q : Int)
  · by_cases g1 : (q : Int) ≤ 57
    · go_enter Tryz.func86, Tryz.ntmps86
      go_wp2
      go_ret
      exact ⟨ret_bool (by rw [HD.out]; symm; simp; omega), rfl⟩
    · go_enter Tryz.func86, Tryz.ntmps86
      go_wp2
      go_ret
      exact ⟨ret_bool (by rw [HD.out]; symm; simp; omega), rfl⟩
  · go_enter Tryz.func86, Tryz.ntmps86
    go_wp2
    go_ret
    exact ⟨ret_bool (by rw [HD.out]; symm; simp; omega), rfl⟩
theorem isLetter_any (c : UInt8) (w : World) : Calls Tryz.prog 88 #[.int .u8 c.toNat] w fun e w' => e = .returned (.bool (tk.isLetter c)) ∧ w' = w := by
  have HD : Hid (tk.isLetter c = decide (65 ≤ c.toNat ∧ c.toNat ≤ 90 ∨ 97 ≤ c.toNat ∧ c.toNat ≤ 122)) := Lib.hid rfl
  generalize tk.isLetter c = R at *
  generalize c.toNat = q at *
  by_cases g0 : (65 : Int) ≤ (q : Int) <;> by_cases g1 : (q : Int) ≤ 90 <;> by_cases g2 : (97 : Int) ≤ (q : Int) <;> by_cases g3 : (q : Int) ≤ 122
  all_goals
    go_enter Tryz.func88, Tryz.ntmps88
    go_wp2
    go_ret
    exact ⟨ret_bool (by rw [HD.out]; symm; simp; omega), rfl⟩
theorem isControl_any (c : UInt8) (w : World) : Calls Tryz.prog 97 #[.int .u8 c.toNat] w fun e w' => e = .returned (.bool (tk.isControl c)) ∧ w' = w := by
  have HD : Hid (tk.isControl c = decide (c.toNat < 32 ∨ c.toNat = 127)) := Lib.hid rfl
  generalize tk.isControl c = R at *
  generalize c.toNat = q at *
  by_cases g1 : q = 127
  · subst g1
    go_enter Tryz.func97, Tryz.ntmps97
    go_wp2
    go_ret
    exact ⟨ret_bool (by rw [HD.out]; rfl), rfl⟩
  have g1i : ((q : Int) == 127) = false := by simp; omega
  by_cases g0 : (q : Int) < 32
  all_goals
    go_enter Tryz.func97, Tryz.ntmps97
    go_wp2
    go_ret
    exact ⟨ret_bool (by rw [HD.out]; symm; simp; omega), rfl⟩
theorem inLine_any (c : UInt8) (w : World) : Calls Tryz.prog 56 #[.int .u8 c.toNat] w fun e w' => e = .returned (.bool (tk.inLine c)) ∧ w' = w := by
  have HD : Hid (tk.inLine c = decide (c.toNat ≠ 10)) := Lib.hid rfl
  generalize tk.inLine c = R at *
  generalize c.toNat = q at *
  by_cases g0 : q = 10
  · subst g0
    go_enter Tryz.func56, Tryz.ntmps56
    go_wp2
    go_ret
    exact ⟨ret_bool (by rw [HD.out]; rfl), rfl⟩
  have g0i : ((q : Int) == 10) = false := by simp; omega
  go_enter Tryz.func56, Tryz.ntmps56
  go_wp2
  go_ret
  exact ⟨ret_bool (by rw [HD.out, decide_eq_true g0]; simp; omega), rfl⟩
theorem isWord_any (c : UInt8) (w : World) : Calls Tryz.prog 64 #[.int .u8 c.toNat] w fun e w' => e = .returned (.bool (tk.isWord c)) ∧ w' = w := by
  have HD : Hid (tk.isWord c = (tk.isLetter c || tk.isDigit c || decide (c.toNat = 45 ∨ c.toNat = 95 ∨ c.toNat = 46 ∨ c.toNat = 58))) := Lib.hid rfl
  have HL := Lib.hid (fun W => isLetter_any c W)
  have HG := Lib.hid (fun W => isDigit_any c W)
  generalize tk.isWord c = R at *
  generalize tk.isLetter c = L at *
  generalize tk.isDigit c = D at *
  generalize c.toNat = q at *
  have h4 : q = 45 ∨ q = 95 ∨ q = 46 ∨ q = 58 ∨ (q ≠ 45 ∧ q ≠ 95 ∧ q ≠ 46 ∧ q ≠ 58) := by omega
  go_enter Tryz.func64, Tryz.ntmps64
  go_wp2_with fail
  refine (HL.out _).mono ?_
  rintro e w' ⟨rfl, rfl⟩
  cases L
  case true =>
    go_wp2
    go_ret
    exact ⟨ret_bool (by rw [HD.out]; rfl), rfl⟩
  case false =>
    go_wp2_with fail
    refine (HG.out _).mono ?_
    rintro e w' ⟨rfl, rfl⟩
    cases D
    case true =>
      go_wp2
      go_ret
      exact ⟨ret_bool (by rw [HD.out]; rfl), rfl⟩
    case false =>
      rcases h4 with rfl | rfl | rfl | rfl | ⟨g0, g1, g2, g3⟩
      · go_wp2
        go_ret
        exact ⟨ret_bool (by rw [HD.out]; rfl), rfl⟩
      · go_wp2
        go_ret
        exact ⟨ret_bool (by rw [HD.out]; rfl), rfl⟩
      · go_wp2
        go_ret
        exact ⟨ret_bool (by rw [HD.out]; rfl), rfl⟩
      · go_wp2
        go_ret
        exact ⟨ret_bool (by rw [HD.out]; rfl), rfl⟩
      · have e0 : ((q : Int) == 45) = false := by simp; omega
        have e1 : ((q : Int) == 95) = false := by simp; omega
        have e2 : ((q : Int) == 46) = false := by simp; omega
        have e3 : ((q : Int) == 58) = false := by simp; omega
        go_wp2
        go_ret
        exact ⟨ret_bool (by rw [HD.out]; simp [g0, g1, g2, g3]), rfl⟩
theorem escaped_any (c : UInt8) (w : World) : Calls Tryz.prog 98 #[.int .u8 c.toNat] w fun e w' => e = .returned (.int .u8 (tk.escaped c : Nat)) ∧ w' = w := by
  have HD : Hid (tk.escaped c = if c.toNat = 34 ∨ c.toNat = 92 then c.toNat else if c.toNat = 110 then 10 else if c.toNat = 116 then 9 else 0) := Lib.hid rfl
  generalize tk.escaped c = R at *
  generalize c.toNat = q at *
  have h4 : q = 34 ∨ q = 92 ∨ q = 110 ∨ q = 116 ∨ (q ≠ 34 ∧ q ≠ 92 ∧ q ≠ 110 ∧ q ≠ 116) := by omega
  have key : ∀ a b : Nat, a = b → Ending.returned (.int .u8 (a : Int)) = .returned (.int .u8 (b : Int)) := fun a b h => by rw [h]
  rcases h4 with rfl | rfl | rfl | rfl | ⟨g0, g1, g2, g3⟩
  · go_enter Tryz.func98, Tryz.ntmps98
    go_wp2
    go_ret
    exact ⟨key _ _ (by rw [HD.out]; rfl), rfl⟩
  · go_enter Tryz.func98, Tryz.ntmps98
    go_wp2
    go_ret
    exact ⟨key _ _ (by rw [HD.out]; rfl), rfl⟩
  · go_enter Tryz.func98, Tryz.ntmps98
    go_wp2
    go_ret
    exact ⟨key _ _ (by rw [HD.out]; rfl), rfl⟩
  · go_enter Tryz.func98, Tryz.ntmps98
    go_wp2
    go_ret
    exact ⟨key _ _ (by rw [HD.out]; rfl), rfl⟩
  · have e0 : ((q : Int) == 34) = false := by simp; omega
    have e1 : ((q : Int) == 92) = false := by simp; omega
    have e2 : ((q : Int) == 110) = false := by simp; omega
    have e3 : ((q : Int) == 116) = false := by simp; omega
    go_enter Tryz.func98, Tryz.ntmps98
    go_wp2
    go_ret
    exact ⟨key _ _ (by rw [HD.out]; simp [g0, g1, g2, g3]), rfl⟩
/-- a function value that tells of which kind a byte is -/
def TellsBy (F : Nat) (p : UInt8 → Bool) : Prop := ∀ (c : UInt8) (W : World), Calls Tryz.prog F #[.int .u8 c.toNat] W fun e w' => e = .returned (.bool (p c)) ∧ w' = W
theorem tk.span_split (p : UInt8 → Bool) : ∀ (l : List UInt8) (k : Nat), k < tk.span p l → ∃ h : k < l.length, p l[k] = true
  | [], k, h => by simp [tk.span] at h
  | c :: l, k, h => by
    unfold tk.span at h
    rw [List.takeWhile_cons] at h
    split at h
    · rename_i hc
      cases k with
      | zero => exact ⟨by simp, hc⟩
      | succ k =>
        obtain ⟨h1, h2⟩ := tk.span_split p l k (by simpa [tk.span] using h)
        exact ⟨by simpa using h1, by simpa using h2⟩
    · simp at h
theorem tk.span_stop (p : UInt8 → Bool) : ∀ (l : List UInt8) (h : tk.span p l < l.length), p (l[tk.span p l]) = false
  | [], h => by simp at h
  | c :: l, h => by
    by_cases hc : p c = true
    · have e : tk.span p (c :: l) = tk.span p l + 1 := by unfold tk.span; rw [List.takeWhile_cons, if_pos hc]; rfl
      have := tk.span_stop p l (by rw [e] at h; simpa using h)
      simpa [e] using this
    · have e : tk.span p (c :: l) = 0 := by unfold tk.span; rw [List.takeWhile_cons, if_neg hc]; rfl
      simpa [e] using hc
set_option maxRecDepth 100000 in
set_option maxHeartbeats 1600000 in
theorem span_isBlank (l : List UInt8) (w : World) (hl : l.length ≤ 1048576) :
    Calls Tryz.prog 54 #[str l, .func (.func 53) #[] #[]] w fun e w' => e = .returned (.int .i64 (tk.span tk.isBlank l : Nat)) ∧ w' = w := by
  have hle := tk.span_le tk.isBlank l
  have HS := Lib.hid (tk.span_split tk.isBlank l)
  have HT := Lib.hid (tk.span_stop tk.isBlank l)
  have HF := Lib.hid (fun c W => isBlank_any c W)
  have hsz := str_size l
  have HIX := Lib.hid (fun (i : Nat) (hi : i < l.length) wx => run_str_idx l .i64 i hi wx)
  generalize hN : tk.span tk.isBlank l = N at *
  clear hN
  obtain ⟨n, hn⟩ : ∃ n, l.length = n := ⟨_, rfl⟩
  have HN := Lib.hid hn
  rw [hn] at hl hle hsz
  clear hn
  go_enter Tryz.func54, Tryz.ntmps54
  go_wp2_with fail
  go_loopg [5] N (fun gg s5 wr => ∃ k : Nat, s5 = .int .i64 k ∧ k ≤ N ∧ N - k ≤ gg ∧ Hid (wr = w))
  case atStart => exact ⟨0, rfl, Nat.zero_le _, by omega, Lib.hid rfl⟩
  case round =>
    obtain ⟨k, rfl, hk, hgg, HW⟩ := hrel
    obtain rfl := HW.out
    by_cases hlt : k < n
    · have hki : (k : Int) < (n : Int) := by omega
      have hkl : k < l.length := by rw [HN.out]; exact hlt
      have hix := HIX.out k hkl
      by_cases hkN : k < N
      · obtain ⟨_, h2⟩ := HS.out k hkN
        generalize l[k] = c at *
        have HC := Lib.hid (fun W => HF.out c W)
        rw [h2] at HC
        clear h2
        go_wp2_with fail
        refine (HC.out _).mono ?_
        rintro e w' ⟨rfl, rfl⟩
        go_wp2_with fail
        go_roundg (N - (k + 1))
        case measure => omega
        case rel => exact ⟨k + 1, by go_num, by omega, Nat.le_refl _, Lib.hid rfl⟩
      · obtain rfl : k = N := by omega
        have h2 := HT.out hkl
        generalize l[k] = c at *
        have HC := Lib.hid (fun W => HF.out c W)
        rw [h2] at HC
        clear h2
        go_wp2_with fail
        refine (HC.out _).mono ?_
        rintro e w' ⟨rfl, rfl⟩
        go_wp2_with fail
        go_ret
        exact ⟨rfl, rfl⟩
    · obtain rfl : k = N := by omega
      have hki : ¬ (k : Int) < (n : Int) := by omega
      go_wp2_with fail
      go_ret
      exact ⟨rfl, rfl⟩
set_option maxRecDepth 100000 in
set_option maxHeartbeats 1600000 in
theorem span_inLine (l : List UInt8) (w : World) (hl : l.length ≤ 1048576) :
    Calls Tryz.prog 54 #[str l, .func (.func 56) #[] #[]] w fun e w' => e = .returned (.int .i64 (tk.span tk.inLine l : Nat)) ∧ w' = w := by
  have hle := tk.span_le tk.inLine l
  have HS := Lib.hid (tk.span_split tk.inLine l)
  have HT := Lib.hid (tk.span_stop tk.inLine l)
  have HF := Lib.hid (fun c W => inLine_any c W)
  have hsz := str_size l
  have HIX := Lib.hid (fun (i : Nat) (hi : i < l.length) wx => run_str_idx l .i64 i hi wx)
  generalize hN : tk.span tk.inLine l = N at *
  clear hN
  obtain ⟨n, hn⟩ : ∃ n, l.length = n := ⟨_, rfl⟩
  have HN := Lib.hid hn
  rw [hn] at hl hle hsz
  clear hn
  go_enter Tryz.func54, Tryz.ntmps54
  go_wp2_with fail
  go_loopg [5] N (fun gg s5 wr => ∃ k : Nat, s5 = .int .i64 k ∧ k ≤ N ∧ N - k ≤ gg ∧ Hid (wr = w))
  case atStart => exact ⟨0, rfl, Nat.zero_le _, by omega, Lib.hid rfl⟩
  case round =>
    obtain ⟨k, rfl, hk, hgg, HW⟩ := hrel
    obtain rfl := HW.out
    by_cases hlt : k < n
    · have hki : (k : Int) < (n : Int) := by omega
      have hkl : k < l.length := by rw [HN.out]; exact hlt
      have hix := HIX.out k hkl
      by_cases hkN : k < N
      · obtain ⟨_, h2⟩ := HS.out k hkN
        generalize l[k] = c at *
        have HC := Lib.hid (fun W => HF.out c W)
        rw [h2] at HC
        clear h2
        go_wp2_with fail
        refine (HC.out _).mono ?_
        rintro e w' ⟨rfl, rfl⟩
        go_wp2_with fail
        go_roundg (N - (k + 1))
        case measure => omega
        case rel => exact ⟨k + 1, by go_num, by omega, Nat.le_refl _, Lib.hid rfl⟩
      · obtain rfl : k = N := by omega
        have h2 := HT.out hkl
        generalize l[k] = c at *
        have HC := Lib.hid (fun W => HF.out c W)
        rw [h2] at HC
        clear h2
        go_wp2_with fail
        refine (HC.out _).mono ?_
        rintro e w' ⟨rfl, rfl⟩
        go_wp2_with fail
        go_ret
        exact ⟨rfl, rfl⟩
    · obtain rfl : k = N := by omega
      have hki : ¬ (k : Int) < (n : Int) := by omega
      go_wp2_with fail
      go_ret
      exact ⟨rfl, rfl⟩
set_option maxRecDepth 100000 in
set_option maxHeartbeats 1600000 in
theorem span_isDigit (l : List UInt8) (w : World) (hl : l.length ≤ 1048576) :
    Calls Tryz.prog 54 #[str l, .func (.func 86) #[] #[]] w fun e w' => e = .returned (.int .i64 (tk.span tk.isDigit l : Nat)) ∧ w' = w := by
  have hle := tk.span_le tk.isDigit l
  have HS := Lib.hid (tk.span_split tk.isDigit l)
  have HT := Lib.hid (tk.span_stop tk.isDigit l)
  have HF := Lib.hid (fun c W => isDigit_any c W)
  have hsz := str_size l
  have HIX := Lib.hid (fun (i : Nat) (hi : i < l.length) wx => run_str_idx l .i64 i hi wx)
  generalize hN : tk.span tk.isDigit l = N at *
  clear hN
  obtain ⟨n, hn⟩ : ∃ n, l.length = n := ⟨_, rfl⟩
  have HN := Lib.hid hn
  rw [hn] at hl hle hsz
  clear hn
  go_enter Tryz.func54, Tryz.ntmps54
  go_wp2_with fail
  go_loopg [5] N (fun gg s5 wr => ∃ k : Nat, s5 = .int .i64 k ∧ k ≤ N ∧ N - k ≤ gg ∧ Hid (wr = w))
  case atStart => exact ⟨0, rfl, Nat.zero_le _, by omega, Lib.hid rfl⟩
  case round =>
    obtain ⟨k, rfl, hk, hgg, HW⟩ := hrel
    obtain rfl := HW.out
    by_cases hlt : k < n
    · have hki : (k : Int) < (n : Int) := by omega
      have hkl : k < l.length := by rw [HN.out]; exact hlt
      have hix := HIX.out k hkl
      by_cases hkN : k < N
      · obtain ⟨_, h2⟩ := HS.out k hkN
        generalize l[k] = c at *
        have HC := Lib.hid (fun W => HF.out c W)
        rw [h2] at HC
        clear h2
        go_wp2_with fail
        refine (HC.out _).mono ?_
        rintro e w' ⟨rfl, rfl⟩
        go_wp2_with fail
        go_roundg (N - (k + 1))
        case measure => omega
        case rel => exact ⟨k + 1, by go_num, by omega, Nat.le_refl _, Lib.hid rfl⟩
      · obtain rfl : k = N := by omega
        have h2 := HT.out hkl
        generalize l[k] = c at *
        have HC := Lib.hid (fun W => HF.out c W)
        rw [h2] at HC
        clear h2
        go_wp2_with fail
        refine (HC.out _).mono ?_
        rintro e w' ⟨rfl, rfl⟩
        go_wp2_with fail
        go_ret
        exact ⟨rfl, rfl⟩
    · obtain rfl : k = N := by omega
      have hki : ¬ (k : Int) < (n : Int) := by omega
      go_wp2_with fail
      go_ret
      exact ⟨rfl, rfl⟩
set_option maxRecDepth 100000 in
set_option maxHeartbeats 1600000 in
theorem span_isWord (l : List UInt8) (w : World) (hl : l.length ≤ 1048576) :
    Calls Tryz.prog 54 #[str l, .func (.func 64) #[] #[]] w fun e w' => e = .returned (.int .i64 (tk.span tk.isWord l : Nat)) ∧ w' = w := by
  have hle := tk.span_le tk.isWord l
  have HS := Lib.hid (tk.span_split tk.isWord l)
  have HT := Lib.hid (tk.span_stop tk.isWord l)
  have HF := Lib.hid (fun c W => isWord_any c W)
  have hsz := str_size l
  have HIX := Lib.hid (fun (i : Nat) (hi : i < l.length) wx => run_str_idx l .i64 i hi wx)
  generalize hN : tk.span tk.isWord l = N at *
  clear hN
  obtain ⟨n, hn⟩ : ∃ n, l.length = n := ⟨_, rfl⟩
  have HN := Lib.hid hn
  rw [hn] at hl hle hsz
  clear hn
  go_enter Tryz.func54, Tryz.ntmps54
  go_wp2_with fail
  go_loopg [5] N (fun gg s5 wr => ∃ k : Nat, s5 = .int .i64 k ∧ k ≤ N ∧ N - k ≤ gg ∧ Hid (wr = w))
  case atStart => exact ⟨0, rfl, Nat.zero_le _, by omega, Lib.hid rfl⟩
  case round =>
    obtain ⟨k, rfl, hk, hgg, HW⟩ := hrel
    obtain rfl := HW.out
    by_cases hlt : k < n
    · have hki : (k : Int) < (n : Int) := by omega
      have hkl : k < l.length := by rw [HN.out]; exact hlt
      have hix := HIX.out k hkl
      by_cases hkN : k < N
      · obtain ⟨_, h2⟩ := HS.out k hkN
        generalize l[k] = c at *
        have HC := Lib.hid (fun W => HF.out c W)
        rw [h2] at HC
        clear h2
        go_wp2_with fail
        refine (HC.out _).mono ?_
        rintro e w' ⟨rfl, rfl⟩
        go_wp2_with fail
        go_roundg (N - (k + 1))
        case measure => omega
        case rel => exact ⟨k + 1, by go_num, by omega, Nat.le_refl _, Lib.hid rfl⟩
      · obtain rfl : k = N := by omega
        have h2 := HT.out hkl
        generalize l[k] = c at *
        have HC := Lib.hid (fun W => HF.out c W)
        rw [h2] at HC
        clear h2
        go_wp2_with fail
        refine (HC.out _).mono ?_
        rintro e w' ⟨rfl, rfl⟩
        go_wp2_with fail
        go_ret
        exact ⟨rfl, rfl⟩
    · obtain rfl : k = N := by omega
      have hki : ¬ (k : Int) < (n : Int) := by omega
      go_wp2_with fail
      go_ret
      exact ⟨rfl, rfl⟩
end Go.Proofs.YthmiaamjbokljaaGreatDoor
