/- escape, badText (a range over a text's runes), badValue. -/
import Derived.Test.YthmiaamjbokljaaGreatDoorKdParse
import Derived.Test.YthmiaamjbokljaaGreatDoorKdText
import Derived.Lib.OthersKept
namespace Go.Proofs.YthmiaamjbokljaaGreatDoor
open Go.RowKit
/-- what a rune stands as in quotes -/
def kd.esc (r : Int) : List UInt8 := if r = 34 then [92, 34] else if r = 92 then [92, 92] else if r = 10 then [92, 110] else if r = 9 then [92, 116] else []
set_option maxRecDepth 100000 in
theorem escape_any (r : Int) (w : World) : Calls Tryz.prog 72 #[.int .i32 r] w fun ev w' => ev = .returned (str (kd.esc r)) ∧ w' = w := by
  by_cases h1 : r = 34
  · subst h1
    go_enter Tryz.func72, Tryz.ntmps72
    go_wp2_with fail
    go_ret
    exact ⟨rfl, rfl⟩
  by_cases h2 : r = 92
  · subst h2
    go_enter Tryz.func72, Tryz.ntmps72
    go_wp2_with fail
    go_ret
    exact ⟨rfl, rfl⟩
  by_cases h3 : r = 10
  · subst h3
    go_enter Tryz.func72, Tryz.ntmps72
    go_wp2_with fail
    go_ret
    exact ⟨rfl, rfl⟩
  by_cases h4 : r = 9
  · subst h4
    go_enter Tryz.func72, Tryz.ntmps72
    go_wp2_with fail
    go_ret
    exact ⟨rfl, rfl⟩
  have e : kd.esc r = [] := by unfold kd.esc; rw [if_neg h1, if_neg h2, if_neg h3, if_neg h4]
  rw [e]
  have b1 : (r == 34) = false := by simpa using h1
  have b2 : (r == 92) = false := by simpa using h2
  have b3 : (r == 10) = false := by simpa using h3
  have b4 : (r == 9) = false := by simpa using h4
  clear h1 h2 h3 h4 e
  go_enter Tryz.func72, Tryz.ntmps72
  go_wp2_with fail
  go_ret
  exact ⟨rfl, rfl⟩
theorem get_list (l : List UInt8) (k : Nat) (h : k < l.length) : (ByteArray.mk l.toArray).get! k = l[k] := by
  show (ByteArray.mk l.toArray).data[k]! = _
  simp [h]
/-- a rune of a text: a byte below 128, or more bytes of which each is above -/
theorem dec_step (l : List UInt8) (pos : Nat) (h : pos < l.length) : ∃ r wd, Utf8.decode ⟨l.toArray⟩ pos = (r, wd) ∧ 1 ≤ wd ∧ pos + wd ≤ l.length ∧ ((r = l[pos].toNat ∧ r < 128 ∧ wd = 1) ∨ (128 ≤ r ∧ ∀ j, pos ≤ j → (hj : j < pos + wd) → (hl : j < l.length) → 128 ≤ l[j].toNat)) := by
  have hsz := str_size l
  have g0 : (ByteArray.mk l.toArray).get! (pos + 0) = l[pos] := get_list l pos h
  unfold Utf8.decode
  dsimp only
  simp only [g0, hsz]
  generalize hb : l[pos].toNat = b0
  have hone : ∀ j, pos ≤ j → j < pos + 1 → (hl : j < l.length) → b0 ≤ l[j].toNat := fun j h1 h2 hl => by
    obtain rfl : j = pos := by omega
    omega
  have hcont : ∀ k, (decide (pos + k < l.length) && ((ByteArray.mk l.toArray).get! (pos + k)).toNat / 64 == 2) = true → pos + k < l.length ∧ ∀ hl : pos + k < l.length, 128 ≤ l[pos + k].toNat := fun k hk => by
    rw [Bool.and_eq_true] at hk
    have h1 := of_decide_eq_true hk.1
    refine ⟨h1, fun hl => ?_⟩
    rw [get_list l _ h1] at hk
    have h2 : l[pos + k].toNat / 64 = 2 := by simpa using hk.2
    omega
  have hr : (128 : Nat) ≤ Utf8.runeError := by decide
  have bad : 128 ≤ b0 → ∃ r wd, (Utf8.runeError, 1) = (r, wd) ∧ 1 ≤ wd ∧ pos + wd ≤ l.length ∧ ((r = b0 ∧ r < 128 ∧ wd = 1) ∨ (128 ≤ r ∧ ∀ j, pos ≤ j → (hj : j < pos + wd) → (hl : j < l.length) → 128 ≤ l[j].toNat)) := fun h8 => ⟨_, _, rfl, Nat.le_refl _, by omega, .inr ⟨hr, fun j h1 h2 hl => Nat.le_trans h8 (hone j h1 h2 hl)⟩⟩
  split
  · rename_i h8
    exact ⟨_, _, rfl, Nat.le_refl _, by omega, .inl ⟨rfl, h8, rfl⟩⟩
  rename_i h8
  have h8 : 128 ≤ b0 := by omega
  split
  · rename_i hc
    rw [Bool.and_eq_true] at hc
    obtain ⟨c1, d1⟩ := hcont 1 hc.2
    split
    · rename_i hv
      refine ⟨_, _, rfl, by decide, by omega, .inr ⟨hv, fun j h1 h2 hl => ?_⟩⟩
      by_cases hj : j = pos
      · exact Nat.le_trans h8 (hone j h1 (by omega) hl)
      · obtain rfl : j = pos + 1 := by omega
        exact d1 hl
    · exact bad h8
  split
  · rename_i hc
    rw [Bool.and_eq_true, Bool.and_eq_true] at hc
    obtain ⟨c1, d1⟩ := hcont 1 hc.1.2
    obtain ⟨c2, d2⟩ := hcont 2 hc.2
    split
    · rename_i hv
      rw [Bool.and_eq_true] at hv
      have hv1 := of_decide_eq_true hv.1
      refine ⟨_, _, rfl, by decide, by omega, .inr ⟨by omega, fun j h1 h2 hl => ?_⟩⟩
      by_cases hj : j = pos
      · exact Nat.le_trans h8 (hone j h1 (by omega) hl)
      by_cases hj : j = pos + 1
      · subst hj; exact d1 hl
      · obtain rfl : j = pos + 2 := by omega
        exact d2 hl
    · exact bad h8
  split
  · rename_i hc
    rw [Bool.and_eq_true, Bool.and_eq_true, Bool.and_eq_true] at hc
    obtain ⟨c1, d1⟩ := hcont 1 hc.1.1.2
    obtain ⟨c2, d2⟩ := hcont 2 hc.1.2
    obtain ⟨c3, d3⟩ := hcont 3 hc.2
    split
    · rename_i hv
      rw [Bool.and_eq_true] at hv
      have hv1 := of_decide_eq_true hv.1
      refine ⟨_, _, rfl, by decide, by omega, .inr ⟨by omega, fun j h1 h2 hl => ?_⟩⟩
      by_cases hj : j = pos
      · exact Nat.le_trans h8 (hone j h1 (by omega) hl)
      by_cases hj : j = pos + 1
      · subst hj; exact d1 hl
      by_cases hj : j = pos + 2
      · subst hj; exact d2 hl
      · obtain rfl : j = pos + 3 := by omega
        exact d3 hl
    · exact bad h8
  · exact bad h8
theorem any_skip (l : List UInt8) (f : UInt8 → Bool) (pos wd : Nat) (h : pos + wd ≤ l.length) (hf : ∀ j, pos ≤ j → j < pos + wd → (hl : j < l.length) → f l[j] = false) : (l.drop pos).any f = (l.drop (pos + wd)).any f := by
  induction wd generalizing pos with
  | zero => rfl
  | succ n ih =>
    rw [tk.drop_cons l pos (by omega), List.any_cons, hf pos (Nat.le_refl _) (by omega) (by omega), Bool.false_or, ih (pos + 1) (by omega) (fun j h1 h2 hl => hf j (by omega) (by omega) hl), show pos + 1 + n = pos + (n + 1) by omega]
set_option maxRecDepth 100000 in
set_option maxHeartbeats 1600000 in
theorem badText_any (s : List UInt8) (w : World) (hmax : s.length ≤ 9223372036854775807) : Calls Tryz.prog 41 #[str s] w fun ev w' => ev = .returned (.bool (kd.badText s)) ∧ Below w.heap.size w w' := by
  have HD : Hid (kd.badText s = (s.drop 0).any fun c => !tk.may c) := Lib.hid rfl
  generalize kd.badText s = R at *
  have hIT : Hid ((w.iter ⟨s.toArray⟩ 0).heap[w.heap.size]? = some (.stringIter ⟨s.toArray⟩ 0) ∧ Below w.heap.size w (w.iter ⟨s.toArray⟩ 0)) := Lib.hid ⟨World.iter_heap w _ _, (Below.refl _ _).alloc (Nat.le_refl _) _⟩
  have hsz := str_size s
  go_enter Tryz.func41, Tryz.ntmps41
  go_wp2_with fail
  generalize w.iter ⟨s.toArray⟩ 0 = w0 at *
  go_loopg [] s.length (fun gg wr => ∃ pos : Nat, pos ≤ s.length ∧ s.length - pos ≤ gg ∧ Hid (wr.heap[w.heap.size]? = some (.stringIter ⟨s.toArray⟩ pos) ∧ Below w.heap.size w wr ∧ R = (s.drop pos).any fun c => !tk.may c))
  case atStart => exact ⟨0, Nat.zero_le _, by omega, Lib.hid ⟨hIT.out.1, hIT.out.2, HD.out⟩⟩
  case round =>
    clear hIT HD
    obtain ⟨pos, hps, hgg, HA⟩ := hrel
    by_cases hlt : pos < s.length
    case neg =>
      have hend := fun ty => Lib.run_next_end_at (P := Tryz.prog) wr w.heap.size ⟨s.toArray⟩ pos ty HA.out.1 (by rw [hsz]; exact hlt)
      have HE : Hid (R = false) := Lib.hid (by rw [HA.out.2.2, List.drop_eq_nil_of_le (by omega)]; rfl)
      have HB := Lib.hid HA.out.2.1
      clear HA
      go_wp2_with fail
      go_ret
      exact ⟨ret_bool HE.out.symm, HB.out⟩
    case pos =>
      obtain ⟨r, wd, hdec, hw1, hw2, hcase⟩ := dec_step s pos hlt
      have hnx := fun ty => Lib.run_next_any_at (P := Tryz.prog) wr w.heap.size ⟨s.toArray⟩ pos ty HA.out.1 (by rw [hsz]; exact hlt)
      rw [hdec] at hnx
      dsimp only at hnx
      have HN : Hid ((wr.iterAt w.heap.size ⟨s.toArray⟩ (pos + wd)).heap[w.heap.size]? = some (.stringIter ⟨s.toArray⟩ (pos + wd)) ∧ Below w.heap.size w (wr.iterAt w.heap.size ⟨s.toArray⟩ (pos + wd))) := Lib.hid ⟨Lib.iterAt_heap wr _ _ pos _ HA.out.1, Lib.below_iterAt HA.out.2.1 (Nat.le_refl _) _ _⟩
      have HR : Hid (R = (s.drop pos).any fun c => !tk.may c) := Lib.hid HA.out.2.2
      clear HA hdec
      generalize wr.iterAt w.heap.size ⟨s.toArray⟩ (pos + wd) = w1 at *
      have HES := Lib.hid (fun X => escape_any (r : Int) X)
      rcases hcase with ⟨hr, h8, rfl⟩ | ⟨h8, hhi⟩
      · have hst : R = (!tk.may s[pos] || (s.drop (pos + 1)).any fun c => !tk.may c) := by
          rw [HR.out, tk.drop_cons s pos hlt, List.any_cons]
        have hmy : tk.may s[pos] = decide (r = 10 ∨ r = 9 ∨ ¬ (r < 32 ∨ r = 127)) := by unfold tk.may; rw [← hr]
        rw [hmy] at hst
        have HST := Lib.hid hst
        clear hst hmy hr HR
        by_cases hk10 : r = 10
        · subst hk10
          have HST2 : Hid (R = (s.drop (pos + 1)).any fun c => !tk.may c) := Lib.hid (by rw [HST.out]; rfl)
          have HE2 := Lib.hid (fun X => escape_any 10 X)
          rw [show kd.esc 10 = [92, 110] from rfl] at HE2
          go_wp2_with fail
          refine (HE2.out _).mono ?_
          rintro ev w2 ⟨rfl, hw⟩
          replace hw := hw.symm
          subst hw
          go_wp2_with fail
          go_roundg (s.length - (pos + 1))
          case measure => omega
          case rel => exact ⟨pos + 1, hw2, Nat.le_refl _, Lib.hid ⟨HN.out.1, HN.out.2, HST2.out⟩⟩
        by_cases hk9 : r = 9
        · subst hk9
          have HST2 : Hid (R = (s.drop (pos + 1)).any fun c => !tk.may c) := Lib.hid (by rw [HST.out]; rfl)
          have HE2 := Lib.hid (fun X => escape_any 9 X)
          rw [show kd.esc 9 = [92, 116] from rfl] at HE2
          go_wp2_with fail
          refine (HE2.out _).mono ?_
          rintro ev w2 ⟨rfl, hw⟩
          replace hw := hw.symm
          subst hw
          go_wp2_with fail
          go_roundg (s.length - (pos + 1))
          case measure => omega
          case rel => exact ⟨pos + 1, hw2, Nat.le_refl _, Lib.hid ⟨HN.out.1, HN.out.2, HST2.out⟩⟩
        by_cases h32 : r < 32
        · have h32i : (r : Int) < 32 := by omega
          have HST2 : Hid (R = true) := Lib.hid (by rw [HST.out]; simp; omega)
          have hesc : kd.esc (r : Int) = [] := by unfold kd.esc; rw [if_neg (by omega), if_neg (by omega), if_neg (by omega), if_neg (by omega)]
          rw [hesc] at HES
          clear hesc
          go_wp2_with fail
          refine (HES.out _).mono ?_
          rintro ev w2 ⟨rfl, hw⟩
          replace hw := hw.symm
          subst hw
          go_wp2_with fail
          go_ret
          exact ⟨ret_bool HST2.out.symm, HN.out.2⟩
        by_cases h127 : r = 127
        · subst h127
          have HST2 : Hid (R = true) := Lib.hid (by rw [HST.out]; rfl)
          have HE2 := Lib.hid (fun X => escape_any 127 X)
          rw [show kd.esc 127 = [] from rfl] at HE2
          go_wp2_with fail
          refine (HE2.out _).mono ?_
          rintro ev w2 ⟨rfl, hw⟩
          replace hw := hw.symm
          subst hw
          go_wp2_with fail
          go_ret
          exact ⟨ret_bool HST2.out.symm, HN.out.2⟩
        · have HST2 : Hid (R = (s.drop (pos + 1)).any fun c => !tk.may c) := Lib.hid (by
            rw [HST.out, decide_eq_true (.inr (.inr (fun h => h.elim h32 h127)))]
            rfl)
          have h32i : ¬ (r : Int) < 32 := by omega
          have h127i : ((r : Int) == 127) = false := by simp; omega
          have h127j : ¬ (r : Int) = 127 := by omega
          clear h32 h127 hk9 hk10
          go_wp2_with fail
          go_roundg (s.length - (pos + 1))
          case measure => omega
          case rel => exact ⟨pos + 1, hw2, Nat.le_refl _, Lib.hid ⟨HN.out.1, HN.out.2, HST2.out⟩⟩
      · have HST : Hid (R = (s.drop (pos + wd)).any fun c => !tk.may c) := Lib.hid (by
          rw [HR.out]
          refine any_skip s _ pos wd hw2 (fun j h1 h2 hl => ?_)
          have := hhi j h1 h2 hl
          unfold tk.may
          simp
          omega)
        have h32 : ¬ (r : Int) < 32 := by omega
        have h127 : ((r : Int) == 127) = false := by simp; omega
        clear hhi HR
        go_wp2_with fail
        go_roundg (s.length - (pos + wd))
        case measure => omega
        case rel => exact ⟨pos + wd, hw2, Nat.le_refl _, Lib.hid ⟨HN.out.1, HN.out.2, HST.out⟩⟩
end Go.Proofs.YthmiaamjbokljaaGreatDoor
