/- The document's timers: First, Sorted. -/
import Derived.Test.YtfelmnhhldgobaaTmRef
namespace Go.Proofs.Ytfelmnhhldgobaa
open Go.RowKit
namespace tm
def fstN (l : List T) : Nat → Int
  | 0 => -1
  | k + 1 => if fstN l k < 0 ∨ lt (ix l k) (ix l (fstN l k).toNat) = true then (k : Int) else fstN l k
/-- the place of the timer that is due first -/
def fst (l : List T) : Int := fstN l l.length
theorem fstN_bd (l : List T) : ∀ k, (k = 0 ∧ fstN l k = -1) ∨ ∃ b : Nat, fstN l k = (b : Int) ∧ b < k
  | 0 => .inl ⟨rfl, rfl⟩
  | k + 1 => by
    refine .inr ?_
    unfold fstN
    split
    · exact ⟨k, rfl, by omega⟩
    · rename_i h
      rcases fstN_bd l k with ⟨_, e⟩ | ⟨b, e, hb⟩
      · exact absurd (.inl (by omega)) h
      · exact ⟨b, e, by omega⟩
/-- none is ahead of it -/
theorem fstN_least (l : List T) : ∀ k i, i < k → lt (ix l i) (ix l (fstN l k).toNat) = false
  | 0, i, h => by omega
  | k + 1, i, h => by
    unfold fstN
    split
    · rename_i hc
      by_cases e : i = k
      · subst e; exact lt_irrefl' _
      · have ih := fstN_least l k i (by omega)
        rcases hc with hc | hc
        · rcases fstN_bd l k with ⟨e2, _⟩ | ⟨b, e2, _⟩ <;> omega
        · show lt (ix l i) (ix l k) = false
          exact lt_trans' (lt_asymm' hc) ih
    · rename_i hc
      by_cases e : i = k
      · subst e
        exact Bool.eq_false_iff.2 fun x => hc (.inr x)
      · exact fstN_least l k i (by omega)
/-- in the order in which they are due -/
def srt : Nat → List T → List T
  | 0, _ => []
  | f + 1, l => if l.length = 0 then [] else ix l (fst l).toNat :: srt f (wo (ix l (fst l).toNat).id 0 l)
theorem wo_less (l : List T) (ow : Int) (i : Nat) (h : i < l.length) : (wo (ix l i).id ow l).length < l.length := by
  unfold wo
  refine List.length_filter_lt_length_iff_exists.2 ⟨ix l i, ?_, by simp⟩
  rw [ix_get h]
  exact List.getElem_mem h
end tm
set_option maxHeartbeats 400000 in
theorem first_any (o : Option Addr) (n cap : Nat) (l : List tm.T) (D : Nat → Prop) (w : World) (h : RIn w D (.slice o n cap) l) : Calls Try.prog 18 #[.slice o n cap] w fun e w' => e = .returned (.int .i64 (tm.fst l)) ∧ Below w.heap.size w w' := by
  obtain ⟨rfl, hnc, hcm⟩ := h.len
  have HA := Lib.hid h
  clear h
  obtain ⟨R, hR⟩ : ∃ R, tm.fst l = R := ⟨_, rfl⟩
  rw [hR]
  have HR := Lib.hid hR
  clear hR
  go_enter Try.func18, Try.ntmps18
  go_wp2_with fail
  go_loopg [3, 4] l.length (fun gg s3 s4 wr => ∃ k : Nat, s3 = .int .i64 (tm.fstN l k) ∧ s4 = .int .i64 k ∧ k ≤ l.length ∧ l.length - k ≤ gg ∧ Hid (Below w.heap.size w wr))
  case atStart => exact ⟨0, rfl, rfl, Nat.zero_le _, Nat.le_refl _, Lib.hid (Below.refl _ _)⟩
  case round =>
    obtain ⟨k, rfl, rfl, hk, hgg, HX⟩ := hrel
    by_cases hkl : k < l.length
    · have hki : (k : Int) < (l.length : Int) := by omega
      have hk0 : ¬ ((k : Int) < 0) := by omega
      have HST := Lib.hid (show tm.fstN l (k + 1) = if tm.fstN l k < 0 ∨ tm.lt (tm.ix l k) (tm.ix l (tm.fstN l k).toNat) = true then (k : Int) else tm.fstN l k from rfl)
      rcases tm.fstN_bd l k with ⟨e0, e1⟩ | ⟨bb, e1, hbb⟩
      · have HE : Hid (tm.fstN l (k + 1) = (k : Int)) := Lib.hid (by rw [HST.out, if_pos (.inl (by omega))])
        clear HST
        rw [e1]
        clear e1
        go_upto_region 5 with fail
        go_quiet (fail)
        go_wp2_with fail
        go_roundg (l.length - (k + 1))
        case measure => omega
        case rel => exact ⟨k + 1, by rw [HE.out, e0]; rfl, by go_num, by omega, Nat.le_refl _, Lib.hid (below_dN HX.out _)⟩
      · have hbi : (bb : Int) < (l.length : Int) := by omega
        have hb0 : ¬ ((bb : Int) < 0) := by omega
        obtain ⟨b, off, rfl, hb, d0, -, d2, -⟩ := RIn.cell (RowIn.below HA.out HX.out) k hkl
        obtain ⟨b', off', eb, -, f0, -, f2, -⟩ := RIn.cell (RowIn.below HA.out HX.out) bb (by omega)
        obtain ⟨rfl, rfl⟩ : b = b' ∧ off = off' := by
          have := Option.some.inj eb
          injection this with x1 x2
          exact ⟨x1, x2⟩
        rw [e1, Int.toNat_natCast] at HST
        rw [e1]
        clear e1 eb
        obtain ⟨x, hx⟩ : ∃ x, tm.ix l k = x := ⟨_, rfl⟩
        obtain ⟨y, hy⟩ : ∃ y, tm.ix l bb = y := ⟨_, rfl⟩
        rw [hx] at d0 d2 HST
        rw [hy] at f0 f2 HST
        clear hx hy
        have hcase : (decide (x.due < y.due) = true ∧ tm.lt x y = true) ∨ (decide (x.due < y.due) = false ∧ (x.due == y.due) = false ∧ tm.lt x y = false) ∨ (decide (x.due < y.due) = false ∧ (x.due == y.due) = true ∧ decide (x.id < y.id) = true ∧ tm.lt x y = true) ∨ (decide (x.due < y.due) = false ∧ (x.due == y.due) = true ∧ decide (x.id < y.id) = false ∧ tm.lt x y = false) := by
          have hl := tm.lt_iff x y
          by_cases h1 : x.due < y.due
          · exact .inl ⟨decide_eq_true h1, hl.2 (.inl h1)⟩
          by_cases h2 : x.due = y.due
          · by_cases h3 : x.id < y.id
            · exact .inr (.inr (.inl ⟨decide_eq_false h1, by simpa using h2, decide_eq_true h3, hl.2 (.inr ⟨h2, h3⟩)⟩))
            · exact .inr (.inr (.inr ⟨decide_eq_false h1, by simpa using h2, decide_eq_false h3, Bool.eq_false_iff.2 fun x => by have := hl.1 x; omega⟩))
          · exact .inr (.inl ⟨decide_eq_false h1, by simpa using h2, Bool.eq_false_iff.2 fun x => by have := hl.1 x; omega⟩)
        rcases hcase with ⟨g1, g9⟩ | ⟨g1, g2, g9⟩ | ⟨g1, g2, g3, g9⟩ | ⟨g1, g2, g3, g9⟩
        · have HE : Hid (tm.fstN l (k + 1) = (k : Int)) := Lib.hid (by rw [HST.out, if_pos (.inr g9)])
          clear HST g9
          go_upto_region 5 with fail
          go_quiet (fail)
          go_wp2_with fail
          go_roundg (l.length - (k + 1))
          case measure => omega
          case rel => exact ⟨k + 1, by rw [HE.out], by go_num, by omega, Nat.le_refl _, Lib.hid (below_dN HX.out _)⟩
        · have HE : Hid (tm.fstN l (k + 1) = (bb : Int)) := Lib.hid (by rw [HST.out, if_neg (by rw [g9]; simp)])
          clear HST g9
          go_upto_region 5 with fail
          go_quiet (fail)
          go_wp2_with fail
          go_roundg (l.length - (k + 1))
          case measure => omega
          case rel => exact ⟨k + 1, by rw [HE.out], by go_num, by omega, Nat.le_refl _, Lib.hid (below_dN HX.out _)⟩
        · have HE : Hid (tm.fstN l (k + 1) = (k : Int)) := Lib.hid (by rw [HST.out, if_pos (.inr g9)])
          clear HST g9
          go_upto_region 5 with fail
          go_quiet (fail)
          go_wp2_with fail
          go_roundg (l.length - (k + 1))
          case measure => omega
          case rel => exact ⟨k + 1, by rw [HE.out], by go_num, by omega, Nat.le_refl _, Lib.hid (below_dN HX.out _)⟩
        · have HE : Hid (tm.fstN l (k + 1) = (bb : Int)) := Lib.hid (by rw [HST.out, if_neg (by rw [g9]; simp)])
          clear HST g9
          go_upto_region 5 with fail
          go_quiet (fail)
          go_wp2_with fail
          go_roundg (l.length - (k + 1))
          case measure => omega
          case rel => exact ⟨k + 1, by rw [HE.out], by go_num, by omega, Nat.le_refl _, Lib.hid (below_dN HX.out _)⟩
    · obtain rfl : k = l.length := by omega
      rw [show tm.fstN l l.length = R from HR.out]
      go_wp2_with fail
      go_ret
      exact ⟨rfl, HX.out⟩
end Go.Proofs.Ytfelmnhhldgobaa
