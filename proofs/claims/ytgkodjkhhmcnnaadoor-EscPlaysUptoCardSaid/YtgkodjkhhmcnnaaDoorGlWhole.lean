/- The document's Whole: the rune with which bytes begin. -/
import Derived.Test.YtgkodjkhhmcnnaaDoorGlWholeM
import Derived.Test.YtgkodjkhhmcnnaaDoorGlFull
import Derived.Deep.QuietTactic
namespace Go.Proofs.YtgkodjkhhmcnnaaDoor
open Go.RowKit Go.Lib

theorem ret_two {k k' : IntKind} {a b a' b' : Int} (h : a = a') (h' : b = b') : Ending.returned (.tuple #[.int k a, .int k' b]) = .returned (.tuple #[.int k a', .int k' b']) := by rw [h, h']
/-- is there a byte at a place, from lo to hi? -/
def tlB (l : List UInt8) (i : Nat) (lo hi : Nat) : Bool := decide (i < l.length ∧ lo ≤ gl.b l i ∧ gl.b l i ≤ hi)
theorem tlB_iff (l : List UInt8) (i lo hi : Nat) : tlB l i lo hi = true ↔ i < l.length ∧ lo ≤ gl.b l i ∧ gl.b l i ≤ hi := by simp [tlB]
set_option maxRecDepth 100000 in
theorem tail_any (o : Option Addr) (n cap : Nat) (l : List UInt8) (i lo hi : Nat) (w : World) (hx : Bts w o n cap l) (hi3 : i ≤ 3) :
    Calls Tryd.prog 80 #[.slice o n cap, .int .i64 i, .int .u8 lo, .int .u8 hi] w fun e w' => e = .returned (.bool (tlB l i lo hi)) ∧ w = w' := by
  have hn := hx.size
  have hmx : cap ≤ 9223372036854775807 := hx.max
  have hle := hx.le
  by_cases h : i < n
  · obtain ⟨b, off, rfl, hb, hk⟩ := hx.byte (by omega)
    have k0 := hk i h
    have e : tlB l i lo hi = decide (lo ≤ gl.b l i ∧ gl.b l i ≤ hi) := by unfold tlB; rw [hn]; simp [h]
    rw [e]
    generalize gl.b l i = x at *
    clear e hk hx hn
    go_enter Tryd.func80, Tryd.ntmps80
    go_wp2_with fail
    all_goals
      go_ret
      exact ⟨ret_bool (by rw [Bool.eq_iff_iff]; simp; try omega), rfl⟩
  · have e : tlB l i lo hi = false := by unfold tlB; rw [hn]; simp [h]
    rw [e]
    have h' : n ≤ i := by omega
    clear e hx hn h
    go_enter Tryd.func80, Tryd.ntmps80
    go_wp2_with fail
    go_ret
    exact ⟨rfl, rfl⟩
/-- the document's Whole -/
def WholeAns (l : List UInt8) (w : World) (e : Ending) (w' : World) : Prop := e = .returned (.tuple #[.int .i64 (gl.whole l).1, .int .i32 (gl.whole l).2]) ∧ ∃ nq, w' = w.drewN nq

set_option maxRecDepth 100000 in
set_option maxHeartbeats 1600000 in
theorem whole_ascii (o : Option Addr) (n cap : Nat) (l : List UInt8) (w : World) (hx : Bts w o n cap l) (hn0 : 0 < n) (hc : gl.b l 0 < 128) :
    Calls Tryd.prog 69 #[.slice o n cap] w (WholeAns l w) := by
  unfold WholeAns
  have hmx : cap ≤ 9223372036854775807 := hx.max
  have hle := hx.le
  have hz0 : (0 : Int) < (n : Int) := by omega
  have hz1 : ((n : Int) == 0) = false := by simp; omega
  have hn := hx.size
  have hwh : gl.whole l = gl.wN n (gl.b l 0) (gl.b l 1) (gl.b l 2) (gl.b l 3) := by unfold gl.whole; rw [hn, if_neg (by omega)]
  have l0 := gl.b_lt l 0; have l1 := gl.b_lt l 1; have l2 := gl.b_lt l 2; have l3 := gl.b_lt l 3
  have hw : gl.whole l = (1, gl.b l 0) := by rw [hwh]; unfold gl.wN; rw [if_pos hc]
  have HW := Lib.hid hw
  obtain ⟨b, off, rfl, hb, hk⟩ := hx.byte (by omega)
  have k0 : w.cell? ⟨b, off, none⟩ = some (.int .u8 (gl.b l 0)) := hk 0 (by omega)
  clear hw hwh hk hn hx
  generalize gl.b l 0 = x0 at *
  generalize gl.b l 1 = x1 at *
  generalize gl.b l 2 = x2 at *
  generalize gl.b l 3 = x3 at *
  go_enter Tryd.func69, Tryd.ntmps69
  go_wp2_with fail
  go_ret2
  refine ⟨?_, _, (World.drewN_zero _).symm⟩
  rw [HW.out]
  rfl
set_option maxRecDepth 100000 in
set_option maxHeartbeats 1600000 in
theorem whole_bad (o : Option Addr) (n cap : Nat) (l : List UInt8) (w : World) (hx : Bts w o n cap l) (hn0 : 0 < n) (hc : (128 ≤ gl.b l 0 ∧ gl.b l 0 < 194) ∨ 245 ≤ gl.b l 0) :
    Calls Tryd.prog 69 #[.slice o n cap] w (WholeAns l w) := by
  unfold WholeAns
  have hmx : cap ≤ 9223372036854775807 := hx.max
  have hle := hx.le
  have hz0 : (0 : Int) < (n : Int) := by omega
  have hz1 : ((n : Int) == 0) = false := by simp; omega
  have hn := hx.size
  have hwh : gl.whole l = gl.wN n (gl.b l 0) (gl.b l 1) (gl.b l 2) (gl.b l 3) := by unfold gl.whole; rw [hn, if_neg (by omega)]
  have l0 := gl.b_lt l 0; have l1 := gl.b_lt l 1; have l2 := gl.b_lt l 2; have l3 := gl.b_lt l 3
  have hw : gl.whole l = (0, 0) := by rw [hwh]; unfold gl.wN; rw [if_neg (by omega), if_neg (by omega), if_neg (by omega), if_neg (by omega)]
  have HW := Lib.hid hw
  obtain ⟨b, off, rfl, hb, hk⟩ := hx.byte (by omega)
  have k0 : w.cell? ⟨b, off, none⟩ = some (.int .u8 (gl.b l 0)) := hk 0 (by omega)
  clear hw hwh hk hn hx
  generalize gl.b l 0 = x0 at *
  generalize gl.b l 1 = x1 at *
  generalize gl.b l 2 = x2 at *
  generalize gl.b l 3 = x3 at *
  rcases hc with ⟨hca, hcb⟩ | hca
  all_goals
    go_enter Tryd.func69, Tryd.ntmps69
    go_wp2_with fail
    go_ret2
    refine ⟨?_, _, (World.drewN_zero _).symm⟩
    rw [HW.out]
    rfl
set_option maxRecDepth 100000 in
set_option maxHeartbeats 1600000 in
theorem whole_two (o : Option Addr) (n cap : Nat) (l : List UInt8) (w : World) (hx : Bts w o n cap l) (hn0 : 0 < n) (hc : 194 ≤ gl.b l 0 ∧ gl.b l 0 < 224) :
    Calls Tryd.prog 69 #[.slice o n cap] w (WholeAns l w) := by
  unfold WholeAns
  have hmx : cap ≤ 9223372036854775807 := hx.max
  have hle := hx.le
  have hz0 : (0 : Int) < (n : Int) := by omega
  have hz1 : ((n : Int) == 0) = false := by simp; omega
  have hn := hx.size
  have hwh : gl.whole l = gl.wN n (gl.b l 0) (gl.b l 1) (gl.b l 2) (gl.b l 3) := by unfold gl.whole; rw [hn, if_neg (by omega)]
  have l0 := gl.b_lt l 0; have l1 := gl.b_lt l 1; have l2 := gl.b_lt l 2; have l3 := gl.b_lt l 3
  have hc1 := fun W (h : Bts W o n cap l) => tail_any o n cap l 1 128 191 W h (by omega)
  have ht1 := tlB_iff l 1 128 191
  generalize tlB l 1 128 191 = c1 at *
  cases c1 with
  | false =>
    have hq1 : ¬ _ := fun h => Bool.noConfusion (ht1.2 h)
    rw [hn] at hq1
    have hw : gl.whole l = (0, 0) := by rw [hwh]; unfold gl.wN; rw [if_neg (by omega), if_neg (fun h => by omega), if_neg (by omega), if_neg (by omega)]
    have HC1 := Lib.hid (hc1 w hx)
    have HW := Lib.hid hw
    obtain ⟨b, off, rfl, hb, hk⟩ := hx.byte (by omega)
    have k0 : w.cell? ⟨b, off, none⟩ = some (.int .u8 (gl.b l 0)) := hk 0 (by omega)
    clear hw hwh hk hn hx hc1 ht1 hq1
    generalize gl.b l 0 = x0 at *
    generalize gl.b l 1 = x1 at *
    generalize gl.b l 2 = x2 at *
    generalize gl.b l 3 = x3 at *
    obtain ⟨hca, hcb⟩ := hc
    go_enter Tryd.func69, Tryd.ntmps69
    go_wp2_with fail
    refine HC1.out.mono ?_
    rintro e w' ⟨rfl, rfl⟩
    go_wp2_with fail
    go_ret2
    refine ⟨?_, _, (World.drewN_zero _).symm⟩
    rw [HW.out]
    rfl
  | true =>
    have hq1 := ht1.1 rfl
    rw [hn] at hq1
    have hw : gl.whole l = (2, gl.b l 0 % 32 * 64 + gl.b l 1 % 64) := by rw [hwh]; unfold gl.wN; rw [if_neg (by omega), if_pos (by omega)]
    have HC1 := Lib.hid (hc1 w hx)
    have HW := Lib.hid hw
    obtain ⟨b, off, rfl, hb, hk⟩ := hx.byte (by omega)
    have k0 : w.cell? ⟨b, off, none⟩ = some (.int .u8 (gl.b l 0)) := hk 0 (by omega)
    have k1 : w.cell? ⟨b, off + 1, none⟩ = some (.int .u8 (gl.b l 1)) := hk 1 (by omega)
    have z1 : (1 : Int) < (n : Int) := by omega
    clear hw hwh hk hn hx hc1 ht1 hq1
    generalize gl.b l 0 = x0 at *
    generalize gl.b l 1 = x1 at *
    generalize gl.b l 2 = x2 at *
    generalize gl.b l 3 = x3 at *
    obtain ⟨hca, hcb⟩ := hc
    go_enter Tryd.func69, Tryd.ntmps69
    go_wp2_with fail
    refine HC1.out.mono ?_
    rintro e w' ⟨rfl, rfl⟩
    go_wp2_with fail
    go_quiet (fail)
    go_wp2_with fail
    go_ret2
    refine ⟨?_, _, rfl⟩
    rw [HW.out]
    exact ret_two rfl (by dsimp only; omega)
set_option maxRecDepth 100000 in
set_option maxHeartbeats 1600000 in
theorem whole_e0 (o : Option Addr) (n cap : Nat) (l : List UInt8) (w : World) (hx : Bts w o n cap l) (hn0 : 0 < n) (hc : gl.b l 0 = 224) :
    Calls Tryd.prog 69 #[.slice o n cap] w (WholeAns l w) := by
  unfold WholeAns
  have hmx : cap ≤ 9223372036854775807 := hx.max
  have hle := hx.le
  have hz0 : (0 : Int) < (n : Int) := by omega
  have hz1 : ((n : Int) == 0) = false := by simp; omega
  have hn := hx.size
  have hwh : gl.whole l = gl.wN n (gl.b l 0) (gl.b l 1) (gl.b l 2) (gl.b l 3) := by unfold gl.whole; rw [hn, if_neg (by omega)]
  have l0 := gl.b_lt l 0; have l1 := gl.b_lt l 1; have l2 := gl.b_lt l 2; have l3 := gl.b_lt l 3
  have hc1 := fun W (h : Bts W o n cap l) => tail_any o n cap l 1 160 191 W h (by omega)
  have ht1 := tlB_iff l 1 160 191
  generalize tlB l 1 160 191 = c1 at *
  have hc2 := fun W (h : Bts W o n cap l) => tail_any o n cap l 2 128 191 W h (by omega)
  have ht2 := tlB_iff l 2 128 191
  generalize tlB l 2 128 191 = c2 at *
  cases c1 with
  | false =>
    have hq1 : ¬ _ := fun h => Bool.noConfusion (ht1.2 h)
    rw [hn] at hq1
    have hw : gl.whole l = (0, 0) := by rw [hwh]; unfold gl.wN; rw [if_neg (by omega), if_neg (by omega), if_neg (fun h => by obtain ⟨_, ⟨g1, g2, g3⟩, g4⟩ := h; split at g2 <;> split at g3 <;> omega), if_neg (by omega)]
    have HC1 := Lib.hid (hc1 w hx)
    have HW := Lib.hid hw
    obtain ⟨b, off, rfl, hb, hk⟩ := hx.byte (by omega)
    have k0 : w.cell? ⟨b, off, none⟩ = some (.int .u8 (gl.b l 0)) := hk 0 (by omega)
    clear hw hwh hk hn hx hc1 hc2 ht1 ht2 hq1
    generalize gl.b l 0 = x0 at *
    generalize gl.b l 1 = x1 at *
    generalize gl.b l 2 = x2 at *
    generalize gl.b l 3 = x3 at *
    subst hc
    go_enter Tryd.func69, Tryd.ntmps69
    go_wp2_with fail
    refine HC1.out.mono ?_
    rintro e w' ⟨rfl, rfl⟩
    go_wp2_with fail
    go_ret2
    refine ⟨?_, _, (World.drewN_zero _).symm⟩
    rw [HW.out]
    rfl
  | true =>
    cases c2 with
    | false =>
      have hq1 := ht1.1 rfl
      have hq2 : ¬ _ := fun h => Bool.noConfusion (ht2.2 h)
      rw [hn] at hq1 hq2
      have hw : gl.whole l = (0, 0) := by rw [hwh]; unfold gl.wN; rw [if_neg (by omega), if_neg (by omega), if_neg (fun h => by obtain ⟨_, ⟨g1, g2, g3⟩, g4⟩ := h; split at g2 <;> split at g3 <;> omega), if_neg (by omega)]
      have HC1 := Lib.hid (hc1 w hx)
      have HC2 := Lib.hid (hc2 w hx)
      have HW := Lib.hid hw
      obtain ⟨b, off, rfl, hb, hk⟩ := hx.byte (by omega)
      have k0 : w.cell? ⟨b, off, none⟩ = some (.int .u8 (gl.b l 0)) := hk 0 (by omega)
      clear hw hwh hk hn hx hc1 hc2 ht1 ht2 hq1 hq2
      generalize gl.b l 0 = x0 at *
      generalize gl.b l 1 = x1 at *
      generalize gl.b l 2 = x2 at *
      generalize gl.b l 3 = x3 at *
      subst hc
      go_enter Tryd.func69, Tryd.ntmps69
      go_wp2_with fail
      refine HC1.out.mono ?_
      rintro e w' ⟨rfl, rfl⟩
      go_wp2_with fail
      refine HC2.out.mono ?_
      rintro e w' ⟨rfl, rfl⟩
      go_wp2_with fail
      go_ret2
      refine ⟨?_, _, (World.drewN_zero _).symm⟩
      rw [HW.out]
      rfl
    | true =>
      have hq1 := ht1.1 rfl
      have hq2 := ht2.1 rfl
      rw [hn] at hq1 hq2
      have hw : gl.whole l = (3, gl.b l 0 % 16 * 4096 + gl.b l 1 % 64 * 64 + gl.b l 2 % 64) := by rw [hwh]; unfold gl.wN; rw [if_neg (by omega), if_neg (by omega), if_pos (by refine ⟨by omega, ⟨by omega, ?_, ?_⟩, by omega⟩ <;> split <;> omega)]
      have HC1 := Lib.hid (hc1 w hx)
      have HC2 := Lib.hid (hc2 w hx)
      have HW := Lib.hid hw
      obtain ⟨b, off, rfl, hb, hk⟩ := hx.byte (by omega)
      have k0 : w.cell? ⟨b, off, none⟩ = some (.int .u8 (gl.b l 0)) := hk 0 (by omega)
      have k1 : w.cell? ⟨b, off + 1, none⟩ = some (.int .u8 (gl.b l 1)) := hk 1 (by omega)
      have k2 : w.cell? ⟨b, off + 2, none⟩ = some (.int .u8 (gl.b l 2)) := hk 2 (by omega)
      have z1 : (1 : Int) < (n : Int) := by omega
      have z2 : (2 : Int) < (n : Int) := by omega
      clear hw hwh hk hn hx hc1 hc2 ht1 ht2 hq1 hq2
      generalize gl.b l 0 = x0 at *
      generalize gl.b l 1 = x1 at *
      generalize gl.b l 2 = x2 at *
      generalize gl.b l 3 = x3 at *
      subst hc
      go_enter Tryd.func69, Tryd.ntmps69
      go_wp2_with fail
      refine HC1.out.mono ?_
      rintro e w' ⟨rfl, rfl⟩
      go_wp2_with fail
      refine HC2.out.mono ?_
      rintro e w' ⟨rfl, rfl⟩
      go_wp2_with fail
      go_quiet (fail)
      go_wp2_with fail
      go_ret2
      refine ⟨?_, _, rfl⟩
      rw [HW.out]
      exact ret_two rfl (by dsimp only; omega)
set_option maxRecDepth 100000 in
set_option maxHeartbeats 1600000 in
theorem whole_e1 (o : Option Addr) (n cap : Nat) (l : List UInt8) (w : World) (hx : Bts w o n cap l) (hn0 : 0 < n) (hc : (225 ≤ gl.b l 0 ∧ gl.b l 0 < 237) ∨ (238 ≤ gl.b l 0 ∧ gl.b l 0 < 240)) :
    Calls Tryd.prog 69 #[.slice o n cap] w (WholeAns l w) := by
  unfold WholeAns
  have hmx : cap ≤ 9223372036854775807 := hx.max
  have hle := hx.le
  have hz0 : (0 : Int) < (n : Int) := by omega
  have hz1 : ((n : Int) == 0) = false := by simp; omega
  have hn := hx.size
  have hwh : gl.whole l = gl.wN n (gl.b l 0) (gl.b l 1) (gl.b l 2) (gl.b l 3) := by unfold gl.whole; rw [hn, if_neg (by omega)]
  have l0 := gl.b_lt l 0; have l1 := gl.b_lt l 1; have l2 := gl.b_lt l 2; have l3 := gl.b_lt l 3
  have hc1 := fun W (h : Bts W o n cap l) => tail_any o n cap l 1 128 191 W h (by omega)
  have ht1 := tlB_iff l 1 128 191
  generalize tlB l 1 128 191 = c1 at *
  have hc2 := fun W (h : Bts W o n cap l) => tail_any o n cap l 2 128 191 W h (by omega)
  have ht2 := tlB_iff l 2 128 191
  generalize tlB l 2 128 191 = c2 at *
  cases c1 with
  | false =>
    have hq1 : ¬ _ := fun h => Bool.noConfusion (ht1.2 h)
    rw [hn] at hq1
    have hw : gl.whole l = (0, 0) := by rw [hwh]; unfold gl.wN; rw [if_neg (by omega), if_neg (by omega), if_neg (fun h => by obtain ⟨_, ⟨g1, g2, g3⟩, g4⟩ := h; split at g2 <;> split at g3 <;> omega), if_neg (by omega)]
    have HC1 := Lib.hid (hc1 w hx)
    have HW := Lib.hid hw
    obtain ⟨b, off, rfl, hb, hk⟩ := hx.byte (by omega)
    have k0 : w.cell? ⟨b, off, none⟩ = some (.int .u8 (gl.b l 0)) := hk 0 (by omega)
    clear hw hwh hk hn hx hc1 hc2 ht1 ht2 hq1
    generalize gl.b l 0 = x0 at *
    generalize gl.b l 1 = x1 at *
    generalize gl.b l 2 = x2 at *
    generalize gl.b l 3 = x3 at *
    rcases hc with ⟨hca, hcb⟩ | ⟨hca, hcb⟩
    all_goals
      go_enter Tryd.func69, Tryd.ntmps69
      go_wp2_with fail
      refine HC1.out.mono ?_
      rintro e w' ⟨rfl, rfl⟩
      go_wp2_with fail
      go_ret2
      refine ⟨?_, _, (World.drewN_zero _).symm⟩
      rw [HW.out]
      rfl
  | true =>
    cases c2 with
    | false =>
      have hq1 := ht1.1 rfl
      have hq2 : ¬ _ := fun h => Bool.noConfusion (ht2.2 h)
      rw [hn] at hq1 hq2
      have hw : gl.whole l = (0, 0) := by rw [hwh]; unfold gl.wN; rw [if_neg (by omega), if_neg (by omega), if_neg (fun h => by obtain ⟨_, ⟨g1, g2, g3⟩, g4⟩ := h; split at g2 <;> split at g3 <;> omega), if_neg (by omega)]
      have HC1 := Lib.hid (hc1 w hx)
      have HC2 := Lib.hid (hc2 w hx)
      have HW := Lib.hid hw
      obtain ⟨b, off, rfl, hb, hk⟩ := hx.byte (by omega)
      have k0 : w.cell? ⟨b, off, none⟩ = some (.int .u8 (gl.b l 0)) := hk 0 (by omega)
      clear hw hwh hk hn hx hc1 hc2 ht1 ht2 hq1 hq2
      generalize gl.b l 0 = x0 at *
      generalize gl.b l 1 = x1 at *
      generalize gl.b l 2 = x2 at *
      generalize gl.b l 3 = x3 at *
      rcases hc with ⟨hca, hcb⟩ | ⟨hca, hcb⟩
      all_goals
        go_enter Tryd.func69, Tryd.ntmps69
        go_wp2_with fail
        refine HC1.out.mono ?_
        rintro e w' ⟨rfl, rfl⟩
        go_wp2_with fail
        refine HC2.out.mono ?_
        rintro e w' ⟨rfl, rfl⟩
        go_wp2_with fail
        go_ret2
        refine ⟨?_, _, (World.drewN_zero _).symm⟩
        rw [HW.out]
        rfl
    | true =>
      have hq1 := ht1.1 rfl
      have hq2 := ht2.1 rfl
      rw [hn] at hq1 hq2
      have hw : gl.whole l = (3, gl.b l 0 % 16 * 4096 + gl.b l 1 % 64 * 64 + gl.b l 2 % 64) := by rw [hwh]; unfold gl.wN; rw [if_neg (by omega), if_neg (by omega), if_pos (by refine ⟨by omega, ⟨by omega, ?_, ?_⟩, by omega⟩ <;> split <;> omega)]
      have HC1 := Lib.hid (hc1 w hx)
      have HC2 := Lib.hid (hc2 w hx)
      have HW := Lib.hid hw
      obtain ⟨b, off, rfl, hb, hk⟩ := hx.byte (by omega)
      have k0 : w.cell? ⟨b, off, none⟩ = some (.int .u8 (gl.b l 0)) := hk 0 (by omega)
      have k1 : w.cell? ⟨b, off + 1, none⟩ = some (.int .u8 (gl.b l 1)) := hk 1 (by omega)
      have k2 : w.cell? ⟨b, off + 2, none⟩ = some (.int .u8 (gl.b l 2)) := hk 2 (by omega)
      have z1 : (1 : Int) < (n : Int) := by omega
      have z2 : (2 : Int) < (n : Int) := by omega
      clear hw hwh hk hn hx hc1 hc2 ht1 ht2 hq1 hq2
      generalize gl.b l 0 = x0 at *
      generalize gl.b l 1 = x1 at *
      generalize gl.b l 2 = x2 at *
      generalize gl.b l 3 = x3 at *
      rcases hc with ⟨hca, hcb⟩ | ⟨hca, hcb⟩
      all_goals
        go_enter Tryd.func69, Tryd.ntmps69
        go_wp2_with fail
        refine HC1.out.mono ?_
        rintro e w' ⟨rfl, rfl⟩
        go_wp2_with fail
        refine HC2.out.mono ?_
        rintro e w' ⟨rfl, rfl⟩
        go_wp2_with fail
        go_quiet (fail)
        go_wp2_with fail
        go_ret2
        refine ⟨?_, _, rfl⟩
        rw [HW.out]
        exact ret_two rfl (by dsimp only; omega)
set_option maxRecDepth 100000 in
set_option maxHeartbeats 1600000 in
theorem whole_ed (o : Option Addr) (n cap : Nat) (l : List UInt8) (w : World) (hx : Bts w o n cap l) (hn0 : 0 < n) (hc : gl.b l 0 = 237) :
    Calls Tryd.prog 69 #[.slice o n cap] w (WholeAns l w) := by
  unfold WholeAns
  have hmx : cap ≤ 9223372036854775807 := hx.max
  have hle := hx.le
  have hz0 : (0 : Int) < (n : Int) := by omega
  have hz1 : ((n : Int) == 0) = false := by simp; omega
  have hn := hx.size
  have hwh : gl.whole l = gl.wN n (gl.b l 0) (gl.b l 1) (gl.b l 2) (gl.b l 3) := by unfold gl.whole; rw [hn, if_neg (by omega)]
  have l0 := gl.b_lt l 0; have l1 := gl.b_lt l 1; have l2 := gl.b_lt l 2; have l3 := gl.b_lt l 3
  have hc1 := fun W (h : Bts W o n cap l) => tail_any o n cap l 1 128 159 W h (by omega)
  have ht1 := tlB_iff l 1 128 159
  generalize tlB l 1 128 159 = c1 at *
  have hc2 := fun W (h : Bts W o n cap l) => tail_any o n cap l 2 128 191 W h (by omega)
  have ht2 := tlB_iff l 2 128 191
  generalize tlB l 2 128 191 = c2 at *
  cases c1 with
  | false =>
    have hq1 : ¬ _ := fun h => Bool.noConfusion (ht1.2 h)
    rw [hn] at hq1
    have hw : gl.whole l = (0, 0) := by rw [hwh]; unfold gl.wN; rw [if_neg (by omega), if_neg (by omega), if_neg (fun h => by obtain ⟨_, ⟨g1, g2, g3⟩, g4⟩ := h; split at g2 <;> split at g3 <;> omega), if_neg (by omega)]
    have HC1 := Lib.hid (hc1 w hx)
    have HW := Lib.hid hw
    obtain ⟨b, off, rfl, hb, hk⟩ := hx.byte (by omega)
    have k0 : w.cell? ⟨b, off, none⟩ = some (.int .u8 (gl.b l 0)) := hk 0 (by omega)
    clear hw hwh hk hn hx hc1 hc2 ht1 ht2 hq1
    generalize gl.b l 0 = x0 at *
    generalize gl.b l 1 = x1 at *
    generalize gl.b l 2 = x2 at *
    generalize gl.b l 3 = x3 at *
    subst hc
    go_enter Tryd.func69, Tryd.ntmps69
    go_wp2_with fail
    refine HC1.out.mono ?_
    rintro e w' ⟨rfl, rfl⟩
    go_wp2_with fail
    go_ret2
    refine ⟨?_, _, (World.drewN_zero _).symm⟩
    rw [HW.out]
    rfl
  | true =>
    cases c2 with
    | false =>
      have hq1 := ht1.1 rfl
      have hq2 : ¬ _ := fun h => Bool.noConfusion (ht2.2 h)
      rw [hn] at hq1 hq2
      have hw : gl.whole l = (0, 0) := by rw [hwh]; unfold gl.wN; rw [if_neg (by omega), if_neg (by omega), if_neg (fun h => by obtain ⟨_, ⟨g1, g2, g3⟩, g4⟩ := h; split at g2 <;> split at g3 <;> omega), if_neg (by omega)]
      have HC1 := Lib.hid (hc1 w hx)
      have HC2 := Lib.hid (hc2 w hx)
      have HW := Lib.hid hw
      obtain ⟨b, off, rfl, hb, hk⟩ := hx.byte (by omega)
      have k0 : w.cell? ⟨b, off, none⟩ = some (.int .u8 (gl.b l 0)) := hk 0 (by omega)
      clear hw hwh hk hn hx hc1 hc2 ht1 ht2 hq1 hq2
      generalize gl.b l 0 = x0 at *
      generalize gl.b l 1 = x1 at *
      generalize gl.b l 2 = x2 at *
      generalize gl.b l 3 = x3 at *
      subst hc
      go_enter Tryd.func69, Tryd.ntmps69
      go_wp2_with fail
      refine HC1.out.mono ?_
      rintro e w' ⟨rfl, rfl⟩
      go_wp2_with fail
      refine HC2.out.mono ?_
      rintro e w' ⟨rfl, rfl⟩
      go_wp2_with fail
      go_ret2
      refine ⟨?_, _, (World.drewN_zero _).symm⟩
      rw [HW.out]
      rfl
    | true =>
      have hq1 := ht1.1 rfl
      have hq2 := ht2.1 rfl
      rw [hn] at hq1 hq2
      have hw : gl.whole l = (3, gl.b l 0 % 16 * 4096 + gl.b l 1 % 64 * 64 + gl.b l 2 % 64) := by rw [hwh]; unfold gl.wN; rw [if_neg (by omega), if_neg (by omega), if_pos (by refine ⟨by omega, ⟨by omega, ?_, ?_⟩, by omega⟩ <;> split <;> omega)]
      have HC1 := Lib.hid (hc1 w hx)
      have HC2 := Lib.hid (hc2 w hx)
      have HW := Lib.hid hw
      obtain ⟨b, off, rfl, hb, hk⟩ := hx.byte (by omega)
      have k0 : w.cell? ⟨b, off, none⟩ = some (.int .u8 (gl.b l 0)) := hk 0 (by omega)
      have k1 : w.cell? ⟨b, off + 1, none⟩ = some (.int .u8 (gl.b l 1)) := hk 1 (by omega)
      have k2 : w.cell? ⟨b, off + 2, none⟩ = some (.int .u8 (gl.b l 2)) := hk 2 (by omega)
      have z1 : (1 : Int) < (n : Int) := by omega
      have z2 : (2 : Int) < (n : Int) := by omega
      clear hw hwh hk hn hx hc1 hc2 ht1 ht2 hq1 hq2
      generalize gl.b l 0 = x0 at *
      generalize gl.b l 1 = x1 at *
      generalize gl.b l 2 = x2 at *
      generalize gl.b l 3 = x3 at *
      subst hc
      go_enter Tryd.func69, Tryd.ntmps69
      go_wp2_with fail
      refine HC1.out.mono ?_
      rintro e w' ⟨rfl, rfl⟩
      go_wp2_with fail
      refine HC2.out.mono ?_
      rintro e w' ⟨rfl, rfl⟩
      go_wp2_with fail
      go_quiet (fail)
      go_wp2_with fail
      go_ret2
      refine ⟨?_, _, rfl⟩
      rw [HW.out]
      exact ret_two rfl (by dsimp only; omega)
set_option maxRecDepth 100000 in
set_option maxHeartbeats 1600000 in
theorem whole_f0 (o : Option Addr) (n cap : Nat) (l : List UInt8) (w : World) (hx : Bts w o n cap l) (hn0 : 0 < n) (hc : gl.b l 0 = 240) :
    Calls Tryd.prog 69 #[.slice o n cap] w (WholeAns l w) := by
  unfold WholeAns
  have hmx : cap ≤ 9223372036854775807 := hx.max
  have hle := hx.le
  have hz0 : (0 : Int) < (n : Int) := by omega
  have hz1 : ((n : Int) == 0) = false := by simp; omega
  have hn := hx.size
  have hwh : gl.whole l = gl.wN n (gl.b l 0) (gl.b l 1) (gl.b l 2) (gl.b l 3) := by unfold gl.whole; rw [hn, if_neg (by omega)]
  have l0 := gl.b_lt l 0; have l1 := gl.b_lt l 1; have l2 := gl.b_lt l 2; have l3 := gl.b_lt l 3
  have hc1 := fun W (h : Bts W o n cap l) => tail_any o n cap l 1 144 191 W h (by omega)
  have ht1 := tlB_iff l 1 144 191
  generalize tlB l 1 144 191 = c1 at *
  have hc2 := fun W (h : Bts W o n cap l) => tail_any o n cap l 2 128 191 W h (by omega)
  have ht2 := tlB_iff l 2 128 191
  generalize tlB l 2 128 191 = c2 at *
  have hc3 := fun W (h : Bts W o n cap l) => tail_any o n cap l 3 128 191 W h (by omega)
  have ht3 := tlB_iff l 3 128 191
  generalize tlB l 3 128 191 = c3 at *
  cases c1 with
  | false =>
    have hq1 : ¬ _ := fun h => Bool.noConfusion (ht1.2 h)
    rw [hn] at hq1
    have hw : gl.whole l = (0, 0) := by rw [hwh]; unfold gl.wN; rw [if_neg (by omega), if_neg (by omega), if_neg (by omega), if_neg (fun h => by obtain ⟨_, ⟨g1, g2, g3⟩, g4, g5⟩ := h; split at g2 <;> split at g3 <;> omega)]
    have HC1 := Lib.hid (hc1 w hx)
    have HW := Lib.hid hw
    obtain ⟨b, off, rfl, hb, hk⟩ := hx.byte (by omega)
    have k0 : w.cell? ⟨b, off, none⟩ = some (.int .u8 (gl.b l 0)) := hk 0 (by omega)
    clear hw hwh hk hn hx hc1 hc2 hc3 ht1 ht2 ht3 hq1
    generalize gl.b l 0 = x0 at *
    generalize gl.b l 1 = x1 at *
    generalize gl.b l 2 = x2 at *
    generalize gl.b l 3 = x3 at *
    subst hc
    go_enter Tryd.func69, Tryd.ntmps69
    go_wp2_with fail
    refine HC1.out.mono ?_
    rintro e w' ⟨rfl, rfl⟩
    go_wp2_with fail
    go_ret2
    refine ⟨?_, _, (World.drewN_zero _).symm⟩
    rw [HW.out]
    rfl
  | true =>
    cases c2 with
    | false =>
      have hq1 := ht1.1 rfl
      have hq2 : ¬ _ := fun h => Bool.noConfusion (ht2.2 h)
      rw [hn] at hq1 hq2
      have hw : gl.whole l = (0, 0) := by rw [hwh]; unfold gl.wN; rw [if_neg (by omega), if_neg (by omega), if_neg (by omega), if_neg (fun h => by obtain ⟨_, ⟨g1, g2, g3⟩, g4, g5⟩ := h; split at g2 <;> split at g3 <;> omega)]
      have HC1 := Lib.hid (hc1 w hx)
      have HC2 := Lib.hid (hc2 w hx)
      have HW := Lib.hid hw
      obtain ⟨b, off, rfl, hb, hk⟩ := hx.byte (by omega)
      have k0 : w.cell? ⟨b, off, none⟩ = some (.int .u8 (gl.b l 0)) := hk 0 (by omega)
      clear hw hwh hk hn hx hc1 hc2 hc3 ht1 ht2 ht3 hq1 hq2
      generalize gl.b l 0 = x0 at *
      generalize gl.b l 1 = x1 at *
      generalize gl.b l 2 = x2 at *
      generalize gl.b l 3 = x3 at *
      subst hc
      go_enter Tryd.func69, Tryd.ntmps69
      go_wp2_with fail
      refine HC1.out.mono ?_
      rintro e w' ⟨rfl, rfl⟩
      go_wp2_with fail
      refine HC2.out.mono ?_
      rintro e w' ⟨rfl, rfl⟩
      go_wp2_with fail
      go_ret2
      refine ⟨?_, _, (World.drewN_zero _).symm⟩
      rw [HW.out]
      rfl
    | true =>
      cases c3 with
      | false =>
        have hq1 := ht1.1 rfl
        have hq2 := ht2.1 rfl
        have hq3 : ¬ _ := fun h => Bool.noConfusion (ht3.2 h)
        rw [hn] at hq1 hq2 hq3
        have hw : gl.whole l = (0, 0) := by rw [hwh]; unfold gl.wN; rw [if_neg (by omega), if_neg (by omega), if_neg (by omega), if_neg (fun h => by obtain ⟨_, ⟨g1, g2, g3⟩, g4, g5⟩ := h; split at g2 <;> split at g3 <;> omega)]
        have HC1 := Lib.hid (hc1 w hx)
        have HC2 := Lib.hid (hc2 w hx)
        have HC3 := Lib.hid (hc3 w hx)
        have HW := Lib.hid hw
        obtain ⟨b, off, rfl, hb, hk⟩ := hx.byte (by omega)
        have k0 : w.cell? ⟨b, off, none⟩ = some (.int .u8 (gl.b l 0)) := hk 0 (by omega)
        clear hw hwh hk hn hx hc1 hc2 hc3 ht1 ht2 ht3 hq1 hq2 hq3
        generalize gl.b l 0 = x0 at *
        generalize gl.b l 1 = x1 at *
        generalize gl.b l 2 = x2 at *
        generalize gl.b l 3 = x3 at *
        subst hc
        go_enter Tryd.func69, Tryd.ntmps69
        go_wp2_with fail
        refine HC1.out.mono ?_
        rintro e w' ⟨rfl, rfl⟩
        go_wp2_with fail
        refine HC2.out.mono ?_
        rintro e w' ⟨rfl, rfl⟩
        go_wp2_with fail
        refine HC3.out.mono ?_
        rintro e w' ⟨rfl, rfl⟩
        go_wp2_with fail
        go_ret2
        refine ⟨?_, _, (World.drewN_zero _).symm⟩
        rw [HW.out]
        rfl
      | true =>
        have hq1 := ht1.1 rfl
        have hq2 := ht2.1 rfl
        have hq3 := ht3.1 rfl
        rw [hn] at hq1 hq2 hq3
        have hw : gl.whole l = (4, gl.b l 0 % 8 * 262144 + gl.b l 1 % 64 * 4096 + gl.b l 2 % 64 * 64 + gl.b l 3 % 64) := by rw [hwh]; unfold gl.wN; rw [if_neg (by omega), if_neg (by omega), if_neg (by omega), if_pos (by refine ⟨by omega, ⟨by omega, ?_, ?_⟩, by omega, by omega⟩ <;> split <;> omega)]
        have HC1 := Lib.hid (hc1 w hx)
        have HC2 := Lib.hid (hc2 w hx)
        have HC3 := Lib.hid (hc3 w hx)
        have HW := Lib.hid hw
        obtain ⟨b, off, rfl, hb, hk⟩ := hx.byte (by omega)
        have k0 : w.cell? ⟨b, off, none⟩ = some (.int .u8 (gl.b l 0)) := hk 0 (by omega)
        have k1 : w.cell? ⟨b, off + 1, none⟩ = some (.int .u8 (gl.b l 1)) := hk 1 (by omega)
        have k2 : w.cell? ⟨b, off + 2, none⟩ = some (.int .u8 (gl.b l 2)) := hk 2 (by omega)
        have k3 : w.cell? ⟨b, off + 3, none⟩ = some (.int .u8 (gl.b l 3)) := hk 3 (by omega)
        have z1 : (1 : Int) < (n : Int) := by omega
        have z2 : (2 : Int) < (n : Int) := by omega
        have z3 : (3 : Int) < (n : Int) := by omega
        clear hw hwh hk hn hx hc1 hc2 hc3 ht1 ht2 ht3 hq1 hq2 hq3
        generalize gl.b l 0 = x0 at *
        generalize gl.b l 1 = x1 at *
        generalize gl.b l 2 = x2 at *
        generalize gl.b l 3 = x3 at *
        subst hc
        go_enter Tryd.func69, Tryd.ntmps69
        go_wp2_with fail
        refine HC1.out.mono ?_
        rintro e w' ⟨rfl, rfl⟩
        go_wp2_with fail
        refine HC2.out.mono ?_
        rintro e w' ⟨rfl, rfl⟩
        go_wp2_with fail
        refine HC3.out.mono ?_
        rintro e w' ⟨rfl, rfl⟩
        go_wp2_with fail
        go_quiet (fail)
        go_wp2_with fail
        go_ret2
        refine ⟨?_, _, rfl⟩
        rw [HW.out]
        exact ret_two rfl (by dsimp only; omega)
set_option maxRecDepth 100000 in
set_option maxHeartbeats 1600000 in
theorem whole_f1 (o : Option Addr) (n cap : Nat) (l : List UInt8) (w : World) (hx : Bts w o n cap l) (hn0 : 0 < n) (hc : 241 ≤ gl.b l 0 ∧ gl.b l 0 < 244) :
    Calls Tryd.prog 69 #[.slice o n cap] w (WholeAns l w) := by
  unfold WholeAns
  have hmx : cap ≤ 9223372036854775807 := hx.max
  have hle := hx.le
  have hz0 : (0 : Int) < (n : Int) := by omega
  have hz1 : ((n : Int) == 0) = false := by simp; omega
  have hn := hx.size
  have hwh : gl.whole l = gl.wN n (gl.b l 0) (gl.b l 1) (gl.b l 2) (gl.b l 3) := by unfold gl.whole; rw [hn, if_neg (by omega)]
  have l0 := gl.b_lt l 0; have l1 := gl.b_lt l 1; have l2 := gl.b_lt l 2; have l3 := gl.b_lt l 3
  have hc1 := fun W (h : Bts W o n cap l) => tail_any o n cap l 1 128 191 W h (by omega)
  have ht1 := tlB_iff l 1 128 191
  generalize tlB l 1 128 191 = c1 at *
  have hc2 := fun W (h : Bts W o n cap l) => tail_any o n cap l 2 128 191 W h (by omega)
  have ht2 := tlB_iff l 2 128 191
  generalize tlB l 2 128 191 = c2 at *
  have hc3 := fun W (h : Bts W o n cap l) => tail_any o n cap l 3 128 191 W h (by omega)
  have ht3 := tlB_iff l 3 128 191
  generalize tlB l 3 128 191 = c3 at *
  cases c1 with
  | false =>
    have hq1 : ¬ _ := fun h => Bool.noConfusion (ht1.2 h)
    rw [hn] at hq1
    have hw : gl.whole l = (0, 0) := by rw [hwh]; unfold gl.wN; rw [if_neg (by omega), if_neg (by omega), if_neg (by omega), if_neg (fun h => by obtain ⟨_, ⟨g1, g2, g3⟩, g4, g5⟩ := h; split at g2 <;> split at g3 <;> omega)]
    have HC1 := Lib.hid (hc1 w hx)
    have HW := Lib.hid hw
    obtain ⟨b, off, rfl, hb, hk⟩ := hx.byte (by omega)
    have k0 : w.cell? ⟨b, off, none⟩ = some (.int .u8 (gl.b l 0)) := hk 0 (by omega)
    clear hw hwh hk hn hx hc1 hc2 hc3 ht1 ht2 ht3 hq1
    generalize gl.b l 0 = x0 at *
    generalize gl.b l 1 = x1 at *
    generalize gl.b l 2 = x2 at *
    generalize gl.b l 3 = x3 at *
    obtain ⟨hca, hcb⟩ := hc
    go_enter Tryd.func69, Tryd.ntmps69
    go_wp2_with fail
    refine HC1.out.mono ?_
    rintro e w' ⟨rfl, rfl⟩
    go_wp2_with fail
    go_ret2
    refine ⟨?_, _, (World.drewN_zero _).symm⟩
    rw [HW.out]
    rfl
  | true =>
    cases c2 with
    | false =>
      have hq1 := ht1.1 rfl
      have hq2 : ¬ _ := fun h => Bool.noConfusion (ht2.2 h)
      rw [hn] at hq1 hq2
      have hw : gl.whole l = (0, 0) := by rw [hwh]; unfold gl.wN; rw [if_neg (by omega), if_neg (by omega), if_neg (by omega), if_neg (fun h => by obtain ⟨_, ⟨g1, g2, g3⟩, g4, g5⟩ := h; split at g2 <;> split at g3 <;> omega)]
      have HC1 := Lib.hid (hc1 w hx)
      have HC2 := Lib.hid (hc2 w hx)
      have HW := Lib.hid hw
      obtain ⟨b, off, rfl, hb, hk⟩ := hx.byte (by omega)
      have k0 : w.cell? ⟨b, off, none⟩ = some (.int .u8 (gl.b l 0)) := hk 0 (by omega)
      clear hw hwh hk hn hx hc1 hc2 hc3 ht1 ht2 ht3 hq1 hq2
      generalize gl.b l 0 = x0 at *
      generalize gl.b l 1 = x1 at *
      generalize gl.b l 2 = x2 at *
      generalize gl.b l 3 = x3 at *
      obtain ⟨hca, hcb⟩ := hc
      go_enter Tryd.func69, Tryd.ntmps69
      go_wp2_with fail
      refine HC1.out.mono ?_
      rintro e w' ⟨rfl, rfl⟩
      go_wp2_with fail
      refine HC2.out.mono ?_
      rintro e w' ⟨rfl, rfl⟩
      go_wp2_with fail
      go_ret2
      refine ⟨?_, _, (World.drewN_zero _).symm⟩
      rw [HW.out]
      rfl
    | true =>
      cases c3 with
      | false =>
        have hq1 := ht1.1 rfl
        have hq2 := ht2.1 rfl
        have hq3 : ¬ _ := fun h => Bool.noConfusion (ht3.2 h)
        rw [hn] at hq1 hq2 hq3
        have hw : gl.whole l = (0, 0) := by rw [hwh]; unfold gl.wN; rw [if_neg (by omega), if_neg (by omega), if_neg (by omega), if_neg (fun h => by obtain ⟨_, ⟨g1, g2, g3⟩, g4, g5⟩ := h; split at g2 <;> split at g3 <;> omega)]
        have HC1 := Lib.hid (hc1 w hx)
        have HC2 := Lib.hid (hc2 w hx)
        have HC3 := Lib.hid (hc3 w hx)
        have HW := Lib.hid hw
        obtain ⟨b, off, rfl, hb, hk⟩ := hx.byte (by omega)
        have k0 : w.cell? ⟨b, off, none⟩ = some (.int .u8 (gl.b l 0)) := hk 0 (by omega)
        clear hw hwh hk hn hx hc1 hc2 hc3 ht1 ht2 ht3 hq1 hq2 hq3
        generalize gl.b l 0 = x0 at *
        generalize gl.b l 1 = x1 at *
        generalize gl.b l 2 = x2 at *
        generalize gl.b l 3 = x3 at *
        obtain ⟨hca, hcb⟩ := hc
        go_enter Tryd.func69, Tryd.ntmps69
        go_wp2_with fail
        refine HC1.out.mono ?_
        rintro e w' ⟨rfl, rfl⟩
        go_wp2_with fail
        refine HC2.out.mono ?_
        rintro e w' ⟨rfl, rfl⟩
        go_wp2_with fail
        refine HC3.out.mono ?_
        rintro e w' ⟨rfl, rfl⟩
        go_wp2_with fail
        go_ret2
        refine ⟨?_, _, (World.drewN_zero _).symm⟩
        rw [HW.out]
        rfl
      | true =>
        have hq1 := ht1.1 rfl
        have hq2 := ht2.1 rfl
        have hq3 := ht3.1 rfl
        rw [hn] at hq1 hq2 hq3
        have hw : gl.whole l = (4, gl.b l 0 % 8 * 262144 + gl.b l 1 % 64 * 4096 + gl.b l 2 % 64 * 64 + gl.b l 3 % 64) := by rw [hwh]; unfold gl.wN; rw [if_neg (by omega), if_neg (by omega), if_neg (by omega), if_pos (by refine ⟨by omega, ⟨by omega, ?_, ?_⟩, by omega, by omega⟩ <;> split <;> omega)]
        have HC1 := Lib.hid (hc1 w hx)
        have HC2 := Lib.hid (hc2 w hx)
        have HC3 := Lib.hid (hc3 w hx)
        have HW := Lib.hid hw
        obtain ⟨b, off, rfl, hb, hk⟩ := hx.byte (by omega)
        have k0 : w.cell? ⟨b, off, none⟩ = some (.int .u8 (gl.b l 0)) := hk 0 (by omega)
        have k1 : w.cell? ⟨b, off + 1, none⟩ = some (.int .u8 (gl.b l 1)) := hk 1 (by omega)
        have k2 : w.cell? ⟨b, off + 2, none⟩ = some (.int .u8 (gl.b l 2)) := hk 2 (by omega)
        have k3 : w.cell? ⟨b, off + 3, none⟩ = some (.int .u8 (gl.b l 3)) := hk 3 (by omega)
        have z1 : (1 : Int) < (n : Int) := by omega
        have z2 : (2 : Int) < (n : Int) := by omega
        have z3 : (3 : Int) < (n : Int) := by omega
        clear hw hwh hk hn hx hc1 hc2 hc3 ht1 ht2 ht3 hq1 hq2 hq3
        generalize gl.b l 0 = x0 at *
        generalize gl.b l 1 = x1 at *
        generalize gl.b l 2 = x2 at *
        generalize gl.b l 3 = x3 at *
        obtain ⟨hca, hcb⟩ := hc
        go_enter Tryd.func69, Tryd.ntmps69
        go_wp2_with fail
        refine HC1.out.mono ?_
        rintro e w' ⟨rfl, rfl⟩
        go_wp2_with fail
        refine HC2.out.mono ?_
        rintro e w' ⟨rfl, rfl⟩
        go_wp2_with fail
        refine HC3.out.mono ?_
        rintro e w' ⟨rfl, rfl⟩
        go_wp2_with fail
        go_quiet (fail)
        go_wp2_with fail
        go_ret2
        refine ⟨?_, _, rfl⟩
        rw [HW.out]
        exact ret_two rfl (by dsimp only; omega)
set_option maxRecDepth 100000 in
set_option maxHeartbeats 1600000 in
theorem whole_f4 (o : Option Addr) (n cap : Nat) (l : List UInt8) (w : World) (hx : Bts w o n cap l) (hn0 : 0 < n) (hc : gl.b l 0 = 244) :
    Calls Tryd.prog 69 #[.slice o n cap] w (WholeAns l w) := by
  unfold WholeAns
  have hmx : cap ≤ 9223372036854775807 := hx.max
  have hle := hx.le
  have hz0 : (0 : Int) < (n : Int) := by omega
  have hz1 : ((n : Int) == 0) = false := by simp; omega
  have hn := hx.size
  have hwh : gl.whole l = gl.wN n (gl.b l 0) (gl.b l 1) (gl.b l 2) (gl.b l 3) := by unfold gl.whole; rw [hn, if_neg (by omega)]
  have l0 := gl.b_lt l 0; have l1 := gl.b_lt l 1; have l2 := gl.b_lt l 2; have l3 := gl.b_lt l 3
  have hc1 := fun W (h : Bts W o n cap l) => tail_any o n cap l 1 128 143 W h (by omega)
  have ht1 := tlB_iff l 1 128 143
  generalize tlB l 1 128 143 = c1 at *
  have hc2 := fun W (h : Bts W o n cap l) => tail_any o n cap l 2 128 191 W h (by omega)
  have ht2 := tlB_iff l 2 128 191
  generalize tlB l 2 128 191 = c2 at *
  have hc3 := fun W (h : Bts W o n cap l) => tail_any o n cap l 3 128 191 W h (by omega)
  have ht3 := tlB_iff l 3 128 191
  generalize tlB l 3 128 191 = c3 at *
  cases c1 with
  | false =>
    have hq1 : ¬ _ := fun h => Bool.noConfusion (ht1.2 h)
    rw [hn] at hq1
    have hw : gl.whole l = (0, 0) := by rw [hwh]; unfold gl.wN; rw [if_neg (by omega), if_neg (by omega), if_neg (by omega), if_neg (fun h => by obtain ⟨_, ⟨g1, g2, g3⟩, g4, g5⟩ := h; split at g2 <;> split at g3 <;> omega)]
    have HC1 := Lib.hid (hc1 w hx)
    have HW := Lib.hid hw
    obtain ⟨b, off, rfl, hb, hk⟩ := hx.byte (by omega)
    have k0 : w.cell? ⟨b, off, none⟩ = some (.int .u8 (gl.b l 0)) := hk 0 (by omega)
    clear hw hwh hk hn hx hc1 hc2 hc3 ht1 ht2 ht3 hq1
    generalize gl.b l 0 = x0 at *
    generalize gl.b l 1 = x1 at *
    generalize gl.b l 2 = x2 at *
    generalize gl.b l 3 = x3 at *
    subst hc
    go_enter Tryd.func69, Tryd.ntmps69
    go_wp2_with fail
    refine HC1.out.mono ?_
    rintro e w' ⟨rfl, rfl⟩
    go_wp2_with fail
    go_ret2
    refine ⟨?_, _, (World.drewN_zero _).symm⟩
    rw [HW.out]
    rfl
  | true =>
    cases c2 with
    | false =>
      have hq1 := ht1.1 rfl
      have hq2 : ¬ _ := fun h => Bool.noConfusion (ht2.2 h)
      rw [hn] at hq1 hq2
      have hw : gl.whole l = (0, 0) := by rw [hwh]; unfold gl.wN; rw [if_neg (by omega), if_neg (by omega), if_neg (by omega), if_neg (fun h => by obtain ⟨_, ⟨g1, g2, g3⟩, g4, g5⟩ := h; split at g2 <;> split at g3 <;> omega)]
      have HC1 := Lib.hid (hc1 w hx)
      have HC2 := Lib.hid (hc2 w hx)
      have HW := Lib.hid hw
      obtain ⟨b, off, rfl, hb, hk⟩ := hx.byte (by omega)
      have k0 : w.cell? ⟨b, off, none⟩ = some (.int .u8 (gl.b l 0)) := hk 0 (by omega)
      clear hw hwh hk hn hx hc1 hc2 hc3 ht1 ht2 ht3 hq1 hq2
      generalize gl.b l 0 = x0 at *
      generalize gl.b l 1 = x1 at *
      generalize gl.b l 2 = x2 at *
      generalize gl.b l 3 = x3 at *
      subst hc
      go_enter Tryd.func69, Tryd.ntmps69
      go_wp2_with fail
      refine HC1.out.mono ?_
      rintro e w' ⟨rfl, rfl⟩
      go_wp2_with fail
      refine HC2.out.mono ?_
      rintro e w' ⟨rfl, rfl⟩
      go_wp2_with fail
      go_ret2
      refine ⟨?_, _, (World.drewN_zero _).symm⟩
      rw [HW.out]
      rfl
    | true =>
      cases c3 with
      | false =>
        have hq1 := ht1.1 rfl
        have hq2 := ht2.1 rfl
        have hq3 : ¬ _ := fun h => Bool.noConfusion (ht3.2 h)
        rw [hn] at hq1 hq2 hq3
        have hw : gl.whole l = (0, 0) := by rw [hwh]; unfold gl.wN; rw [if_neg (by omega), if_neg (by omega), if_neg (by omega), if_neg (fun h => by obtain ⟨_, ⟨g1, g2, g3⟩, g4, g5⟩ := h; split at g2 <;> split at g3 <;> omega)]
        have HC1 := Lib.hid (hc1 w hx)
        have HC2 := Lib.hid (hc2 w hx)
        have HC3 := Lib.hid (hc3 w hx)
        have HW := Lib.hid hw
        obtain ⟨b, off, rfl, hb, hk⟩ := hx.byte (by omega)
        have k0 : w.cell? ⟨b, off, none⟩ = some (.int .u8 (gl.b l 0)) := hk 0 (by omega)
        clear hw hwh hk hn hx hc1 hc2 hc3 ht1 ht2 ht3 hq1 hq2 hq3
        generalize gl.b l 0 = x0 at *
        generalize gl.b l 1 = x1 at *
        generalize gl.b l 2 = x2 at *
        generalize gl.b l 3 = x3 at *
        subst hc
        go_enter Tryd.func69, Tryd.ntmps69
        go_wp2_with fail
        refine HC1.out.mono ?_
        rintro e w' ⟨rfl, rfl⟩
        go_wp2_with fail
        refine HC2.out.mono ?_
        rintro e w' ⟨rfl, rfl⟩
        go_wp2_with fail
        refine HC3.out.mono ?_
        rintro e w' ⟨rfl, rfl⟩
        go_wp2_with fail
        go_ret2
        refine ⟨?_, _, (World.drewN_zero _).symm⟩
        rw [HW.out]
        rfl
      | true =>
        have hq1 := ht1.1 rfl
        have hq2 := ht2.1 rfl
        have hq3 := ht3.1 rfl
        rw [hn] at hq1 hq2 hq3
        have hw : gl.whole l = (4, gl.b l 0 % 8 * 262144 + gl.b l 1 % 64 * 4096 + gl.b l 2 % 64 * 64 + gl.b l 3 % 64) := by rw [hwh]; unfold gl.wN; rw [if_neg (by omega), if_neg (by omega), if_neg (by omega), if_pos (by refine ⟨by omega, ⟨by omega, ?_, ?_⟩, by omega, by omega⟩ <;> split <;> omega)]
        have HC1 := Lib.hid (hc1 w hx)
        have HC2 := Lib.hid (hc2 w hx)
        have HC3 := Lib.hid (hc3 w hx)
        have HW := Lib.hid hw
        obtain ⟨b, off, rfl, hb, hk⟩ := hx.byte (by omega)
        have k0 : w.cell? ⟨b, off, none⟩ = some (.int .u8 (gl.b l 0)) := hk 0 (by omega)
        have k1 : w.cell? ⟨b, off + 1, none⟩ = some (.int .u8 (gl.b l 1)) := hk 1 (by omega)
        have k2 : w.cell? ⟨b, off + 2, none⟩ = some (.int .u8 (gl.b l 2)) := hk 2 (by omega)
        have k3 : w.cell? ⟨b, off + 3, none⟩ = some (.int .u8 (gl.b l 3)) := hk 3 (by omega)
        have z1 : (1 : Int) < (n : Int) := by omega
        have z2 : (2 : Int) < (n : Int) := by omega
        have z3 : (3 : Int) < (n : Int) := by omega
        clear hw hwh hk hn hx hc1 hc2 hc3 ht1 ht2 ht3 hq1 hq2 hq3
        generalize gl.b l 0 = x0 at *
        generalize gl.b l 1 = x1 at *
        generalize gl.b l 2 = x2 at *
        generalize gl.b l 3 = x3 at *
        subst hc
        go_enter Tryd.func69, Tryd.ntmps69
        go_wp2_with fail
        refine HC1.out.mono ?_
        rintro e w' ⟨rfl, rfl⟩
        go_wp2_with fail
        refine HC2.out.mono ?_
        rintro e w' ⟨rfl, rfl⟩
        go_wp2_with fail
        refine HC3.out.mono ?_
        rintro e w' ⟨rfl, rfl⟩
        go_wp2_with fail
        go_quiet (fail)
        go_wp2_with fail
        go_ret2
        refine ⟨?_, _, rfl⟩
        rw [HW.out]
        exact ret_two rfl (by dsimp only; omega)
theorem whole_any (o : Option Addr) (n cap : Nat) (l : List UInt8) (w : World) (hx : Bts w o n cap l) :
    Calls Tryd.prog 69 #[.slice o n cap] w (WholeAns l w) := by
  by_cases h0 : n = 0
  · subst h0
    have hl : l.length = 0 := hx.size
    have HW := Lib.hid (show gl.whole l = (0, 0) by unfold gl.whole; rw [if_pos hl])
    clear hx hl
    unfold WholeAns
    go_enter Tryd.func69, Tryd.ntmps69
    go_wp2_with fail
    go_ret2
    rw [HW.out]
    exact ⟨rfl, _, (World.drewN_zero _).symm⟩
  · have hn0 : 0 < n := by omega
    have l0 := gl.b_lt l 0
    rcases (show gl.b l 0 < 128 ∨ ((128 ≤ gl.b l 0 ∧ gl.b l 0 < 194) ∨ 245 ≤ gl.b l 0) ∨ (194 ≤ gl.b l 0 ∧ gl.b l 0 < 224) ∨ gl.b l 0 = 224 ∨ ((225 ≤ gl.b l 0 ∧ gl.b l 0 < 237) ∨ (238 ≤ gl.b l 0 ∧ gl.b l 0 < 240)) ∨ gl.b l 0 = 237 ∨ gl.b l 0 = 240 ∨ (241 ≤ gl.b l 0 ∧ gl.b l 0 < 244) ∨ gl.b l 0 = 244 by omega) with h | h | h | h | h | h | h | h | h
    · exact whole_ascii o n cap l w hx hn0 h
    · exact whole_bad o n cap l w hx hn0 h
    · exact whole_two o n cap l w hx hn0 h
    · exact whole_e0 o n cap l w hx hn0 h
    · exact whole_e1 o n cap l w hx hn0 h
    · exact whole_ed o n cap l w hx hn0 h
    · exact whole_f0 o n cap l w hx hn0 h
    · exact whole_f1 o n cap l w hx hn0 h
    · exact whole_f4 o n cap l w hx hn0 h
end Go.Proofs.YtgkodjkhhmcnnaaDoor
