/- at, opened, Len, Dropped, isKind, wants, Open, Shut, Subscribe. -/
import Derived.Test.YtgegphciaejkiaaBuMem
namespace Go.Proofs.Ytgegphciaejkiaa
open Go.RowKit
namespace bu
/-- the place of an open slot -/
def openA (S : Nat → Slot) (p : Int) : Option Nat := if 1 ≤ p ∧ p ≤ 4 ∧ (S (p - 1).toNat).on = true then some (p - 1).toNat else none
def slotAt (p : Int) : Option Nat := if 1 ≤ p ∧ p ≤ 4 then some (p - 1).toNat else none
theorem openA_lt {S : Nat → Slot} {p : Int} {i : Nat} (h : openA S p = some i) : i < 4 ∧ (S i).on = true ∧ p = (i : Int) + 1 := by
  unfold openA at h
  split at h
  · rename_i hc
    obtain rfl := Option.some.inj h
    exact ⟨by omega, hc.2.2, by omega⟩
  · cases h
theorem slotAt_lt {p : Int} {i : Nat} (h : slotAt p = some i) : i < 4 ∧ p = (i : Int) + 1 := by
  unfold slotAt at h
  split at h
  · obtain rfl := Option.some.inj h
    exact ⟨by omega, by omega⟩
  · cases h
def isKind (k : Int) : Bool := decide (1 ≤ k) && decide (k ≤ 8)
end bu
abbrev slP (q : Nat) (r : Option Nat) : Value := .pointer (r.map fun i => ⟨q, i * 11, none⟩)
theorem at_any (q : Nat) (p : Int) (w : World) : Calls Try.prog 29 #[.pointer (some ⟨q, 0, none⟩), .int .i64 p] w fun e w' => e = .returned (slP q (bu.slotAt p)) ∧ w' = w := by
  by_cases h1 : p < 1
  · have hn : bu.slotAt p = none := if_neg (by omega)
    rw [hn]
    clear hn
    go_enter Try.func29, Try.ntmps29
    go_wp2_with fail
    go_ret
    exact ⟨rfl, rfl⟩
  by_cases h2 : 4 < p
  · have hn : bu.slotAt p = none := if_neg (by omega)
    rw [hn]
    clear hn
    go_enter Try.func29, Try.ntmps29
    go_wp2_with fail
    go_ret
    exact ⟨rfl, rfl⟩
  have hs : p = 1 ∨ p = 2 ∨ p = 3 ∨ p = 4 := by omega
  clear h1 h2
  rcases hs with rfl | rfl | rfl | rfl
  all_goals
    go_enter Try.func29, Try.ntmps29
    go_wp2_with fail
    go_ret
    exact ⟨rfl, rfl⟩
set_option maxHeartbeats 1600000 in
theorem opened_any (q : Nat) (S : Nat → bu.Slot) (V : Nat → Value) (p : Int) (w : World) (h : BuAt w q S V) : Calls Try.prog 28 #[.pointer (some ⟨q, 0, none⟩), .int .i64 p] w fun e w' => e = .returned (slP q (bu.openA S p)) ∧ w' = w := by
  have HA := Lib.hid (at_any q p w)
  have HO : Hid (bu.openA S p = match bu.slotAt p with | none => none | some i => if (S i).on = true then some i else none) := Lib.hid (by
    unfold bu.openA bu.slotAt
    by_cases hc : 1 ≤ p ∧ p ≤ 4
    · by_cases ho : (S (p - 1).toNat).on = true
      · rw [if_pos ⟨hc.1, hc.2, ho⟩, if_pos hc]; simp only; rw [if_pos ho]
      · rw [if_neg (fun x => ho x.2.2), if_pos hc]; simp only; rw [if_neg ho]
    · rw [if_neg (fun x => hc ⟨x.1, x.2.1⟩), if_neg hc])
  generalize bu.openA S p = R at *
  have hlt := fun i (e : bu.slotAt p = some i) => (bu.slotAt_lt e).1
  obtain ⟨X, hX⟩ : ∃ X, bu.slotAt p = X := ⟨_, rfl⟩
  rw [hX] at HA HO hlt
  clear hX
  cases X with
  | none =>
    have HR : Hid (R = none) := Lib.hid HO.out
    clear HO hlt h
    go_enter Try.func28, Try.ntmps28
    go_wp2_with fail
    refine HA.out.mono ?_
    rintro e w' ⟨rfl, hw⟩
    replace hw := hw.symm
    subst hw
    dsimp only [slP, Option.map_none]
    go_wp2_with fail
    go_ret
    exact ⟨by rw [HR.out]; rfl, rfl⟩
  | some i =>
    obtain ⟨c0, -⟩ := h.cells (hlt i rfl)
    have hq := h.lt
    have hR : R = if (S i).on = true then some i else none := HO.out
    have HR := Lib.hid hR
    clear HO hlt h hR
    generalize (S i).on = b at *
    cases b
    all_goals
      go_enter Try.func28, Try.ntmps28
      go_wp2_with fail
      refine HA.out.mono ?_
      rintro e w' ⟨rfl, hw⟩
      replace hw := hw.symm
      subst hw
      dsimp only [slP, Option.map_some]
      go_wp2_with fail
      go_ret
      exact ⟨by rw [HR.out]; rfl, rfl⟩
namespace bu
def lenA (S : Nat → Slot) (p : Int) : Nat := match openA S p with | none => 0 | some i => (S i).queue.length
def dropA (S : Nat → Slot) (p : Int) : Int := match openA S p with | none => 0 | some i => (S i).dropped
/-- what Open, Shut, Subscribe answer, and the slots behind them -/
def openR (S : Nat → Slot) (p : Int) : Int × (Nat → Slot) := match slotAt p with | none => (1, S) | some i => if (S i).on = true then (81, S) else (0, upd S i { S i with on := true })
def shutR (S : Nat → Slot) (p : Int) : Int × (Nat → Slot) := match openA S p with | none => (5, S) | some i => (0, upd S i Slot.zero)
def subR (S : Nat → Slot) (p k : Int) (on : Bool) : Int × (Nat → Slot) := match openA S p with | none => (5, S) | some i => if isKind k = true then (0, upd S i { S i with kinds := fun j => if (j : Int) = k - 1 then on else (S i).kinds j }) else (1, S)
end bu
/-- a bus behind a call -/
def BuR (q : Nat) (V : Nat → Value) (w w' : World) (S' : Nat → bu.Slot) : Prop := ∃ V', BuAt w' q S' V' ∧ Fr (Own q V) w w' ∧ ∀ y, Own q V' y → Own q V y ∨ w.heap.size ≤ y
theorem BuR.same {q : Nat} {S : Nat → bu.Slot} {V : Nat → Value} {w : World} (h : BuAt w q S V) : BuR q V w w S := ⟨V, h, Fr.refl _ _, fun _ h => .inl h⟩
theorem BuR.of {q : Nat} {S' : Nat → bu.Slot} {V : Nat → Value} {w w' : World} (h : BuAt w' q S' V) (f : Fr (Own q V) w w') : BuR q V w w' S' := ⟨V, h, f, fun _ h => .inl h⟩
theorem lenP_any (q : Nat) (S : Nat → bu.Slot) (V : Nat → Value) (p : Int) (w : World) (h : BuAt w q S V) : Calls Try.prog 12 #[.pointer (some ⟨q, 0, none⟩), .int .i64 p] w fun e w' => e = .returned (.int .i64 (bu.lenA S p : Nat)) ∧ w' = w := by
  have HO := Lib.hid (opened_any q S V p w h)
  have HL : Hid (bu.lenA S p = match bu.openA S p with | none => 0 | some i => (S i).queue.length) := Lib.hid rfl
  have hlt := fun i (e : bu.openA S p = some i) => (bu.openA_lt e).1
  generalize bu.lenA S p = R at *
  obtain ⟨X, hX⟩ : ∃ X, bu.openA S p = X := ⟨_, rfl⟩
  rw [hX] at HO HL hlt
  clear hX
  cases X with
  | none =>
    have HR : Hid (R = 0) := Lib.hid HL.out
    clear HL hlt h
    go_enter Try.func12, Try.ntmps12
    go_wp2_with fail
    refine HO.out.mono ?_
    rintro e w' ⟨rfl, hw⟩
    replace hw := hw.symm
    subst hw
    dsimp only [slP, Option.map_none]
    go_wp2_with fail
    go_ret
    exact ⟨by rw [HR.out]; rfl, rfl⟩
  | some i =>
    obtain ⟨-, -, c9, -⟩ := h.cells (hlt i rfl)
    obtain ⟨o, c, hv⟩ := own_slice (h.row i (hlt i rfl))
    rw [hv] at c9
    have hq := h.lt
    have HR : Hid (R = (S i).queue.length) := Lib.hid HL.out
    clear HL hlt h hv
    generalize (S i).queue.length = n at *
    go_enter Try.func12, Try.ntmps12
    go_wp2_with fail
    refine HO.out.mono ?_
    rintro e w' ⟨rfl, hw⟩
    replace hw := hw.symm
    subst hw
    dsimp only [slP, Option.map_some]
    go_wp2_with fail
    go_ret
    exact ⟨by rw [HR.out]; rfl, rfl⟩
theorem dropP_any (q : Nat) (S : Nat → bu.Slot) (V : Nat → Value) (p : Int) (w : World) (h : BuAt w q S V) : Calls Try.prog 13 #[.pointer (some ⟨q, 0, none⟩), .int .i64 p] w fun e w' => e = .returned (.int .i64 (bu.dropA S p)) ∧ w' = w := by
  have HO := Lib.hid (opened_any q S V p w h)
  have HL : Hid (bu.dropA S p = match bu.openA S p with | none => 0 | some i => (S i).dropped) := Lib.hid rfl
  have hlt := fun i (e : bu.openA S p = some i) => (bu.openA_lt e).1
  generalize bu.dropA S p = R at *
  obtain ⟨X, hX⟩ : ∃ X, bu.openA S p = X := ⟨_, rfl⟩
  rw [hX] at HO HL hlt
  clear hX
  cases X with
  | none =>
    have HR : Hid (R = 0) := Lib.hid HL.out
    clear HL hlt h
    go_enter Try.func13, Try.ntmps13
    go_wp2_with fail
    refine HO.out.mono ?_
    rintro e w' ⟨rfl, hw⟩
    replace hw := hw.symm
    subst hw
    dsimp only [slP, Option.map_none]
    go_wp2_with fail
    go_ret
    exact ⟨by rw [HR.out]; rfl, rfl⟩
  | some i =>
    obtain ⟨-, -, -, c10⟩ := h.cells (hlt i rfl)
    have hq := h.lt
    have HR : Hid (R = (S i).dropped) := Lib.hid HL.out
    clear HL hlt h
    generalize (S i).dropped = n at *
    go_enter Try.func13, Try.ntmps13
    go_wp2_with fail
    refine HO.out.mono ?_
    rintro e w' ⟨rfl, hw⟩
    replace hw := hw.symm
    subst hw
    dsimp only [slP, Option.map_some]
    go_wp2_with fail
    go_ret
    exact ⟨by rw [HR.out]; rfl, rfl⟩
theorem kind_any (k : Int) (w : World) : Calls Try.prog 30 #[.int .i64 k] w fun e w' => e = .returned (.bool (bu.isKind k)) ∧ w' = w := by
  unfold bu.isKind
  by_cases h1 : 1 ≤ k
  · go_enter Try.func30, Try.ntmps30
    go_wp2
    go_ret
    exact ⟨ret_bool (by rw [Bool.eq_iff_iff]; simp; try omega), rfl⟩
  · go_enter Try.func30, Try.ntmps30
    go_wp2
    go_ret
    exact ⟨ret_bool (by rw [Bool.eq_iff_iff]; simp; try omega), rfl⟩
theorem openP_any (q : Nat) (S : Nat → bu.Slot) (V : Nat → Value) (p : Int) (w : World) (h : BuAt w q S V) : Calls Try.prog 17 #[.pointer (some ⟨q, 0, none⟩), .int .i64 p] w fun e w' => e = .returned (.int .i64 (bu.openR S p).1) ∧ BuR q V w w' (bu.openR S p).2 := by
  have HO := Lib.hid (at_any q p w)
  have HL : Hid (bu.openR S p = match bu.slotAt p with | none => (1, S) | some i => if (S i).on = true then (81, S) else (0, bu.upd S i { S i with on := true })) := Lib.hid rfl
  have hlt := fun i (e : bu.slotAt p = some i) => (bu.slotAt_lt e).1
  generalize bu.openR S p = R at *
  obtain ⟨X, hX⟩ : ∃ X, bu.slotAt p = X := ⟨_, rfl⟩
  rw [hX] at HO HL hlt
  clear hX
  cases X with
  | none =>
    have HR : Hid (R = (1, S)) := Lib.hid HL.out
    have HB := Lib.hid (BuR.same h)
    clear HL hlt h
    go_enter Try.func17, Try.ntmps17
    go_wp2_with fail
    refine HO.out.mono ?_
    rintro e w' ⟨rfl, hw⟩
    replace hw := hw.symm
    subst hw
    dsimp only [slP, Option.map_none]
    go_wp2_with fail
    go_ret
    rw [HR.out]
    exact ⟨rfl, HB.out⟩
  | some i =>
    obtain ⟨c0, -⟩ := h.cells (hlt i rfl)
    have hq := h.lt
    have f0 := h.thaw (i * 11)
    cases hon : (S i).on with
    | true =>
      have HR : Hid (R = (81, S)) := Lib.hid (by have := HL.out; simp only [hon, if_true] at this; exact this)
      have HB := Lib.hid (BuR.same h)
      rw [hon] at c0
      clear HL hlt h hon
      go_enter Try.func17, Try.ntmps17
      go_wp2_with fail
      refine HO.out.mono ?_
      rintro e w' ⟨rfl, hw⟩
      replace hw := hw.symm
      subst hw
      dsimp only [slP, Option.map_some]
      go_wp2_with fail
      go_ret
      rw [HR.out]
      exact ⟨rfl, HB.out⟩
    | false =>
      have HR : Hid (R = (0, bu.upd S i { S i with on := true })) := Lib.hid (by have := HL.out; simp only [hon] at this; exact this)
      have hs := h.set (hlt i rfl) 0 (by omega) (.bool true) { S i with on := true } rfl rfl (fun k hk => by rw [if_neg (by omega)]) (by simp) (by simp)
      have HB : Hid (BuR q V w (w.setCell ⟨q, i * 11, none⟩ (.bool true)) (bu.upd S i { S i with on := true })) := Lib.hid (BuR.of hs ((Fr.refl _ _).setCell _ _ (.inr (.inl rfl))))
      rw [hon] at c0
      clear HL hlt h hon hs
      go_enter Try.func17, Try.ntmps17
      go_wp2_with fail
      refine HO.out.mono ?_
      rintro e w' ⟨rfl, hw⟩
      replace hw := hw.symm
      subst hw
      dsimp only [slP, Option.map_some]
      go_wp2_with fail
      go_ret
      rw [HR.out]
      exact ⟨rfl, HB.out⟩
end Go.Proofs.Ytgegphciaejkiaa
