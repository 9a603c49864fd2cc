/- Shut, Subscribe, wants. -/
import Derived.Test.YtgegphciaejkiaaBuOps
namespace Go.Proofs.Ytgegphciaejkiaa
open Go.RowKit
namespace bu
def wantsS (s : Slot) (k : Int) : Bool := isKind k && s.kinds (k - 1).toNat
theorem isKind_iff {k : Int} : isKind k = true ↔ 1 ≤ k ∧ k ≤ 8 := by unfold isKind; simp
end bu
set_option maxHeartbeats 1600000 in
theorem wants_any (q i : Nat) (hi : i < 4) (S : Nat → bu.Slot) (V : Nat → Value) (k : Int) (w : World) (h : BuAt w q S V) : Calls Try.prog 31 #[.pointer (some ⟨q, i * 11, none⟩), .int .i64 k] w fun e w' => e = .returned (.bool (bu.wantsS (S i) k)) ∧ w' = w := by
  have HK := Lib.hid (kind_any k w)
  have HW : Hid (bu.wantsS (S i) k = (bu.isKind k && (S i).kinds (k - 1).toNat)) := Lib.hid rfl
  have hlt := bu.isKind_iff (k := k)
  obtain ⟨-, c1, -⟩ := h.cells hi
  have hq := h.lt
  clear h
  generalize bu.wantsS (S i) k = R at *
  obtain ⟨X, hX⟩ : ∃ X, bu.isKind k = X := ⟨_, rfl⟩
  rw [hX] at HK HW hlt
  clear hX
  cases X with
  | false =>
    have HR : Hid (R = false) := Lib.hid (by rw [HW.out, Bool.false_and])
    clear HW hlt c1
    go_enter Try.func31, Try.ntmps31
    go_wp2_with fail
    refine HK.out.mono ?_
    rintro e w' ⟨rfl, hw⟩
    replace hw := hw.symm
    subst hw
    go_wp2_with fail
    go_ret
    exact ⟨by rw [HR.out]; rfl, rfl⟩
  | true =>
    obtain ⟨h1, h2⟩ := hlt.1 rfl
    obtain ⟨j, rfl⟩ : ∃ j : Nat, k = (j : Int) + 1 := ⟨(k - 1).toNat, by omega⟩
    have hj : j < 8 := by omega
    have hw : IntKind.i64.wrap ((j : Int) + 1 - 1) = (j : Int) := by rw [IntKind.wrap_i64]; omega
    have cj := c1 j hj
    have HR : Hid (R = (S i).kinds j) := Lib.hid (by rw [HW.out, Bool.true_and]; congr 1; omega)
    clear HW hlt c1
    generalize (S i).kinds j = b at *
    go_enter Try.func31, Try.ntmps31
    go_wp2_with fail
    refine HK.out.mono ?_
    rintro e w' ⟨rfl, hw⟩
    replace hw := hw.symm
    subst hw
    go_wp2_with fail
    go_ret
    exact ⟨by rw [HR.out]; rfl, rfl⟩
set_option maxHeartbeats 1600000 in
theorem subP_any (q : Nat) (S : Nat → bu.Slot) (V : Nat → Value) (p k : Int) (on : Bool) (w : World) (h : BuAt w q S V) : Calls Try.prog 18 #[.pointer (some ⟨q, 0, none⟩), .int .i64 p, .int .i64 k, .bool on] w fun e w' => e = .returned (.int .i64 (bu.subR S p k on).1) ∧ BuR q V w w' (bu.subR S p k on).2 := by
  have HO := Lib.hid (opened_any q S V p w h)
  have HK := Lib.hid (kind_any k w)
  have HL : Hid (bu.subR S p k on = match bu.openA S p with | none => (5, S) | some i => if bu.isKind k = true then (0, bu.upd S i { S i with kinds := fun j => if (j : Int) = k - 1 then on else (S i).kinds j }) else (1, S)) := Lib.hid rfl
  have hlt := fun i (e : bu.openA S p = some i) => (bu.openA_lt e).1
  have hki := bu.isKind_iff (k := k)
  generalize bu.subR S p k on = R at *
  obtain ⟨X, hX⟩ : ∃ X, bu.openA S p = X := ⟨_, rfl⟩
  rw [hX] at HO HL hlt
  clear hX
  obtain ⟨K, hK⟩ : ∃ K, bu.isKind k = K := ⟨_, rfl⟩
  rw [hK] at HK HL hki
  clear hK
  cases X with
  | none =>
    have HR : Hid (R = (5, S)) := Lib.hid HL.out
    have HB := Lib.hid (BuR.same h)
    clear HL hlt h hki
    go_enter Try.func18, Try.ntmps18
    go_wp2_with fail
    refine HO.out.mono ?_
    rintro e w' ⟨rfl, hw⟩
    replace hw := hw.symm
    subst hw
    dsimp only [slP, Option.map_none]
    go_wp2_with fail
    go_ret
    rw [HR.out]
    exact ⟨rfl, HB.out⟩
  | some i =>
    cases K with
    | false =>
      have HR : Hid (R = (1, S)) := Lib.hid HL.out
      have HB := Lib.hid (BuR.same h)
      clear HL hlt h hki
      go_enter Try.func18, Try.ntmps18
      go_wp2_with fail
      refine HO.out.mono ?_
      rintro e w' ⟨rfl, hw⟩
      replace hw := hw.symm
      subst hw
      dsimp only [slP, Option.map_some]
      go_wp2_with fail
      refine HK.out.mono ?_
      rintro e w' ⟨rfl, hw⟩
      replace hw := hw.symm
      subst hw
      go_wp2_with fail
      go_ret
      rw [HR.out]
      exact ⟨rfl, HB.out⟩
    | true =>
      obtain ⟨h1, h2⟩ := hki.1 rfl
      obtain ⟨j, rfl⟩ : ∃ j : Nat, k = (j : Int) + 1 := ⟨(k - 1).toNat, by omega⟩
      have hj : j < 8 := by omega
      have hw : IntKind.i64.wrap ((j : Int) + 1 - 1) = (j : Int) := by rw [IntKind.wrap_i64]; omega
      have HR : Hid (R = (0, bu.upd S i { S i with kinds := fun x => if (x : Int) = (j : Int) + 1 - 1 then on else (S i).kinds x })) := Lib.hid HL.out
      have hs := h.set (hlt i rfl) (1 + j) (by omega) (.bool on) { S i with kinds := fun x => if (x : Int) = (j : Int) + 1 - 1 then on else (S i).kinds x } rfl (by rw [if_neg (by omega)]) (fun k hk => by
        by_cases e : j = k
        · subst e
          rw [if_pos rfl]
          simp only
          rw [if_pos (by omega)]
        · rw [if_neg (by omega)]
          simp only
          rw [if_neg (by omega)]) (by rw [if_neg (by omega)]) (by rw [if_neg (by omega)])
      rw [← Nat.add_assoc] at hs
      have HB : Hid (BuR q V w (w.setCell ⟨q, i * 11 + 1 + j, none⟩ (.bool on)) (bu.upd S i { S i with kinds := fun x => if (x : Int) = (j : Int) + 1 - 1 then on else (S i).kinds x })) := Lib.hid (BuR.of hs ((Fr.refl _ _).setCell _ _ (.inr (.inl rfl))))
      obtain ⟨-, c1, -⟩ := h.cells (hlt i rfl)
      have cj := c1 j hj
      have hq := h.lt
      have fj := h.thaw (i * 11 + 1 + j)
      clear HL hlt h hki hs c1
      go_enter Try.func18, Try.ntmps18
      go_wp2_with fail
      refine HO.out.mono ?_
      rintro e w' ⟨rfl, hw⟩
      replace hw := hw.symm
      subst hw
      dsimp only [slP, Option.map_some]
      go_wp2_with fail
      refine HK.out.mono ?_
      rintro e w' ⟨rfl, hw⟩
      replace hw := hw.symm
      subst hw
      go_wp2_with fail
      go_ret
      rw [HR.out]
      exact ⟨rfl, HB.out⟩
end Go.Proofs.Ytgegphciaejkiaa
