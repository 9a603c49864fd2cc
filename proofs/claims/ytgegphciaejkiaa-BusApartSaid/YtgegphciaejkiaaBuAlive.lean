/- The document's examples of layer 16 hold: alive returns true. -/
import Derived.Test.YtgegphciaejkiaaBuG
namespace Go.Proofs.Ytgegphciaejkiaa
open Go.RowKit
namespace bu
structure AlS (S : Nat → Slot) (k : Nat) : Prop where
  on : (S 0).on = true
  ks : ∀ j, j < 8 → (S 0).kinds j = decide (j = 2)
  len : (S 0).queue.length = min k 16
  dr : (S 0).dropped = ((k - 16 : Nat) : Int)
  oth : ∀ j, 1 ≤ j → j < 4 → (∀ i, i < 8 → (S j).kinds i = false) ∧ (S j).queue = []
abbrev S0 : Nat → Slot := fun _ => Slot.zero
theorem al_set : ∃ S1 S2 S3 S4 S5, openR S0 1 = (0, S1) ∧ openR S1 2 = (0, S2) ∧ subR S2 1 3 true = (0, S3) ∧ pub S3 ⟨3, 7, 0, ⟨#[]⟩⟩ 4 = (1, S4) ∧ takeR S4 1 = (some ⟨3, 7, 0, ⟨#[]⟩⟩, S5) ∧ takeR S5 2 = (none, S5) ∧ AlS S5 0 := by
  refine ⟨_, _, _, _, _, rfl, rfl, rfl, rfl, rfl, rfl, ⟨rfl, ?_, rfl, rfl, ?_⟩⟩
  · intro j hj
    have hs : j = 0 ∨ j = 1 ∨ j = 2 ∨ j = 3 ∨ j = 4 ∨ j = 5 ∨ j = 6 ∨ j = 7 := by omega
    rcases hs with rfl | rfl | rfl | rfl | rfl | rfl | rfl | rfl <;> rfl
  · intro j h1 h4
    have hs : j = 1 ∨ j = 2 ∨ j = 3 := by omega
    rcases hs with rfl | rfl | rfl <;> exact ⟨fun _ _ => rfl, rfl⟩
theorem AlS.pub {S : Nat → Slot} {k : Nat} (h : AlS S k) : AlS (bu.pub S ⟨3, 0, 0, ⟨#[]⟩⟩ 4).2 (k + 1) := by
  have h0 : (bu.pub S ⟨3, 0, 0, ⟨#[]⟩⟩ 4).2 0 = (putS (S 0) ⟨3, 0, 0, ⟨#[]⟩⟩).2 := by
    rw [pub_at, if_pos ⟨by omega, by simp only [wantsS]; rw [show (3 - 1 : Int).toNat = 2 from rfl, h.ks 2 (by omega)]; rfl⟩]
  have hj : ∀ j, 1 ≤ j → j < 4 → (bu.pub S ⟨3, 0, 0, ⟨#[]⟩⟩ 4).2 j = S j := fun j h1 h4 => by
    rw [pub_at, if_neg fun x => ?_]
    have := x.2
    simp only [wantsS] at this
    rw [show (3 - 1 : Int).toNat = 2 from rfl, (h.oth j h1 h4).1 2 (by omega)] at this
    simp at this
  have hl := h.len
  have hd := h.dr
  refine ⟨?_, ?_, ?_, ?_, fun j h1 h4 => by rw [hj j h1 h4]; exact h.oth j h1 h4⟩
  all_goals
    rw [h0]
    unfold putS
    split
  · exact h.on
  · exact h.on
  · exact h.ks
  · exact h.ks
  · simp only; omega
  · simp only [List.length_append, List.length_singleton]; omega
  · simp only; omega
  · simp only; omega
theorem AlS.openA {S : Nat → Slot} {k : Nat} (h : AlS S k) : bu.openA S 1 = some 0 := if_pos ⟨by omega, by omega, h.on⟩
theorem AlS.lenA {S : Nat → Slot} (h : AlS S 17) : ((bu.lenA S 1 : Nat) : Int) = 16 := by
  unfold bu.lenA
  rw [h.openA]
  simp only [h.len]
  rfl
theorem AlS.dropA {S : Nat → Slot} (h : AlS S 17) : bu.dropA S 1 = 1 := by
  unfold bu.dropA
  rw [h.openA]
  simp only [h.dr]
  rfl
theorem AlS.ready {S : Nat → Slot} (h : AlS S 17) : readyU S 4 = [1] := by
  have h1 := h.lenA
  have hz : ∀ j : Nat, 1 ≤ j → j < 4 → bu.lenA S ((j : Int) + 1) = 0 := fun j a b => by
    unfold bu.lenA
    split
    · rfl
    · rename_i i hi
      obtain rfl : i = j := by have := (openA_lt hi).2.2; omega
      rw [(h.oth i a b).2]; rfl
  have z1 := hz 1 (by omega) (by omega)
  have z2 := hz 2 (by omega) (by omega)
  have z3 := hz 3 (by omega) (by omega)
  unfold readyU readyU readyU readyU readyU
  rw [if_neg (by omega), if_neg (by omega), if_neg (by omega), if_pos (by
    show 0 < bu.lenA S ((0 : Nat) + 1 : Int)
    have : bu.lenA S ((0 : Nat) + 1 : Int) = bu.lenA S 1 := rfl
    omega)]
  rfl
theorem AlS.kindsA {S : Nat → Slot} {k : Nat} (h : AlS S k) : bu.kindsA S 1 = [3] := by
  unfold bu.kindsA
  rw [h.openA]
  simp [kindsU, h.ks]
theorem AlS.shut {S : Nat → Slot} {k : Nat} (h : AlS S k) : shutR S 1 = (0, upd S 0 Slot.zero) := by
  unfold shutR
  rw [h.openA]
theorem AlS.gone (S : Nat → Slot) : ((bu.lenA (upd S 0 Slot.zero) 1 : Nat) : Int) = 0 := rfl
end bu
set_option maxRecDepth 100000 in
set_option maxHeartbeats 3200000 in
theorem alive_any (w : World) : Calls Try.prog 8 #[] w fun e w' => e = .returned (.bool true) ∧ Below w.heap.size w w' := by
  obtain ⟨S1, S2, S3, S4, S5, r1, r2, r3, r4, r5, r6, hA⟩ := bu.al_set
  have HS := Lib.hid (And.intro r1 (And.intro r2 (And.intro r3 (And.intro r4 (And.intro r5 (And.intro r6 hA))))))
  clear r1 r2 r3 r4 r5 r6 hA
  have HN := Lib.hid (newP_any w)
  go_enter Try.func8, Try.ntmps8
  go_wp2_with fail
  refine HN.out.mono ?_
  rintro e x ⟨rfl, hx⟩
  have G0 := Lib.hid (hx ▸ BG.new w w w.heap.size (Below.refl _ _) (Nat.le_refl _))
  clear hx HN
  have HC := Lib.hid (open_g G0.out 1 _ HS.out.1)
  go_wp2_with fail
  refine HC.out.mono ?_
  rintro e x1 ⟨rfl, g⟩
  have G1 := Lib.hid g
  clear g HC G0
  have HC := Lib.hid (open_g G1.out 2 _ HS.out.2.1)
  go_wp2_with fail
  refine HC.out.mono ?_
  rintro e x2 ⟨rfl, g⟩
  have G2 := Lib.hid g
  clear g HC G1
  have HC := Lib.hid (sub_g G2.out 1 3 true _ HS.out.2.2.1)
  go_wp2_with fail
  refine HC.out.mono ?_
  rintro e x3 ⟨rfl, g⟩
  have G3 := Lib.hid g
  clear g HC G2
  have HC := Lib.hid (pub_g G3.out (by decide) ⟨3, 7, 0, ⟨#[]⟩⟩ _ HS.out.2.2.2.1)
  go_wp2_with fail
  refine HC.out.mono ?_
  rintro e x4 ⟨rfl, g⟩
  have G4 := Lib.hid g
  clear g HC G3
  have HC := Lib.hid (take_g G4.out 1 _ HS.out.2.2.2.2.1)
  go_wp2_with fail
  refine HC.out.mono ?_
  rintro e x5 ⟨rfl, g⟩
  have G5 := Lib.hid g
  clear g HC G4
  dsimp only [Option.getD, Option.isSome]
  have HE := Lib.hid (G5.out.box (evO ⟨3, 7, 0, ⟨#[]⟩⟩))
  have HC := Lib.hid (take_g HE.out 2 _ HS.out.2.2.2.2.2.1)
  clear G5
  go_wp2_with fail
  refine HC.out.mono ?_
  rintro e x6 ⟨rfl, g⟩
  have G6 := Lib.hid (And.intro g HS.out.2.2.2.2.2.2)
  clear g HC HE HS
  dsimp only [Option.getD, Option.isSome]
  generalize x5.heap.size = be at *
  go_upto_region 8 with fail
  have G7 := Lib.hid (And.intro (G6.out.1.below (below_one x6 (evO bu.evZ))) G6.out.2)
  clear G6
  go_loopg [7] 17 (fun gg s7 wr => ∃ (j : Nat) (T : Nat → bu.Slot), s7 = .int .i64 j ∧ j ≤ 17 ∧ 17 - j ≤ gg ∧ Hid (BG w.heap.size w w.heap.size [(be, evO ⟨3, 7, 0, ⟨#[]⟩⟩)] T (0 + 1 + (j : Int)) wr ∧ bu.AlS T j))
  case atStart => exact ⟨0, S5, rfl, Nat.zero_le _, Nat.le_refl _, G7⟩
  case round =>
    obtain ⟨j, T, rfl, hj, hgg, HT⟩ := hrel
    by_cases hj2 : (j : Int) < 17
    · have HC := Lib.hid (pub_g HT.out.1 (by omega) ⟨3, 0, 0, ⟨#[]⟩⟩ _ rfl)
      go_wp2_with fail
      refine HC.out.mono ?_
      rintro e wn ⟨rfl, g⟩
      have HT' := Lib.hid (And.intro g HT.out.2.pub)
      clear g HC HT
      go_wp2_with fail
      go_roundg (17 - (j + 1))
      case measure => omega
      case rel => exact ⟨j + 1, _, by simp, by omega, Nat.le_refl _, Lib.hid ⟨by have := HT'.out.1; rwa [show (0 : Int) + 1 + (j : Int) + 1 = 0 + 1 + ((j + 1 : Nat) : Int) by omega] at this, HT'.out.2⟩⟩
    · obtain rfl : j = 17 := by omega
      clear hgg hj G7
      have hbx := HT.out.1.here
      have a1 : wr.cell? ⟨be, 1, none⟩ = some (.int .i64 7) := (cell_of_heap hbx).trans rfl
      have hlb := heap_lt hbx
      have HC1 := Lib.hid (len_g HT.out.1 1 16 HT.out.2.lenA)
      have HC2 := Lib.hid (drop_g HT.out.1 1 1 HT.out.2.dropA)
      have HC3 := Lib.hid (ready_g HT.out.1 [1] HT.out.2.ready)
      clear hbx
      go_wp2_with fail
      refine HC1.out.mono ?_
      rintro e w' ⟨rfl, hw⟩
      replace hw := hw.symm
      subst hw
      go_wp2_with fail
      refine HC2.out.mono ?_
      rintro e w' ⟨rfl, hw⟩
      replace hw := hw.symm
      subst hw
      go_wp2_with fail
      refine HC3.out.mono ?_
      rintro e w5 ⟨V5, rfl, hr5, hb5⟩
      obtain ⟨o5, c5, rfl⟩ := own_slice hr5
      have hb6 := below_one w5 (.cells #[.int .i64 1] 3)
      have HST := Lib.hid (sameInts_eq _ _ _ _ [1] (w5.alloc (.cells #[.int .i64 1] 3)) (RowIn.below (show NsIn w5 (fun _ => True) (.slice o5 1 c5) [1] from RowIn.of_own hr5 (by simp [inC]) _ (fun _ _ => trivial)) hb6) (NsIn.new w5 [1] #[.int .i64 1] rfl 1 rfl (by decide)))
      have G8 := Lib.hid (And.intro ((HT.out.1.below hb5).below hb6) HT.out.2)
      clear hr5 hb5 hb6 HT HC1 HC2 HC3 a1 hlb
      go_wp2_with fail
      refine HST.out.mono ?_
      rintro e w7 ⟨rfl, hb7⟩
      have G9 := Lib.hid (And.intro (G8.out.1.below hb7) G8.out.2)
      have HC3 := Lib.hid (kinds_g G9.out.1 1 [3] G9.out.2.kindsA)
      clear hb7 HST G8
      go_wp2_with fail
      refine HC3.out.mono ?_
      rintro e w8 ⟨V8, rfl, hr5, hb5⟩
      obtain ⟨o8, c8, rfl⟩ := own_slice hr5
      have hb6 := below_one w8 (.cells #[.int .i64 3] 3)
      have HST := Lib.hid (sameInts_eq _ _ _ _ [3] (w8.alloc (.cells #[.int .i64 3] 3)) (RowIn.below (show NsIn w8 (fun _ => True) (.slice o8 1 c8) [3] from RowIn.of_own hr5 (by simp [inC]) _ (fun _ _ => trivial)) hb6) (NsIn.new w8 [3] #[.int .i64 3] rfl 1 rfl (by decide)))
      have GA := Lib.hid (And.intro ((G9.out.1.below hb5).below hb6) G9.out.2)
      clear hr5 hb5 hb6 G9 HC3
      go_wp2_with fail
      refine HST.out.mono ?_
      rintro e w9 ⟨rfl, hb7⟩
      have GB := Lib.hid (And.intro (GA.out.1.below hb7) GA.out.2)
      have HC3 := Lib.hid (shut_g GB.out.1 (by decide) 1 _ GB.out.2.shut)
      clear hb7 HST GA
      go_wp2_with fail
      refine HC3.out.mono ?_
      rintro e wa ⟨rfl, g⟩
      have GC := Lib.hid g
      have HC1 := Lib.hid (len_g GC.out 1 0 rfl)
      clear g HC3 GB
      go_wp2_with fail
      refine HC1.out.mono ?_
      rintro e w' ⟨rfl, hw⟩
      replace hw := hw.symm
      subst hw
      go_wp2_with fail
      go_ret
      exact ⟨rfl, GC.out.bel⟩
end Go.Proofs.Ytgegphciaejkiaa
