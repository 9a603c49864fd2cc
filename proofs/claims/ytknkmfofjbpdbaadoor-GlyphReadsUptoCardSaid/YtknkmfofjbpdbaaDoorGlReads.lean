/- The walk of GlyphReads. -/
import Derived.Test.YtknkmfofjbpdbaaDoorGlRefRunes
namespace Go.Proofs.YtknkmfofjbpdbaaDoor
open Go.RowKit

set_option maxRecDepth 100000 in
set_option maxHeartbeats 1600000 in
theorem reads_any (o : Option Addr) (n cap : Nat) (l : List UInt8) (w : World) (ht : UTabs w) (hx : Bts w o n cap l) (hn : n ≤ 1048576) :
    Calls Tryd.prog 3 #[.slice o n cap] w fun e w' => e = .returned (.bool true) ∧ Below w.heap.size w w' := by
  have HA := Lib.hid (alive_any w ht)
  have CA := Lib.hid (fun X (hb : Below w.heap.size w X) => runes_any o n cap l X (hx.below hb) (ht.step hb) (by omega))
  have CB := Lib.hid (fun X (hb : Below w.heap.size w X) => refRunes_any o n cap l X (hx.below hb) (by omega))
  have hmx : cap ≤ 9223372036854775807 := hx.max
  have hle := hx.le
  generalize gl.runes l = E at *
  clear hx ht
  go_enter Tryd.func3, Tryd.ntmps3
  go_wp2_with fail
  refine HA.out.mono ?_
  rintro e w1 ⟨rfl, hb1⟩
  have HB1 := Lib.hid hb1
  have hs1 : w.heap.size ≤ w1.heap.size := hb1.size
  clear hb1 HA
  go_wp2_with fail
  refine (CA.out _ HB1.out).mono ?_
  rintro e w2 ⟨ro, k, rc, rfl, hO2, hb2⟩
  have HO2 := Lib.hid hO2
  have HB2 := Lib.hid (HB1.out.trans (hb2.mono HB1.out.size))
  have HLT := Lib.hid (fun a ha => (hO2.lt a ha).2)
  have hkc : k ≤ rc := hO2.nums.le
  have hkm : rc ≤ 9223372036854775807 := hO2.nums.max
  clear hO2 hb2
  go_wp2_with fail
  refine (CB.out _ HB2.out).mono ?_
  rintro e w3 ⟨ro', k', rc', rfl, hO3, hb3⟩
  have HO3 := Lib.hid (HO2.out.below hb3)
  have HB3 := Lib.hid (HB2.out.trans (hb3.mono HB2.out.size))
  have SA := Lib.hid (same_runes ro k rc E ro' k' rc' E w3 HO3.out.nums hO3.nums)
  rw [show decide (E = E) = true by simp] at SA
  clear hO3 hb3 HO2
  go_wp2_with fail
  refine SA.out.mono ?_
  rintro e w4 ⟨rfl, nq, hw4⟩
  have HB4 := Lib.hid (show Below w.heap.size w w4 from hw4 ▸ below_drewN HB3.out nq)
  have HO4 := Lib.hid (show Own w4 w1.heap.size 21 .i32 ro k rc E from HO3.out.below (hw4 ▸ below_drewN (Below.refl _ _) nq))
  have hs4 : w.heap.size ≤ w4.heap.size := HB4.out.size
  clear hw4 SA HO3 HB3 HB2 HB1
  go_wp2_with fail
  go_loopg [16] k (fun gg s16 wr => ∃ j : Nat, s16 = .int .i64 j ∧ j ≤ k ∧ k - j ≤ gg ∧ Hid (∃ ys, Spoil w4 wr w1.heap.size 21 ro k rc ys))
  case atStart => exact ⟨0, rfl, Nat.zero_le _, by omega, Lib.hid ⟨_, Spoil.start HO4.out⟩⟩
  case round =>
    obtain ⟨j, rfl, hj, hgg, HS⟩ := hrel
    obtain ⟨ys, hS⟩ := HS.out
    clear HS
    by_cases hlt : j < k
    · obtain ⟨g, rfl, hc, hf, hN⟩ := hS.next hlt 7
      have HN := Lib.hid hN
      generalize ys.getD j 0 = y at *
      clear hN hS
      go_wp2_with fail
      go_roundg (k - (j + 1))
      case measure => omega
      case rel => exact ⟨j + 1, by go_num, by omega, Nat.le_refl _, Lib.hid ⟨_, HN.out⟩⟩
    · obtain rfl : j = k := by omega
      have HBR := Lib.hid (HB4.out.trans (hS.bel hs1 hs4))
      clear hS
      go_wp2_with fail
      refine (CA.out _ HBR.out).mono ?_
      rintro e w5 ⟨ro5, k5, rc5, rfl, hO5, hb5⟩
      have HB5 := Lib.hid (HBR.out.trans (hb5.mono HBR.out.size))
      have HO5 := Lib.hid hO5
      clear hO5 hb5
      go_wp2_with fail
      refine (CB.out _ HB5.out).mono ?_
      rintro e w6 ⟨ro6, k6, rc6, rfl, hO6, hb6⟩
      have HB6 := Lib.hid (HB5.out.trans (hb6.mono HB5.out.size))
      have SA := Lib.hid (same_runes ro5 k5 rc5 E ro6 k6 rc6 E w6 (HO5.out.below hb6).nums hO6.nums)
      rw [show decide (E = E) = true by simp] at SA
      clear hO6 hb6 HO5
      go_wp2_with fail
      refine SA.out.mono ?_
      rintro e w7 ⟨rfl, nq7, hw7⟩
      have HB7 := Lib.hid (show Below w.heap.size w w7 from hw7 ▸ below_drewN HB6.out nq7)
      clear hw7
      go_wp2_with fail
      go_ret
      exact ⟨rfl, HB7.out⟩
end Go.Proofs.YtknkmfofjbpdbaaDoor
