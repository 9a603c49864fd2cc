/- The walk of GlyphWidths. -/
import Derived.Test.YtknkmfofjbpdbaaDoorGlAlive
namespace Go.Proofs.YtknkmfofjbpdbaaDoor
open Go.RowKit

set_option maxRecDepth 100000 in
set_option maxHeartbeats 1600000 in
theorem widths_any (r : Int) (o : Option Addr) (n cap : Nat) (zs : List Int) (w : World) (ht : UTabs w) (hr : -2147483648 ≤ r ∧ r ≤ 2147483647) (hz : SliceN w o n cap zs) (_hb : n * 4 ≤ reachBytes) :
    Calls Tryd.prog 7 #[.int .i32 r, .slice o n cap] w fun e w' => e = .returned (.bool true) ∧ Below w.heap.size w w' := by
  have hmx : cap ≤ 9223372036854775807 := hz.max
  have hle := hz.le
  have HZ := Lib.hid hz; have HR := Lib.hid hr; have HA := Lib.hid (alive_any w ht)
  clear hz hr ht _hb
  go_enter Tryd.func7, Tryd.ntmps7
  go_wp2_with fail
  refine HA.out.mono ?_
  rintro e w1 ⟨rfl, hb1⟩
  have HB1 := Lib.hid hb1
  clear hb1 HA
  go_wp2_with fail
  go_loopg [11] n (fun gg s11 wr => ∃ k : Nat, s11 = .int .i64 k ∧ k ≤ n ∧ n - k ≤ gg ∧ Hid (Below w.heap.size w wr))
  case atStart => exact ⟨0, rfl, Nat.zero_le _, by omega, HB1⟩
  case round =>
    obtain ⟨k, rfl, hk, hgg, HB⟩ := hrel
    by_cases hlt : k < n
    · obtain ⟨b, off, rfl, hb, k0⟩ := (HZ.out.below HB.out (Nat.le_refl _)).one (k := k) hlt
      have h32 := HZ.out.i32 (zs.getD k 0) (by have : k < zs.length := by rw [HZ.out.len]; exact hlt
                                               simp [List.getD, this])
      generalize zs.getD k 0 = z at *
      have HW := Lib.hid (fun X => width_any z X)
      have HV := Lib.hid (fun X => refWidth_any z h32 X)
      generalize wd z = d at *
      clear h32
      go_wp2_with fail
      refine (HW.out _).mono ?_
      rintro e w2 ⟨rfl, hb2⟩
      have HB2 := Lib.hid (HB.out.trans (hb2.mono HB.out.size))
      clear hb2 k0 hb
      go_wp2_with fail
      refine (HV.out _).mono ?_
      rintro e w3 ⟨rfl, rfl⟩
      go_wp2_with fail
      go_roundg (n - (k + 1))
      case measure => omega
      case rel => exact ⟨k + 1, by go_num, by omega, Nat.le_refl _, HB2⟩
    · obtain rfl : k = n := by omega
      have HW := Lib.hid (fun X => width_any r X)
      have HV := Lib.hid (fun X => refWidth_any r HR.out X)
      have HT := Lib.hid (fun X (hb : Below wr.heap.size wr X) => total_any o k cap zs X (HZ.out.below (HB.out.trans (hb.mono HB.out.size)) (Nat.le_refl _)))
      have HU := Lib.hid (fun X (hb : Below wr.heap.size wr X) => refTotal_any o k cap zs X (HZ.out.below (HB.out.trans (hb.mono HB.out.size)) (Nat.le_refl _)))
      generalize wd r = d at *
      generalize tot zs = T at *
      go_wp2_with fail
      refine (HW.out _).mono ?_
      rintro e w2 ⟨rfl, hb2⟩
      go_wp2_with fail
      refine (HV.out _).mono ?_
      rintro e w3 ⟨rfl, rfl⟩
      have HB2 := Lib.hid hb2
      clear hb2
      go_wp2_with fail
      refine (HT.out _ HB2.out).mono ?_
      rintro e w3 ⟨rfl, hb3⟩
      have HB3 := Lib.hid (HB2.out.trans (hb3.mono HB2.out.size))
      clear hb3
      go_wp2_with fail
      refine (HU.out _ HB3.out).mono ?_
      rintro e w4 ⟨rfl, hb4⟩
      have HB4 := Lib.hid (HB.out.trans ((HB3.out.trans (hb4.mono HB3.out.size)).mono HB.out.size))
      clear hb4
      go_wp2_with fail
      go_ret
      exact ⟨rfl, HB4.out⟩
end Go.Proofs.YtknkmfofjbpdbaaDoor
