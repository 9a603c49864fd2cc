/- The walk of GlyphWrites. -/
import Derived.Test.YtknkmfofjbpdbaaDoorGlEncM
import Derived.Test.YtknkmfofjbpdbaaDoorGlAlive
import Derived.Test.YtknkmfofjbpdbaaDoorGlRefBytes
namespace Go.Proofs.YtknkmfofjbpdbaaDoor
open Go.RowKit

theorem encs_flat (l : List Int) : encs l = l.flatMap Lib.encodeRune := rfl
theorem fix_isR (r : Int) : gl.fix r = if isR r = true then r else 65533 := by
  unfold gl.fix isR
  simp
set_option maxRecDepth 100000 in
set_option maxHeartbeats 1600000 in
theorem writes_any (o : Option Addr) (n cap : Nat) (zs : List Int) (o' : Option Addr) (n' cap' : Nat) (l : List UInt8) (w : World) (ht : UTabs w) (hz : SliceN w o n cap zs) (hx : Bts w o' n' cap' l) (hn : n ≤ 1048576) (hn' : n' ≤ 1048576) :
    Calls Tryd.prog 6 #[.slice o n cap, .slice o' n' cap'] w fun e w' => e = .returned (.bool true) ∧ Below w.heap.size w w' := by
  have HA := Lib.hid (alive_any w ht)
  have CA := Lib.hid (fun X (hb : Below w.heap.size w X) => bytes_any o n cap zs X (hz.below hb (Nat.le_refl _)) (by omega))
  have CB := Lib.hid (fun X (hb : Below w.heap.size w X) => refBytes_any o n cap zs X (hz.below hb (Nat.le_refl _)) (by omega))
  have CR := Lib.hid (fun X (hb : Below w.heap.size w X) => runes_any o' n' cap' l X (hx.below hb) (ht.step hb) (by omega))
  have hmx : cap ≤ 9223372036854775807 := hz.max
  have hle := hz.le
  have hlz := hz.len
  have hl4 := (encs_len zs).2
  rw [hlz] at hl4
  have hrl := gl.runes_len l
  rw [hx.size] at hrl
  have hre := gl.runes_encs zs
  rw [← encs_flat] at hre
  have HZ := Lib.hid hz; have HT := Lib.hid ht; have HL := Lib.hid hlz; have HRE := Lib.hid hre
  have HRL := Lib.hid hrl; have HL4 := Lib.hid hl4
  clear hz hx ht hlz hre hrl hl4
  go_enter Tryd.func6, Tryd.ntmps6
  go_wp2_with fail
  refine HA.out.mono ?_
  rintro e w1 ⟨rfl, hb1⟩
  have HB1 := Lib.hid hb1
  clear hb1 HA
  go_wp2_with fail
  refine (CA.out _ HB1.out).mono ?_
  rintro e w2 ⟨ro, m, rc, rfl, hO2, hb2⟩
  have HO2 := Lib.hid hO2
  have HB2 := Lib.hid (HB1.out.trans (hb2.mono HB1.out.size))
  clear hO2 hb2
  go_wp2_with fail
  refine (CB.out _ HB2.out).mono ?_
  rintro e w3 ⟨ro', m', rc', rfl, hO3, hb3⟩
  have HO3 := Lib.hid (HO2.out.below hb3)
  have HB3 := Lib.hid (HB2.out.trans (hb3.mono HB2.out.size))
  have SA := Lib.hid (same_bytes ro m rc (u8s (encs zs)) ro' m' rc' (u8s (encs zs)) w3 HO3.out.nums hO3.nums)
  rw [show decide (u8s (encs zs) = u8s (encs zs)) = true by simp] at SA
  clear hO3 hb3 HO2
  go_wp2_with fail
  refine SA.out.mono ?_
  rintro e w4 ⟨rfl, nq, hw4⟩
  have HB4 := Lib.hid (show Below w.heap.size w w4 from hw4 ▸ below_drewN HB3.out nq)
  have hbt : Bts w4 ro m rc (encs zs) := HO3.out.nums.below (hw4 ▸ below_drewN (Below.refl _ _) nq)
  have hm4 : m ≤ 4194304 := by have := hbt.size; have := HL4.out; omega
  have CW := Lib.hid (runes_any ro m rc (encs zs) w4 hbt (HT.out.step HB4.out) (by omega))
  rw [HRE.out] at CW
  clear hw4 SA hbt HO3
  go_wp2_with fail
  refine CW.out.mono ?_
  rintro e w5 ⟨bo, bn, bc, rfl, hO5, hb5⟩
  obtain rfl : bn = n := by have := hO5.len; rw [List.length_map, HL.out] at this; exact this.symm
  have HO5 := Lib.hid hO5.nums
  have hs4 : w.heap.size ≤ w4.heap.size := HB4.out.size
  have HB5 := Lib.hid (HB4.out.trans (hb5.mono hs4))
  have hbc : bn ≤ bc := hO5.nums.le
  have hbm : bc ≤ 9223372036854775807 := hO5.nums.max
  clear hO5 hb5 CW
  go_wp2_with fail
  go_loopg [27] bn (fun gg s27 wr => ∃ k : Nat, s27 = .int .i64 k ∧ k ≤ bn ∧ bn - k ≤ gg ∧ Hid (∃ j, wr = w5.drewN j))
  case atStart => exact ⟨0, rfl, Nat.zero_le _, by omega, Lib.hid ⟨0, (World.drewN_zero _).symm⟩⟩
  case round =>
    obtain ⟨k, rfl, hk, hgg, HW⟩ := hrel
    obtain ⟨jj, hjj⟩ := HW.out
    have HBR := Lib.hid (show Below w.heap.size w wr from hjj ▸ below_drewN HB5.out jj)
    by_cases hlt : k < bn
    · obtain ⟨b, off, rfl, hb, k0⟩ := (HZ.out.below HBR.out (Nat.le_refl _)).one (k := k) hlt
      obtain ⟨b2, off2, rfl, hb2, k2⟩ := (show Nums .i32 wr bo bn bc (zs.map gl.fix) from hjj ▸ HO5.out.drewN jj).cell hlt
      have hlz : k < zs.length := by rw [HL.out]; exact hlt
      have hfx : (zs.map gl.fix).getD k 0 = gl.fix (zs.getD k 0) := by simp [List.getD, hlz]
      rw [hfx, fix_isR] at k2
      generalize zs.getD k 0 = z at *
      have HI : Hid (∀ W, Calls Tryd.prog 22 #[.int .i32 z] W fun e w' => e = .returned (.bool (isR z)) ∧ w' = W) := Lib.hid (fun W => (refIsRune_any z W).mono fun e w' h => ⟨h.1, h.2.symm⟩)
      have HJ := Lib.hid hjj
      clear hfx hlz hjj HW
      have hki : (k : Int) < (bn : Int) := by omega
      cases hr : isR z with
      | true =>
        rw [hr] at HI
        rw [if_pos hr] at k2
        clear hr
        go_wp2_with fail
        go_quiet ((go_at_call 22; exact Calls.quiet_of_same (HI.out _)))
        all_goals
          go_wp2_with fail
          go_roundg (bn - (k + 1))
          case measure => omega
          case rel => exact ⟨k + 1, by go_num, by omega, Nat.le_refl _, Lib.hid ⟨jj + nq, by rw [HJ.out, World.drewN_drewN]⟩⟩
      | false =>
        rw [hr] at HI
        rw [if_neg (by rw [hr]; simp)] at k2
        clear hr
        go_wp2_with fail
        go_quiet ((go_at_call 22; exact Calls.quiet_of_same (HI.out _)))
        all_goals
          go_wp2_with fail
          go_roundg (bn - (k + 1))
          case measure => omega
          case rel => exact ⟨k + 1, by go_num, by omega, Nat.le_refl _, Lib.hid ⟨jj + nq, by rw [HJ.out, World.drewN_drewN]⟩⟩
    · obtain rfl : k = bn := by omega
      clear HW hjj
      go_wp2_with fail
      refine (CR.out _ HBR.out).mono ?_
      rintro e w6 ⟨ro6, m6, rc6, rfl, hO6, hb6⟩
      have HB6 := Lib.hid (HBR.out.trans (hb6.mono HBR.out.size))
      have hm6 : m6 ≤ 1048576 := by have := hO6.len; have := HRL.out; omega
      have HO6 := Lib.hid hO6
      have CX := Lib.hid (bytes_any ro6 m6 rc6 (gl.runes l) w6 ⟨hO6.nums, fun z hz => by have := gl.runes_bound l z hz; omega⟩ (by omega))
      clear hO6 hb6 CR
      go_wp2_with fail
      refine CX.out.mono ?_
      rintro e w7 ⟨ro7, m7, rc7, rfl, hO7, hb7⟩
      have HB7 := Lib.hid (HB6.out.trans (hb7.mono HB6.out.size))
      have hbt : Bts w7 ro7 m7 rc7 (encs (gl.runes l)) := hO7.nums
      have hm7 : m7 ≤ 4194304 := by
        have h1 := hbt.size
        have h2 := (encs_len (gl.runes l)).2
        have h3 := HO6.out.len
        omega
      have CY := Lib.hid (runes_any ro7 m7 rc7 (encs (gl.runes l)) w7 hbt (HT.out.step HB7.out) (by omega))
      rw [encs_flat, gl.runes_encs, gl.runes_fix _ l (Nat.le_refl _)] at CY
      have HO7 := Lib.hid (HO6.out.below hb7)
      clear hO7 hb7 hbt CX HO6
      generalize gl.runes l = E at *
      go_wp2_with fail
      refine CY.out.mono ?_
      rintro e w8 ⟨ro8, m8, rc8, rfl, hO8, hb8⟩
      have HB8 := Lib.hid (HB7.out.trans (hb8.mono HB7.out.size))
      have SA := Lib.hid (same_runes ro8 m8 rc8 E ro6 m6 rc6 E w8 hO8.nums (HO7.out.below hb8).nums)
      rw [show decide (E = E) = true by simp] at SA
      clear hO8 hb8 HO7 CY
      go_wp2_with fail
      refine SA.out.mono ?_
      rintro e w9 ⟨rfl, nq9, hw9⟩
      have HB9 := Lib.hid (show Below w.heap.size w w9 from hw9 ▸ below_drewN HB8.out nq9)
      clear hw9
      go_wp2_with fail
      go_ret
      exact ⟨rfl, HB9.out⟩
end Go.Proofs.YtknkmfofjbpdbaaDoor
