/- The document's Cut. -/
import Derived.Test.YtknkmfofjbpdbaaDoorGlCut
namespace Go.Proofs.YtknkmfofjbpdbaaDoor
open Go.RowKit

theorem own_made0 {w : World} {B : Nat} (cap : Nat) (cur : Array Value) (hB : B ≤ w.heap.size) (hm : cap ≤ maxLen) (hs : cur.size = cap) (T : TypeId) (K : IntKind) :
    Own (w.alloc (.cells cur T)) B T K (some ⟨w.heap.size, 0, none⟩) 0 cap [] :=
  ⟨World.ownsRow_made w cur cap hB hm (by omega)⟩
set_option maxRecDepth 100000 in
set_option maxHeartbeats 1600000 in
theorem refCut_any (o : Option Addr) (n cap : Nat) (zs : List Int) (wi : Int) (w : World) (hz : SliceN w o n cap zs) (hn : n ≤ 35184372088832) :
    Calls Tryd.prog 28 #[.slice o n cap, .int .i64 wi] w fun e w' => ∃ ro rc, e = .returned (.tuple #[.slice ro (cutK zs wi 0) rc, .int .i64 (sumW (zs.take (cutK zs wi 0)))]) ∧ Own w' w.heap.size 21 .i32 ro (cutK zs wi 0) rc (zs.take (cutK zs wi 0)) ∧ Below w.heap.size w w' := by
  obtain ⟨i0, hi, hz0, hz1, hz2⟩ := info_parts infoR
  have hmx : cap ≤ 9223372036854775807 := hz.max
  have hle := hz.le
  have HZ := Lib.hid hz; clear hz
  have HO0 := Lib.hid (own_made0 (w := w) (B := w.heap.size) 0 #[] (Nat.le_refl _) (by unfold maxLen; omega) rfl 21 .i32)
  have HB0 := Lib.hid ((Below.refl w.heap.size w).alloc (Nat.le_refl _) (.cells #[] 21))
  go_enter Tryd.func28, Tryd.ntmps28
  go_wp2_with fail
  go_loopg [6, 7, 8] n (fun gg s6 s7 s8 wr => ∃ (k : Nat) (T : Int) (ro : Option Addr) (rc : Nat), s8 = .int .i64 k ∧ s6 = .int .i64 T ∧ s7 = .slice ro k rc ∧ k ≤ n ∧ n - k ≤ gg ∧ 0 ≤ T ∧ T ≤ 2 * (k : Int) ∧ Hid (T = sumW (zs.take k)) ∧ Hid (cutK zs wi 0 = k + cutK (zs.drop k) wi T) ∧ Hid (Own wr w.heap.size 21 .i32 ro k rc (zs.take k)) ∧ Hid (Below w.heap.size w wr))
  case atStart => exact ⟨0, 0, _, 0, rfl, rfl, rfl, Nat.zero_le _, by omega, Int.le_refl _, by omega, Lib.hid rfl, Lib.hid (by simp), HO0, HB0⟩
  case round =>
    clear HO0 HB0
    obtain ⟨k, T, ro, rc, rfl, rfl, rfl, hk, hgg, hT0, hT1, HT, HK, HO, HB⟩ := hrel
    by_cases hlt : k < n
    · have hbw : Below w.heap.size w wr := HB.out
      obtain ⟨b, off, rfl, hb, k0⟩ := (HZ.out.below hbw (Nat.le_refl _)).one (k := k) hlt
      have hlz : k < zs.length := by rw [HZ.out.len]; exact hlt
      obtain ⟨q1, q2, q3⟩ := cutK_drop zs wi k T hlz HT.out HK.out
      have hts := take_snoc zs k hlz
      have hd := wd_bound (zs.getD k 0)
      have h32 := HZ.out.i32 (zs.getD k 0) (by simp [List.getD, hlz])
      generalize zs.getD k 0 = z at *
      have hwd := refWidth_any z h32
      generalize wd z = d at *
      have HQ1 := Lib.hid q1; have HQ2 := Lib.hid q2; have HQ3 := Lib.hid q3; have HTS := Lib.hid hts; have HW := Lib.hid hwd
      have hsr : w.heap.size ≤ wr.heap.size := hbw.size
      clear q1 q2 q3 hts hwd hbw h32
      go_wp2_with fail
      refine (HW.out _).mono ?_
      rintro e w2 ⟨rfl, rfl⟩
      by_cases hw0 : wi < 0
      · go_wp2_with fail
        go_ret2
        have hc := HQ1.out (by omega)
        rw [hc, ← HT.out]
        exact ⟨ro, rc, rfl, HO.out, HB.out⟩
      by_cases hgt : wi < T + d
      · go_wp2_with fail
        go_ret2
        have hc := HQ1.out hgt
        rw [hc, ← HT.out]
        exact ⟨ro, rc, rfl, HO.out, HB.out⟩
      · go_wp2_with (at_builtin; refine wpList_append_big (K := .i32) rfl _ _ 24 rfl w.heap.size 21 i0 (Value.int .i32 0) 4 Tryd.underlying24 hi hz0 hz1 hz2 rfl (.slice ro k rc) k (zs.take k) rfl ?c1 (some ⟨wr.heap.size, 0, none⟩) 1 1 [z] rfl ?c0 ?c2 ?c4 ?c3 ?_)
        case c1 => exact HO.out.row.alloc _
        case c0 => exact nums_one wr z _
        case c2 => omega
        case c4 => omega
        case c3 => simp; omega
        intro v' w3 hr3 hg3 _
        obtain ⟨ro', rc', rfl, hO3⟩ := Own.of (K := .i32) (xs := zs.take k ++ [z]) (by simpa [cs, List.map_take] using hr3)
        have HB3 : Hid (Below w.heap.size w w3) := Lib.hid ((HB.out.alloc hsr _).trans (grown_below hg3 (HO.out.row.alloc _) (by simp; omega)))
        have HO3 : Hid (Own w3 w.heap.size 21 .i32 ro' (k + 1) rc' (zs.take (k + 1))) := Lib.hid (by rw [HTS.out]; exact hO3)
        have HK3 : Hid (cutK zs wi 0 = (k + 1 : Nat) + cutK (zs.drop (k + 1)) wi (T + d)) := Lib.hid (HQ2.out (by omega))
        clear hr3 hg3 hO3
        go_wp2_with fail
        go_roundg (n - (k + 1))
        case measure => omega
        case rel => exact ⟨k + 1, T + d, ro', rc', by go_num, rfl, rfl, by omega, Nat.le_refl _, by omega, by omega, HQ3, HK3, HO3, HB3⟩
    · obtain rfl : k = n := by omega
      have hc : cutK zs wi 0 = k := by have := HK.out; rw [List.drop_of_length_le (by rw [HZ.out.len]; exact Nat.le_refl _)] at this; simpa [cutK] using this
      have HC := Lib.hid hc; clear hc
      go_wp2_with fail
      go_ret2
      rw [HC.out, ← HT.out]
      exact ⟨ro, rc, rfl, HO.out, HB.out⟩
end Go.Proofs.YtknkmfofjbpdbaaDoor
