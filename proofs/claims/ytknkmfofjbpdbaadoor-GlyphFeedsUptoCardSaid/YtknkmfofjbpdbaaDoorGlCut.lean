/- Cut: the longest beginning that fits. -/
import Derived.Test.YtknkmfofjbpdbaaDoorGlOwn2
import Derived.Test.YtknkmfofjbpdbaaDoorTotal
namespace Go.Proofs.YtknkmfofjbpdbaaDoor
open Go.RowKit

/-- the sum of widths -/
def sumW (l : List Int) : Int := (l.map wd).sum
theorem wd_bound (r : Int) : 0 ≤ wd r ∧ wd r ≤ 2 := by
  unfold wd
  split
  · omega
  · split <;> omega
theorem sumW_cons (r : Int) (l : List Int) : sumW (r :: l) = wd r + sumW l := by simp [sumW]
theorem sumW_append (l r : List Int) : sumW (l ++ r) = sumW l + sumW r := by simp [sumW]
theorem sumW_bound : ∀ l : List Int, 0 ≤ sumW l ∧ sumW l ≤ 2 * l.length
  | [] => by simp [sumW]
  | r :: l => by
    have h1 := wd_bound r
    have h2 := sumW_bound l
    rw [sumW_cons]
    simp only [List.length_cons]
    omega
theorem tot_eq' : ∀ (l : List Int) (T : Int), 0 ≤ T → T + 2 * l.length ≤ 4611686018427387904 → l.foldl (fun a r => wrap64 (a + wd r)) T = T + sumW l
  | [], T, _, _ => by simp [sumW]
  | r :: l, T, h0, h1 => by
    have hb := wd_bound r
    simp only [List.length_cons] at h1
    have hw : wrap64 (T + wd r) = T + wd r := by unfold wrap64; omega
    rw [List.foldl_cons, hw, tot_eq' l _ (by omega) (by omega), sumW_cons]
    omega
theorem tot_eq (l : List Int) (h : l.length ≤ 1152921504606846976) : tot l = sumW l := by
  unfold tot
  rw [tot_eq' l 0 (Int.le_refl _) (by omega)]
  omega
/-- how many runes fit behind T -/
def cutK : List Int → Int → Int → Nat
  | [], _, _ => 0
  | r :: l, w, T => if w < T + wd r then 0 else cutK l w (T + wd r) + 1
theorem cutK_le : ∀ (l : List Int) (w T : Int), cutK l w T ≤ l.length
  | [], _, _ => Nat.le_refl _
  | r :: l, w, T => by
    unfold cutK
    split
    · omega
    · have := cutK_le l w (T + wd r)
      simp only [List.length_cons]
      omega
theorem drop_getD (L : List Int) (k : Nat) (h : k < L.length) : L.drop k = L.getD k 0 :: L.drop (k + 1) := by
  rw [List.drop_eq_getElem_cons h]; simp [List.getD, h]

theorem cutK_drop (zs : List Int) (wi : Int) (k : Nat) (T : Int) (hk : k < zs.length) (hT : T = sumW (zs.take k)) (h : cutK zs wi 0 = k + cutK (zs.drop k) wi T) :
    (wi < T + wd (zs.getD k 0) → cutK zs wi 0 = k) ∧ (T + wd (zs.getD k 0) ≤ wi → cutK zs wi 0 = k + 1 + cutK (zs.drop (k + 1)) wi (T + wd (zs.getD k 0))) ∧ T + wd (zs.getD k 0) = sumW (zs.take (k + 1)) := by
  refine ⟨fun hlt => ?_, fun hle => ?_, ?_⟩
  · rw [h, drop_getD zs k hk]; unfold cutK; rw [if_pos hlt]; rfl
  · rw [h, drop_getD zs k hk]; conv => lhs; unfold cutK
    rw [if_neg (by omega)]; omega
  · rw [take_snoc zs k hk, sumW_append, hT]; simp [sumW]

set_option maxRecDepth 100000 in
set_option maxHeartbeats 1600000 in
theorem cut_any (o : Option Addr) (n cap : Nat) (zs : List Int) (wi : Int) (w : World) (hz : SliceN w o n cap zs) (hn : n ≤ 35184372088832) :
    Calls Tryd.prog 27 #[.slice o n cap, .int .i64 wi] w fun e w' => ∃ ro rc, e = .returned (.tuple #[.slice ro (cutK zs wi 0) rc, .int .i64 (sumW (zs.take (cutK zs wi 0)))]) ∧ Own w' w.heap.size 21 .i32 ro (cutK zs wi 0) rc (zs.take (cutK zs wi 0)) ∧ Below w.heap.size w w' := by
  obtain ⟨i0, hi, hz0, hz1, hz2⟩ := info_parts infoR
  have hmx : cap ≤ 9223372036854775807 := hz.max
  have hle := hz.le
  have HZ := Lib.hid hz; clear hz
  go_enter Tryd.func27, Tryd.ntmps27
  go_wp2_with fail
  go_loopg [6, 7, 13] n (fun gg s6 s7 s13 wr => ∃ (k : Nat) (T : Int) (ro : Option Addr) (rc : Nat), s13 = .int .i64 k ∧ s7 = .int .i64 T ∧ s6 = .slice ro k rc ∧ k ≤ n ∧ n - k ≤ gg ∧ 0 ≤ T ∧ T ≤ 2 * (k : Int) ∧ Hid (T = sumW (zs.take k)) ∧ Hid (cutK zs wi 0 = k + cutK (zs.drop k) wi T) ∧ Hid (Own wr w.heap.size 21 .i32 ro k rc (zs.take k)) ∧ Hid (Below w.heap.size w wr))
  case atStart => exact ⟨0, 0, none, 0, rfl, rfl, rfl, Nat.zero_le _, by omega, Int.le_refl _, by omega, Lib.hid rfl, Lib.hid (by simp), Lib.hid (Own.nil _ _ _ _), Lib.hid (Below.refl _ _)⟩
  case round =>
    obtain ⟨k, T, ro, rc, rfl, rfl, rfl, hk, hgg, hT0, hT1, HT, HK, HO, HB⟩ := hrel
    by_cases hlt : k < n
    · have hbw : Below w.heap.size w wr := HB.out
      obtain ⟨b, off, rfl, hb, k0⟩ := (HZ.out.below hbw (Nat.le_refl _)).one (k := k) hlt
      have hlz : k < zs.length := by rw [HZ.out.len]; exact hlt
      obtain ⟨q1, q2, q3⟩ := cutK_drop zs wi k T hlz HT.out HK.out
      have hts := take_snoc zs k hlz
      have hd := wd_bound (zs.getD k 0)
      generalize zs.getD k 0 = z at *
      have hwd := width_any z
      generalize wd z = d at *
      have HQ1 := Lib.hid q1; have HQ2 := Lib.hid q2; have HQ3 := Lib.hid q3; have HTS := Lib.hid hts; have HW := Lib.hid hwd
      clear q1 q2 q3 hts hwd hbw
      go_wp2_with fail
      refine (HW.out _).mono ?_
      rintro e w2 ⟨rfl, hb2⟩
      have HB2 := Lib.hid (HB.out.trans (hb2.mono HB.out.size))
      have HO2 := Lib.hid (HO.out.below hb2)
      have hs2 : w.heap.size ≤ w2.heap.size := HB2.out.size
      clear k0 hb hb2
      by_cases hgt : wi < T + d
      · go_wp2_with fail
        go_ret2
        have hc := HQ1.out hgt
        rw [hc, ← HT.out]
        exact ⟨ro, rc, rfl, HO2.out, HB2.out⟩
      · go_wp2_with (at_builtin; refine wpList_append_big (K := .i32) rfl _ _ 24 rfl w.heap.size 21 i0 (Value.int .i32 0) 4 Tryd.underlying24 hi hz0 hz1 hz2 rfl (.slice ro k rc) k (zs.take k) rfl ?c1 (some ⟨w2.heap.size, 0, none⟩) 1 1 [z] rfl ?c0 ?c2 ?c4 ?c3 ?_)
        case c1 => exact HO2.out.row.alloc _
        case c0 => exact nums_one w2 z _
        case c2 => omega
        case c4 => omega
        case c3 => simp; omega
        intro v' w3 hr3 hg3 _
        obtain ⟨ro', rc', rfl, hO3⟩ := Own.of (K := .i32) (xs := zs.take k ++ [z]) (by simpa [cs, List.map_take] using hr3)
        have HB3 : Hid (Below w.heap.size w w3) := Lib.hid ((HB2.out.alloc hs2 _).trans (grown_below hg3 (HO2.out.row.alloc _) (by simp; omega)))
        have HO3 : Hid (Own w3 w.heap.size 21 .i32 ro' (k + 1) rc' (zs.take (k + 1))) := Lib.hid (by rw [HTS.out]; exact hO3)
        have HK3 : Hid (cutK zs wi 0 = (k + 1 : Nat) + cutK (zs.drop (k + 1)) wi (T + d)) := Lib.hid (HQ2.out (by omega))
        clear hr3 hg3 hO3
        go_wp2_with fail
        go_roundg (n - (k + 1))
        case measure => omega
        case rel => exact ⟨k + 1, T + d, ro', rc', by go_num, rfl, rfl, by omega, Nat.le_refl _, by omega, by omega, HQ3, HK3, HO3, HB3⟩
    · obtain rfl : k = n := by omega
      have hc : cutK zs wi 0 = k := by have := HK.out; rw [List.drop_of_length_le (by rw [HZ.out.len]; exact Nat.le_refl _)] at this; simpa [cutK] using this
      have HC := Lib.hid hc; clear hc
      go_wp2_with fail
      go_ret2
      rw [HC.out, ← HT.out]
      exact ⟨ro, rc, rfl, HO.out, HB.out⟩
end Go.Proofs.YtknkmfofjbpdbaaDoor
