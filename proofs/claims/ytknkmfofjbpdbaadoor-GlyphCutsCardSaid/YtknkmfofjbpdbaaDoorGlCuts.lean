/- The walk of GlyphCuts. -/
import Derived.Test.YtknkmfofjbpdbaaDoorGlSpoil
import Derived.Test.YtknkmfofjbpdbaaDoorGlRefCut
namespace Go.Proofs.YtknkmfofjbpdbaaDoor
open Go.RowKit

theorem cutK_more : ∀ (l : List Int) (w T : Int), cutK l w T < l.length → T ≤ w → w < T + sumW (l.take (cutK l w T + 1))
  | [], w, T, h, _ => by simp at h
  | r :: l, w, T, h, ht => by
    unfold cutK at h ⊢
    split
    · rename_i hlt
      rw [List.take_succ_cons, sumW_cons]
      simp [sumW]
      exact hlt
    · rename_i hge
      rw [if_neg hge] at h
      have := cutK_more l w (T + wd r) (by simpa using h) (by omega)
      rw [List.take_succ_cons, sumW_cons]
      omega
theorem SliceN.hi {w : World} {o : Option Addr} {n cap : Nat} {zs : List Int} (h : SliceN w o n cap zs) (l : Nat) (hl : l ≤ n) : SliceN w o l cap (zs.take l) :=
  ⟨(slice_hi_r h.nums l hl l rfl).2, fun z hz => h.i32 z (List.mem_of_mem_take hz)⟩

set_option maxRecDepth 100000 in
set_option maxHeartbeats 1600000 in
theorem cuts_any (o : Option Addr) (n cap : Nat) (zs : List Int) (wi : Int) (w : World) (ht : UTabs w) (hz : SliceN w o n cap zs) (_hwi : I64 wi) (hb : n * 4 ≤ reachBytes) :
    Calls Tryd.prog 8 #[.slice o n cap, .int .i64 wi] w fun e w' => e = .returned (.bool true) ∧ Below w.heap.size w w' := by
  have hn : n ≤ 35184372088832 := by have := reachBytes_lt; omega
  have hmx : cap ≤ 9223372036854775807 := hz.max
  have hle := hz.le
  have hlen := hz.len
  have HA := Lib.hid (alive_any w ht)
  have hck := cutK_le zs wi 0
  rw [hlen] at hck
  have hq := tot_eq (zs.take (cutK zs wi 0)) (by rw [List.length_take]; omega)
  have hmore : cutK zs wi 0 < n → 0 ≤ wi → wi < tot (zs.take (cutK zs wi 0 + 1)) := fun h1 h2 => by
    rw [tot_eq _ (by rw [List.length_take]; omega)]
    have := cutK_more zs wi 0 (by omega) h2
    omega
  have CA := Lib.hid (fun X (hb : Below w.heap.size w X) => cut_any o n cap zs wi X (hz.below hb (Nat.le_refl _)) hn)
  have CB := Lib.hid (fun X (hb : Below w.heap.size w X) => refCut_any o n cap zs wi X (hz.below hb (Nat.le_refl _)) hn)
  have TM := Lib.hid (fun X (hb : Below w.heap.size w X) (h : cutK zs wi 0 + 1 ≤ n) => total_any o (cutK zs wi 0 + 1) cap (zs.take (cutK zs wi 0 + 1)) X ((hz.below hb (Nat.le_refl _)).hi _ h))
  have hE32 : ∀ z ∈ zs.take (cutK zs wi 0), -2147483648 ≤ z ∧ z ≤ 2147483647 := fun z hz' => hz.i32 z (List.mem_of_mem_take hz')
  have hS := sumW_bound (zs.take (cutK zs wi 0))
  rw [List.length_take, Nat.min_eq_left (by omega)] at hS
  generalize sumW (zs.take (cutK zs wi 0)) = S at *
  generalize tot (zs.take (cutK zs wi 0 + 1)) = TT at *
  have HE32 := Lib.hid hE32; have HQ := Lib.hid hq; have HM := Lib.hid hmore
  generalize zs.take (cutK zs wi 0) = E at *
  generalize cutK zs wi 0 = k at *
  obtain ⟨hS0, hS1⟩ := hS
  clear hz ht hE32 hq hmore hlen hb
  go_enter Tryd.func8, Tryd.ntmps8
  go_wp2_with fail
  refine HA.out.mono ?_
  rintro e w1 ⟨rfl, hb1⟩
  have HB1 := Lib.hid hb1
  clear hb1 HA
  go_wp2_with fail
  refine (CA.out _ HB1.out).mono ?_
  rintro e w2 ⟨ro, rc, rfl, hO2, hb2⟩
  have HO2 := Lib.hid hO2
  have HB2 := Lib.hid (HB1.out.trans (hb2.mono HB1.out.size))
  have hs1 : w.heap.size ≤ w1.heap.size := HB1.out.size
  clear hO2 hb2
  go_wp2_with fail
  refine (CB.out _ HB2.out).mono ?_
  rintro e w3 ⟨ro', rc', rfl, hO3, hb3⟩
  have HP3 := Lib.hid hO3
  have HO3 := Lib.hid (HO2.out.below hb3)
  have HB3 := Lib.hid (HB2.out.trans (hb3.mono HB2.out.size))
  have HLT := Lib.hid (fun a ha => (HO2.out.lt a ha).2)
  clear hO3 hb3
  have SA := Lib.hid (same_runes ro k rc E ro' k rc' E w3 HO3.out.nums HP3.out.nums)
  rw [show decide (E = E) = true by simp] at SA
  have TA := Lib.hid (fun X (hb : Below w3.heap.size w3 X) => total_any ro k rc E X ⟨HO3.out.nums.below hb, HE32.out⟩)
  rw [HQ.out] at TA
  go_wp2_with fail
  refine SA.out.mono ?_
  rintro e w4 ⟨rfl, nq, hw4⟩
  have HB4 := Lib.hid (show Below w3.heap.size w3 w4 from hw4 ▸ below_drewN (Below.refl _ _) nq)
  clear hw4 SA
  go_wp2_with fail
  refine (TA.out _ HB4.out).mono ?_
  rintro e w5 ⟨rfl, hb5⟩
  have HB5 := Lib.hid (HB4.out.trans (hb5.mono HB4.out.size))
  clear hb5
  have hways : (k < n ∧ 0 ≤ wi) ∨ (k < n ∧ wi < 0) ∨ n ≤ k := by omega
  clear TA
  rcases hways with ⟨hkn, hw0⟩ | ⟨hkn, hw0⟩ | hkn
  · have hkn' : (k : Int) < (n : Int) := by omega
    have TM1 := Lib.hid (TM.out _ (HB3.out.trans (HB5.out.mono HB3.out.size)) (by omega))
    have hm := HM.out hkn hw0
    clear TM
    go_wp2_with fail
    refine TM1.out.mono ?_
    rintro e w6 ⟨rfl, hb6⟩
    have HB6 := Lib.hid (HB5.out.trans (hb6.mono HB5.out.size))
    clear hb6 TM1 HB5 HB4
    go_wp2_with fail
    have HO6 := Lib.hid (HO3.out.below HB6.out)
    have HP6 := Lib.hid (HP3.out.below HB6.out)
    have hs6 : w.heap.size ≤ w6.heap.size := Nat.le_trans HB3.out.size HB6.out.size
    have HBB := Lib.hid (HB3.out.trans (HB6.out.mono HB3.out.size))
    clear HB6 HO3 HP3 HB3 HO2 HB2 HB1
    go_loopg [62] k (fun gg s62 wr => ∃ j : Nat, s62 = .int .i64 j ∧ j ≤ k ∧ k - j ≤ gg ∧ Hid (∃ ys, Spoil w6 wr w1.heap.size 21 ro k rc ys))
    case atStart => exact ⟨0, rfl, Nat.zero_le _, by omega, Lib.hid ⟨_, Spoil.start HO6.out⟩⟩
    case round =>
      obtain ⟨j, rfl, hj, hgg, HS⟩ := hrel
      obtain ⟨ys, hS⟩ := HS.out
      clear HS
      by_cases hlt : j < k
      · obtain ⟨g, rfl, hc, hf, hN⟩ := hS.next hlt 7
        have HN := Lib.hid hN
        generalize ys.getD j 0 = y at *
        clear hN hS
        go_wp2_with fail
        go_roundg (k - (j + 1))
        case measure => omega
        case rel => exact ⟨j + 1, by go_num, by omega, Nat.le_refl _, Lib.hid ⟨_, HN.out⟩⟩
      · obtain rfl : j = k := by omega
        have HBR := Lib.hid (HBB.out.trans (hS.bel hs1 hs6))
        have HPR := Lib.hid (hS.else HP6.out HLT.out)
        clear hS
        go_wp2_with fail
        refine (CA.out _ HBR.out).mono ?_
        rintro e w7 ⟨ro7, rc7, rfl, hO7, hb7⟩
        have SA := Lib.hid (same_runes ro7 j rc7 E ro' j rc' E w7 hO7.nums (HPR.out.below hb7).nums)
        rw [show decide (E = E) = true by simp] at SA
        have HB7 := Lib.hid (HBR.out.trans (hb7.mono HBR.out.size))
        clear hO7 hb7
        go_wp2_with fail
        refine SA.out.mono ?_
        rintro e w8 ⟨rfl, nq8, hw8⟩
        have HB8 := Lib.hid (show Below w.heap.size w w8 from hw8 ▸ below_drewN HB7.out nq8)
        clear hw8
        go_wp2_with fail
        go_ret
        exact ⟨rfl, HB8.out⟩
  · have hkn' : (k : Int) < (n : Int) := by omega
    have HB6 := HB5
    generalize w5 = w6 at *
    clear HB5 HB4 TM
    go_wp2_with fail
    have HO6 := Lib.hid (HO3.out.below HB6.out)
    have HP6 := Lib.hid (HP3.out.below HB6.out)
    have hs6 : w.heap.size ≤ w6.heap.size := Nat.le_trans HB3.out.size HB6.out.size
    have HBB := Lib.hid (HB3.out.trans (HB6.out.mono HB3.out.size))
    clear HB6 HO3 HP3 HB3 HO2 HB2 HB1
    go_loopg [62] k (fun gg s62 wr => ∃ j : Nat, s62 = .int .i64 j ∧ j ≤ k ∧ k - j ≤ gg ∧ Hid (∃ ys, Spoil w6 wr w1.heap.size 21 ro k rc ys))
    case atStart => exact ⟨0, rfl, Nat.zero_le _, by omega, Lib.hid ⟨_, Spoil.start HO6.out⟩⟩
    case round =>
      obtain ⟨j, rfl, hj, hgg, HS⟩ := hrel
      obtain ⟨ys, hS⟩ := HS.out
      clear HS
      by_cases hlt : j < k
      · obtain ⟨g, rfl, hc, hf, hN⟩ := hS.next hlt 7
        have HN := Lib.hid hN
        generalize ys.getD j 0 = y at *
        clear hN hS
        go_wp2_with fail
        go_roundg (k - (j + 1))
        case measure => omega
        case rel => exact ⟨j + 1, by go_num, by omega, Nat.le_refl _, Lib.hid ⟨_, HN.out⟩⟩
      · obtain rfl : j = k := by omega
        have HBR := Lib.hid (HBB.out.trans (hS.bel hs1 hs6))
        have HPR := Lib.hid (hS.else HP6.out HLT.out)
        clear hS
        go_wp2_with fail
        refine (CA.out _ HBR.out).mono ?_
        rintro e w7 ⟨ro7, rc7, rfl, hO7, hb7⟩
        have SA := Lib.hid (same_runes ro7 j rc7 E ro' j rc' E w7 hO7.nums (HPR.out.below hb7).nums)
        rw [show decide (E = E) = true by simp] at SA
        have HB7 := Lib.hid (HBR.out.trans (hb7.mono HBR.out.size))
        clear hO7 hb7
        go_wp2_with fail
        refine SA.out.mono ?_
        rintro e w8 ⟨rfl, nq8, hw8⟩
        have HB8 := Lib.hid (show Below w.heap.size w w8 from hw8 ▸ below_drewN HB7.out nq8)
        clear hw8
        go_wp2_with fail
        go_ret
        exact ⟨rfl, HB8.out⟩
  · have hkn' : (n : Int) ≤ (k : Int) := by omega
    have HB6 := HB5
    generalize w5 = w6 at *
    clear HB5 HB4 TM
    go_wp2_with fail
    have HO6 := Lib.hid (HO3.out.below HB6.out)
    have HP6 := Lib.hid (HP3.out.below HB6.out)
    have hs6 : w.heap.size ≤ w6.heap.size := Nat.le_trans HB3.out.size HB6.out.size
    have HBB := Lib.hid (HB3.out.trans (HB6.out.mono HB3.out.size))
    clear HB6 HO3 HP3 HB3 HO2 HB2 HB1
    go_loopg [62] k (fun gg s62 wr => ∃ j : Nat, s62 = .int .i64 j ∧ j ≤ k ∧ k - j ≤ gg ∧ Hid (∃ ys, Spoil w6 wr w1.heap.size 21 ro k rc ys))
    case atStart => exact ⟨0, rfl, Nat.zero_le _, by omega, Lib.hid ⟨_, Spoil.start HO6.out⟩⟩
    case round =>
      obtain ⟨j, rfl, hj, hgg, HS⟩ := hrel
      obtain ⟨ys, hS⟩ := HS.out
      clear HS
      by_cases hlt : j < k
      · obtain ⟨g, rfl, hc, hf, hN⟩ := hS.next hlt 7
        have HN := Lib.hid hN
        generalize ys.getD j 0 = y at *
        clear hN hS
        go_wp2_with fail
        go_roundg (k - (j + 1))
        case measure => omega
        case rel => exact ⟨j + 1, by go_num, by omega, Nat.le_refl _, Lib.hid ⟨_, HN.out⟩⟩
      · obtain rfl : j = k := by omega
        have HBR := Lib.hid (HBB.out.trans (hS.bel hs1 hs6))
        have HPR := Lib.hid (hS.else HP6.out HLT.out)
        clear hS
        go_wp2_with fail
        refine (CA.out _ HBR.out).mono ?_
        rintro e w7 ⟨ro7, rc7, rfl, hO7, hb7⟩
        have SA := Lib.hid (same_runes ro7 j rc7 E ro' j rc' E w7 hO7.nums (HPR.out.below hb7).nums)
        rw [show decide (E = E) = true by simp] at SA
        have HB7 := Lib.hid (HBR.out.trans (hb7.mono HBR.out.size))
        clear hO7 hb7
        go_wp2_with fail
        refine SA.out.mono ?_
        rintro e w8 ⟨rfl, nq8, hw8⟩
        have HB8 := Lib.hid (show Below w.heap.size w w8 from hw8 ▸ below_drewN HB7.out nq8)
        clear hw8
        go_wp2_with fail
        go_ret
        exact ⟨rfl, HB8.out⟩
end Go.Proofs.YtknkmfofjbpdbaaDoor
