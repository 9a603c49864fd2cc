/- The walk of GlyphFeeds. -/
import Derived.Test.YtknkmfofjbpdbaaDoorGlRefFeed
namespace Go.Proofs.YtknkmfofjbpdbaaDoor
open Go.RowKit

/-- pieces of bytes among the arguments -/
structure PiecesIn (w : World) (o : Option Addr) (n cap : Nat) : Prop where
  le : n ≤ cap
  max : cap ≤ maxLen
  at_ : ∀ k, k < n → ∃ b off a m c l, o = some ⟨b, off, none⟩ ∧ b < w.heap.size ∧ w.cell? ⟨b, off + k, none⟩ = some (.slice a m c) ∧ Bts w a m c l ∧ m ≤ 1048576
theorem PiecesIn.below {w w' : World} {o : Option Addr} {n cap : Nat} (h : PiecesIn w o n cap) (hb : Below w.heap.size w w') : PiecesIn w' o n cap :=
  ⟨h.le, h.max, fun k hk => by
    obtain ⟨b, off, a, m, c, l, h1, h2, h3, h4, h5⟩ := h.at_ k hk
    exact ⟨b, off, a, m, c, l, h1, Nat.lt_of_lt_of_le h2 hb.size, (hb.cell (p := ⟨b, off + k, none⟩) h2).trans h3, h4.below hb, h5⟩⟩
theorem Nums.keptS {K : IntKind} {w w' : World} {o : Option Addr} {n cap : Nat} {zs : List Int} (H : Nums K w o n cap zs) {S : Nat → Prop} (hk : Kept w w' S) (hS : ∀ a, o = some a → ¬ S a.block) : Nums K w' o n cap zs := by
  refine ⟨H.len, H.le, H.max, ?_⟩
  rcases H.at_ with h0 | ⟨b, off, rfl, h2, h3⟩
  · exact .inl h0
  · exact .inr ⟨b, off, rfl, Nat.lt_of_lt_of_le h2 hk.size, fun k hk' => hk.cell (h3 k hk') (show ¬ S b from hS ⟨b, off, none⟩ rfl)⟩
/-- where the feeding stands: q waits -/
structure FD (w wr : World) (p : Nat) (q : List UInt8) (cur : Array Value) (lo : Option Addr) (lc : Nat) : Prop where
  own : Own wr (p + 1) 5 .u8 lo q.length lc (u8s q)
  rd : RdAt wr p 0 q cur 31
  bel : Below w.heap.size w wr
  pl : w.heap.size ≤ p
theorem FD.size {w wr : World} {p : Nat} {q : List UInt8} {cur : Array Value} {lo : Option Addr} {lc : Nat} (h : FD w wr p q cur lo lc) : p < wr.heap.size := h.rd.lt
set_option maxRecDepth 100000 in
set_option maxHeartbeats 1600000 in
theorem feeds_any (o : Option Addr) (n cap : Nat) (w : World) (ht : UTabs w) (hx : PiecesIn w o n cap) :
    Calls Tryd.prog 4 #[.slice o n cap] w fun e w' => e = .returned (.bool true) ∧ Below w.heap.size w w' := by
  obtain ⟨i0, hi, hz0, hz1, hz2⟩ := info_parts infoB
  have HA := Lib.hid (alive_any w ht)
  have hmx : cap ≤ 9223372036854775807 := hx.max
  have hle := hx.le
  have HX := Lib.hid hx; have HT := Lib.hid ht
  clear hx ht
  go_enter Tryd.func4, Tryd.ntmps4
  go_wp2_with fail
  refine HA.out.mono ?_
  rintro e w1 ⟨rfl, hb1⟩
  have hs1 : w.heap.size ≤ w1.heap.size := hb1.size
  have HP0 : Hid (FD w ((w1.alloc (.cells rd0 31)).alloc (.cells #[] 5)) w1.heap.size [] rd0 (some ⟨w1.heap.size + 1, 0, none⟩) 0) := Lib.hid
    ⟨by have := own_made0 (w := w1.alloc (.cells rd0 31)) (B := w1.heap.size + 1) 0 #[] (by simp) (by unfold maxLen; omega) rfl 5 .u8
        have h2 : Own ((w1.alloc (.cells rd0 31)).alloc (.cells #[] 5)) (w1.heap.size + 1) 5 .u8 (some ⟨w1.heap.size + 1, 0, none⟩) 0 0 [] := by simpa using this
        exact h2,
      (rdAt_new w1 31).below (below_one _ _) (by simp), (hb1.alloc hs1 _).alloc (by simp; omega) _, hs1⟩
  clear hb1 HA
  go_wp2_with fail
  generalize hW : (w1.alloc (.cells rd0 31)).alloc (.cells #[] 5) = wa at *
  clear hW
  generalize w1.heap.size = p at *
  go_loopg [4, 19] n (fun gg s4 s19 wr => ∃ (k qn : Nat) (lo : Option Addr) (lc : Nat), s19 = .int .i64 k ∧ s4 = .slice lo qn lc ∧ k ≤ n ∧ n - k ≤ gg ∧ Hid (∃ q cur, q.length = qn ∧ FD w wr p q cur lo lc))
  case atStart => exact ⟨0, 0, _, 0, rfl, rfl, Nat.zero_le _, by omega, Lib.hid ⟨[], _, rfl, HP0.out⟩⟩
  case round =>
    clear HP0
    obtain ⟨k, qn, lo, lc, rfl, rfl, hk, hgg, HF⟩ := hrel
    obtain ⟨q, cur, rfl, hF⟩ := HF.out
    clear HF
    have hfew := hF.rd.few
    have hpw : p < wr.heap.size := hF.size
    have HF := Lib.hid hF
    clear hF
    by_cases hlt : k < n
    · obtain ⟨b, off, a, m, c, l, rfl, hb, k0, hbt, hm⟩ := (HX.out.below HF.out.bel).at_ k hlt
      have hmc : m ≤ c := hbt.le
      have hcm : c ≤ 9223372036854775807 := hbt.max
      have HBT := Lib.hid hbt
      have HL : Hid (l.length = m) := Lib.hid hbt.size
      have HO0 := Lib.hid (own_made0 (w := wr) (B := wr.heap.size) 0 #[] (Nat.le_refl _) (by unfold maxLen; omega) rfl 5 .u8)
      have HQ1 := Lib.hid (HF.out.own.nums.below (below_one wr (.cells #[] 5)))
      clear hbt
      go_wp2_with (at_builtin; refine wpList_append_nums (K := .u8) rfl _ _ 22 rfl wr.heap.size 5 i0 (Value.int .u8 0) 1 Tryd.underlying22 hi hz0 hz1 hz2 (by decide) rfl (.slice (some ⟨wr.heap.size, 0, none⟩) 0 0) 0 [] rfl ?c1 lo q.length lc (u8s q) rfl ?c0 ?c2 ?c3 ?_)
      case c1 => exact HO0.out.row
      case c0 => exact HQ1.out
      case c2 => omega
      case c3 => simp
      intro v' w2 hr2 hg2 _
      obtain ⟨ro2, rc2, rfl, hO2⟩ := Own.of (K := .u8) (xs := u8s q) (by simpa [cs] using hr2)
      have hk2 : Below wr.heap.size wr w2 := (below_one wr (.cells #[] 5)).trans (grown_below hg2 HO0.out.row (by simp))
      have HO2 := Lib.hid hO2; have HK2 := Lib.hid hk2
      have HB2 : Hid (Bts w2 a m c l) := Lib.hid (HBT.out.below hk2)
      have hs2 : wr.heap.size ≤ w2.heap.size := hk2.size
      clear hr2 hg2 hO2 hk2 HO0 HQ1
      go_wp2_with (at_builtin; refine wpList_append_nums (K := .u8) rfl _ _ 22 rfl wr.heap.size 5 i0 (Value.int .u8 0) 1 Tryd.underlying22 hi hz0 hz1 hz2 (by decide) rfl (.slice ro2 q.length rc2) q.length (u8s q) rfl ?d1 a m c (u8s l) rfl ?d0 ?d2 ?d3 ?_)
      case d1 => exact HO2.out.row
      case d0 => exact HB2.out
      case d2 => omega
      case d3 => exact hs2
      intro v' w3 hr3 hg3 _
      obtain ⟨ro3, rc3, rfl, hO3⟩ := Own.of (K := .u8) (xs := u8s (q ++ l)) (by rw [u8s_append]; simpa [cs] using hr3)
      have hk3 : Below wr.heap.size wr w3 := HK2.out.trans (grown_below hg3 HO2.out.row hs2)
      have hbt3 : Bts w3 ro3 (q.length + m) rc3 (q ++ l) := hO3.nums
      have HW := Lib.hid (refFeed_any ro3 _ rc3 _ w3 hbt3 (by omega))
      have HK3 := Lib.hid hk3
      have HR3 := Lib.hid (fun a ha => (hO3.lt a ha).1)
      have hs3 : wr.heap.size ≤ w3.heap.size := hk3.size
      clear hr3 hg3 hO3 hk3 hbt3 HO2 HK2 HB2
      go_wp2_with fail
      refine HW.out.mono ?_
      rintro e w4 ⟨wo, wm, wc, o2, n2, c2, rfl, hO4, hR4, hbl4, hb4⟩
      have hk4 := HK3.out.trans (hb4.mono hs3)
      have HO4 := Lib.hid hO4; have HR4 := Lib.hid hR4; have HK4 := Lib.hid hk4
      have HNB : Hid (∀ a, o2 = some a → ¬ (a.block = p)) := Lib.hid (fun a' ha' e => by
        obtain ⟨a0, ha0, e0⟩ := hbl4 a' ha'
        have := HR3.out a0 ha0
        omega)
      have HE := Lib.hid (feed_any p 0 q l cur _ a m c w4 (HF.out.rd.below hk4 hpw) (HBT.out.below hk4) (HT.out.step (HF.out.bel.trans (hk4.mono HF.out.bel.size))) (by omega))
      have hs4 : wr.heap.size ≤ w4.heap.size := hk4.size
      clear hO4 hR4 hk4 hbl4 hb4 HW HK3 HR3 k0 hb
      generalize hG : gl.read (q ++ l) = G at *
      clear hG
      go_wp2_with fail
      refine HE.out.mono ?_
      rintro e w5 ⟨go, gm, gc, cur5, rfl, hO5, hR5, _, _, hK5⟩
      have HO5 := Lib.hid hO5.nums
      have HW5 := Lib.hid ((HO4.out.kept hK5 (fun a ha e => by have := (HO4.out.lt a ha).1; omega)).nums)
      have HR5 : Hid (Bts w5 o2 n2 c2 G.2) := Lib.hid (HR4.out.keptS hK5 HNB.out)
      have HD5 := Lib.hid hR5
      have hbw : w.heap.size ≤ p := HF.out.pl
      have HB5 := Lib.hid ((HF.out.bel.trans (HK4.out.mono HF.out.bel.size)).trans (hK5.below (B := w.heap.size) (by have := HF.out.bel.size; omega) (fun k hk => by omega)))
      have hs5 : wr.heap.size ≤ w5.heap.size := by have := hK5.size; omega
      clear hO5 hR5 hK5 HE HO4 HR4 HNB
      have SA := Lib.hid (same_runes go gm gc G.1 wo wm wc G.1 w5 HO5.out HW5.out)
      rw [show decide (G.1 = G.1) = true by simp] at SA
      go_wp2_with fail
      refine SA.out.mono ?_
      rintro e w6 ⟨rfl, nq, hw6⟩
      have hk6 : Below w5.heap.size w5 w6 := hw6 ▸ below_drewN (Below.refl _ _) nq
      have HD6 := Lib.hid (HD5.out.below hk6 HD5.out.lt)
      have HR6 : Hid (Bts w6 o2 n2 c2 G.2) := Lib.hid (HR5.out.below hk6)
      have HB6 := Lib.hid (HB5.out.trans (hk6.mono HB5.out.size))
      have hs6 : wr.heap.size ≤ w6.heap.size := by have := hk6.size; omega
      have HV := Lib.hid (waits_any p 0 G.2 cur5 _ w6 HD6.out)
      have hn2 : G.2.length = n2 := HR6.out.size
      rw [hn2] at HV
      have hf2 := HD6.out.few
      rw [hn2] at hf2
      have HN2 := Lib.hid hn2
      clear hw6 hk6 SA HO5 HW5 HR5 HD5 HB5 hn2
      go_wp2_with fail
      refine HV.out.mono ?_
      rintro e w7 ⟨rfl, rfl⟩
      have HO7 := Lib.hid (own_made0 (w := w6) (B := p + 1) 0 #[] (by omega) (by unfold maxLen; omega) rfl 5 .u8)
      have HR7 : Hid (Bts (w6.alloc (.cells #[] 5)) o2 n2 c2 G.2) := Lib.hid (HR6.out.below (below_one w6 _))
      clear HV
      go_wp2_with (at_builtin; refine wpList_append_nums (K := .u8) rfl _ _ 22 rfl (p + 1) 5 i0 (Value.int .u8 0) 1 Tryd.underlying22 hi hz0 hz1 hz2 (by decide) rfl (.slice (some ⟨w6.heap.size, 0, none⟩) 0 0) 0 [] rfl ?e1 o2 n2 c2 (u8s G.2) rfl ?e0 ?e2 ?e3 ?_)
      case e1 => exact HO7.out.row
      case e0 => exact HR7.out
      case e2 => omega
      case e3 => simp; omega
      intro v' w8 hr8 hg8 _
      obtain ⟨ro8, rc8, rfl, hO8⟩ := Own.of (K := .u8) (xs := u8s G.2) (by simpa [cs] using hr8)
      have hk8 : Below (p + 1) w6 w8 := ((Below.refl (p + 1) w6).alloc (by omega) (.cells #[] 5)).trans (grown_below hg8 HO7.out.row (by simp; omega))
      have HFD : Hid (∃ q cur, q.length = n2 ∧ FD w w8 p q cur ro8 rc8) := Lib.hid ⟨G.2, cur5, HN2.out, ⟨by rw [HN2.out]; simpa using hO8, HD6.out.below hk8 (by omega), HB6.out.trans (hk8.mono (by omega)), hbw⟩⟩
      clear hr8 hg8 hO8 hk8 HO7 HR7
      go_wp2_with fail
      go_roundg (n - (k + 1))
      case measure => omega
      case rel => exact ⟨k + 1, n2, ro8, rc8, by go_num, by first | rfl | simp, by omega, Nat.le_refl _, HFD⟩
    · obtain rfl : k = n := by omega
      have HE := Lib.hid (rest_any p 0 q cur _ wr HF.out.rd)
      have hbw : w.heap.size ≤ p := HF.out.pl
      generalize hqn : q.length = qn at *
      clear hqn
      go_wp2_with fail
      refine HE.out.mono ?_
      rintro e w2 ⟨ro2, rc2, cur2, rfl, hO2, hR2, _, _, hK2⟩
      have HO2 := Lib.hid hO2; have HR2 := Lib.hid hR2
      have HB2 := Lib.hid (HF.out.bel.trans (hK2.below (B := w.heap.size) HF.out.bel.size (fun k hk => by omega)))
      have hs2 : wr.heap.size ≤ w2.heap.size := hK2.size
      have HV := Lib.hid (waits_any p 0 [] cur2 _ w2 HR2.out)
      rw [List.length_nil] at HV
      have HE2 := Lib.hid (rest_any p 0 [] cur2 _ w2 HR2.out)
      rw [List.length_nil] at HE2
      clear hO2 hR2 hK2 HE
      go_wp2_with fail
      refine HV.out.mono ?_
      rintro e w3 ⟨rfl, rfl⟩
      go_wp2_with fail
      refine HE2.out.mono ?_
      rintro e w4 ⟨ro4, rc4, cur4, rfl, _, _, _, _, hK4⟩
      have HO4 := Lib.hid ((HO2.out.kept hK4 (fun a ha e => by have := (HO2.out.lt a ha).1; omega)).nums)
      have HB4 := Lib.hid (HB2.out.trans (hK4.below (B := w.heap.size) HB2.out.size (fun k hk => by omega)))
      have hrm : rc2 ≤ 9223372036854775807 := HO4.out.max
      have hrl : qn ≤ rc2 := HO4.out.le
      clear hK4 HE2 HV HO2 HR2 HB2
      go_wp2_with fail
      go_loopg [66] qn (fun gg s66 wr => ∃ j : Nat, s66 = .int .i64 j ∧ j ≤ qn ∧ qn - j ≤ gg ∧ Hid (wr = w4))
      case atStart => exact ⟨0, rfl, Nat.zero_le _, by omega, Lib.hid rfl⟩
      case round =>
        obtain ⟨j, rfl, hj, hgg2, HWR⟩ := hrel
        obtain rfl := HWR.out
        by_cases hlt2 : j < qn
        · obtain ⟨b8, off8, rfl, hb8, k8⟩ := HO4.out.cell hlt2
          rw [show (List.replicate qn (65533 : Int)).getD j 0 = 65533 by simp [List.getD, hlt2]] at k8
          go_wp2_with fail
          go_roundg (qn - (j + 1))
          case measure => omega
          case rel => exact ⟨j + 1, by go_num, by omega, Nat.le_refl _, Lib.hid rfl⟩
        · obtain rfl : j = qn := by omega
          go_wp2_with fail
          go_ret
          exact ⟨rfl, HB4.out⟩
end Go.Proofs.YtknkmfofjbpdbaaDoor
