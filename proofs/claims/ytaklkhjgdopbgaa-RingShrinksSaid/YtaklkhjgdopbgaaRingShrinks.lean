/- RingShrinks returns true at every input: shrunk, a ring has the newest of its things. No condition. -/
import Derived.Test.YtaklkhjgdopbgaaRingLaw
namespace Go.Proofs.Ytaklkhjgdopbgaa
open Go.RowKit
attribute [local go_sem ↓ 10000] run_mn run_mx run_slo

set_option maxRecDepth 100000 in
set_option maxHeartbeats 8000000 in
theorem shrinks_any (o : Option Addr) (n cap : Nat) (vs : List Int) (m m2 : Int) (w : World) (hv : Ints w o n cap vs) (hn : n < 2305843009213693952) :
    Calls Try.prog 6 #[.slice o n cap, .int .i64 m, .int .i64 m2] w fun e w' => e = .returned (.bool true) ∧ Below w.heap.size w w' := by
  have hcap : cap ≤ 9223372036854775807 := hv.max
  have hle := hv.le
  -- what is left of the numbers: at most a thousand
  obtain ⟨N, hN⟩ : ∃ N, N = min n 1000 := ⟨_, rfl⟩
  obtain ⟨zs, hz⟩ : ∃ zs, zs = vs.take N := ⟨_, rfl⟩
  have hiz : Ints w o N cap zs := by rw [hz]; exact (slice_hi hv N (by omega) N rfl).2
  have hsl : 1000 < n → ∀ (k : IntKind) (wx : World), (Instr.slice 26 (.slice o n cap) none (some (.int k 1000)) none).run Try.prog wx = .ok (.slice o N cap) wx := fun h => (slice_hi hv N (by omega) 1000 (by omega)).1
  have hN1 : N ≤ 1000 := by omega
  have hN2 : N ≤ cap := by omega
  have hNn : n ≤ 1000 → n = N := by omega
  -- shrunk once
  obtain ⟨T, hT⟩ : ∃ T, T = rI.top m := ⟨_, rfl⟩
  obtain ⟨q, hq⟩ : ∃ q, q = min T N := ⟨_, rfl⟩
  obtain ⟨p, hp⟩ : ∃ p, p = N - T := ⟨_, rfl⟩
  have hqN : q ≤ N := by omega
  have e1 : mn (mx m 0) 1000 = (T : Int) := by rw [hT]; exact mn_top m
  have e2 : mn (T : Int) (N : Int) = (q : Int) := by rw [hq]; exact mn_nat T N
  have e3 : (N : Int) - (q : Int) = (p : Int) := by omega
  have his2 := slice_lo hiz p (by omega)
  have hpN : (p : Int) ≤ (N : Int) := by omega
  have e3w : IntKind.i64.wrap (p : Int) = (p : Int) := IntWalk.i64_in _ (by omega)
  have hl2 := rg.length_lastOf zs T
  rw [hiz.len, ← hq] at hl2
  have hdrop : rg.lastOf zs T = zs.drop p := by rw [hp, ← hiz.len]; rfl
  rw [← hdrop] at his2
  -- shrunk twice
  obtain ⟨T2, hT2⟩ : ∃ T2, T2 = rI.top m2 := ⟨_, rfl⟩
  obtain ⟨r, hr⟩ : ∃ r, r = min T2 q := ⟨_, rfl⟩
  obtain ⟨g3, hg3⟩ : ∃ g3, g3 = p + (q - T2) := ⟨_, rfl⟩
  have e4 : mn (mx m2 0) 1000 = (T2 : Int) := by rw [hT2]; exact mn_top m2
  have e5 : mn (T2 : Int) (q : Int) = (r : Int) := by rw [hr]; exact mn_nat T2 q
  have e6 : (N : Int) - (r : Int) = (g3 : Int) := by omega
  have hl3 := rg.length_lastOf (rg.lastOf zs T) T2
  rw [hl2, ← hr] at hl3
  have hg3b : g3 ≤ 1000 := by omega
  generalize hB : w.heap.size = B at *
  have HB := Lib.hid hB; have HT := Lib.hid hT; have HT2 := Lib.hid hT2; have HP := Lib.hid hp; have HG := Lib.hid hg3; have HZ := Lib.hid hiz; have HS := Lib.hid his2; have HL2 := Lib.hid hl2; have HL3 := Lib.hid hl3
  have HSL := Lib.hid hsl; have E3W := Lib.hid e3w; have HNN := Lib.hid hNn
  have E1 := Lib.hid e1; have E2 := Lib.hid e2; have E3 := Lib.hid e3; have E4 := Lib.hid e4; have E5 := Lib.hid e5; have E6 := Lib.hid e6
  clear hB hT hT2 hp hg3 hiz his2 hl2 hl3 hsl e3w hNn hv hz hN hq hr hdrop e1 e2 e3 e4 e5 e6
  have hbig : 1000 < n ∨ N = n := by
    rcases Nat.lt_or_ge 1000 n with h | h
    · exact .inl h
    · exact .inr (HNN.out h).symm
  go_enter Try.func6, Try.ntmps6
  go_wp2_with fail
  refine (rI.new_any _ _).mono ?_
  rintro e w1 ⟨rfl, his, hb1⟩
  rw [HB.out, show rI.top 1000 = 1000 by decide] at his
  rw [HB.out] at hb1
  rw [HB.out]
  have hlt1 := his.lt
  have H1 := Lib.hid his; clear his
  go_wp2_with fail
  refine (alive_any _).mono ?_
  rintro e w2 ⟨rfl, hb2'⟩
  have hb2 := hb1.trans (hb2'.mono (by omega))
  have H2 := Lib.hid (H1.out.below hb2')
  clear H1 hb2' hb1 hlt1
  have HSL0 := HSL.out
  have HB2 := Lib.hid hbig; clear hbig
  rcases HB2.out with hbig | rfl
  all_goals first | (have hs1 := HSL0 hbig; have hd : decide ((1000 : Int) < (n : Int)) = true := decide_eq_true (by omega); clear HSL0 HSL HNN HB2) | (have hd : decide ((1000 : Int) < (N : Int)) = false := decide_eq_false (by omega); clear HSL0 HSL HNN HB2)
  all_goals go_wp2_with fail
  all_goals
    go_loopg [29] N (fun gg s29 wr => ∃ (k : Nat) (pv : Value), s29 = .int .i64 k ∧ k ≤ N ∧ N - k ≤ gg ∧ Hid (rI.Is wr B pv (rg.lastOf ((zs.map (Value.int .i64)).take k) 1000) 1000 (k - 1000)) ∧ Below B w wr)
    case atStart => exact ⟨0, _, rfl, Nat.zero_le _, by omega, Lib.hid (by simpa [rg.lastOf] using H2.out), hb2⟩
    case round =>
      obtain ⟨k, pv, rfl, hk, hgg, HI, hbel⟩ := hrel
      clear hb2 H2
      by_cases hlt : k < N
      · have hlen : k < zs.length := by rw [HZ.out.len]; exact hlt
        have hIv := HZ.out.below (HB.out.symm ▸ hbel)
        obtain ⟨vb, off, hob, hvb, hc⟩ := hIv.cell hlt
        subst hob
        have hnx := map_take_snoc zs k hlen
        have hlk := len_take zs k (by omega)
        have hlk1 := len_take zs (k + 1) (by omega)
        generalize zs.getD k 0 = z at *
        have hps := push_law B pv ((zs.map (Value.int .i64)).take k) 1000 z wr (by rw [hlk]; exact HI.out) (by omega)
        rw [← hnx, hlk, hlk1] at hps
        have HP := Lib.hid hps
        clear hps hnx hlk hlk1 hIv hlen
        go_wp2_with fail
        refine HP.out.mono ?_
        rintro e w3 ⟨x, ok, pv', rfl, _, hi3, hk3, hm3⟩
        have hbel3 := hbel.trans (push_below HI.out hk3 (Nat.le_refl B))
        have H3 := Lib.hid hi3
        clear hi3 hk3 hm3 HP HI hc hbel
        go_wp2_with fail
        go_roundg (N - (k + 1))
        case measure => omega
        case rel => exact ⟨k + 1, pv', by go_num, by omega, Nat.le_refl _, H3, hbel3⟩
      · obtain rfl : k = N := by omega
        have hi0 : rI.Is wr B pv (zs.map (Value.int .i64)) 1000 0 := by
          have := HI.out
          rwa [List.take_of_length_le (by rw [List.length_map, HZ.out.len]; exact Nat.le_refl _), lastOf_all _ _ (by rw [List.length_map, HZ.out.len]; exact hN1), show k - 1000 = 0 by omega] at this
        have H0 := Lib.hid hi0
        clear hi0 HI hgg hlt
        go_wp2_with fail
        refine (rI.shrink_any B pv _ 1000 0 m wr H0.out (by decide)).mono ?_
        rintro e w3 ⟨rfl, pv3, hi3, hk3, _⟩
        have hbel3 := hbel.trans (push_below H0.out hk3 (Nat.le_refl B))
        rw [← HT.out, lastOf_map, List.length_map, HZ.out.len, Nat.zero_add, ← HP.out] at hi3
        have H3 := Lib.hid hi3
        have HSr := Lib.hid (HS.out.below (HB.out.symm ▸ hbel3))
        have e1 := E1.out; have e2 := E2.out
        clear hi3 hk3 H0 hbel
        go_wp2_with fail
        have e3 := E3.out
        have e3w := E3W.out
        have hall := all_law2 (l := q) H3.out HL2.out
        have hsb := fun w' (hb : Below w3.heap.size w3 w') => HSr.out.below hb
        have hgb := fun w' (hb : Below w3.heap.size w3 w') j => gone_is (is_drewN (H3.out.below hb) j)
        have HA := Lib.hid hall; have HSB := Lib.hid hsb; have HGB := Lib.hid hgb; clear hall hsb hgb
        go_region_with (first | (go_at_call 20; refine (HA.out _).mono ?_; rintro e w4 ⟨ao, ac, rfl, hia, hb4⟩) | (go_at_call 21; refine (same_any _ _ _ _ _ _ _ _ _ (by assumption) (HSB.out _ (by assumption))).mono ?_; rintro e w5 ⟨rfl, nq, rfl⟩) | (go_at_call 19; refine (HGB.out _ (by assumption) _).mono ?_; rintro e w6 ⟨rfl, rfl⟩))
        all_goals
          have hi4 := is_drewN (H3.out.below hb4) nq
          have hbel4 := hbel3.trans (below_drewN (hb4.mono (by have := hbel3.size; have := HB.out; omega)) nq)
          generalize w4.drewN nq = w6 at *
          have H4 := Lib.hid hi4
          have e4 := E4.out; have e5 := E5.out
          clear hi4 hb4 hia HA HSB HGB H3 HSr e1 e2 e3 e3w hbel3
          go_wp2_with fail
          refine (rI.shrink_any B pv3 _ T p m2 w6 H4.out (by omega)).mono ?_
          rintro e w7 ⟨rfl, pv7, hi7, hk7, _⟩
          have hbel7 := hbel4.trans (push_below H4.out hk7 (Nat.le_refl B))
          rw [← HT2.out, lastOf_map, List.length_map, HL2.out, ← HG.out] at hi7
          have H7 := Lib.hid hi7
          have e6 := E6.out
          have e6w : IntKind.i64.wrap (g3 : Int) = (g3 : Int) := IntWalk.i64_in _ (by omega)
          have hlr : ((rg.lastOf (rg.lastOf zs T) T2).map (Value.int .i64)).length = r := by rw [List.length_map]; exact HL3.out
          have HLR := Lib.hid hlr
          clear hi7 hk7 H4 hlr hbel4
          go_wp2_with fail
          refine (len_law H7.out HLR.out).mono ?_
          rintro e w8 ⟨rfl, rfl⟩
          go_wp2_with fail
          refine (gone_is H7.out).mono ?_
          rintro e w8 ⟨rfl, rfl⟩
          go_wp2_with fail
          refine (push_is 5 H7.out (by omega)).mono ?_
          rintro e w8 ⟨x, rfl, pv8, L8, g8, hi8, hk8⟩
          have hbel8 := hbel7.trans (push_below H7.out hk8 (Nat.le_refl B))
          rw [HLR.out]
          clear hi8 hk8 H7 hbel7
          by_cases hrt : r = T2
          · have d1 : decide (r = T2) = true := decide_eq_true hrt
            have d2 : ((r : Int) == (T2 : Int)) = true := by simp; omega
            have HRT := Lib.hid hrt; clear hrt
            go_wp2_with fail
            go_ret
            exact ⟨rfl, hbel8⟩
          · have d1 : decide (r = T2) = false := decide_eq_false hrt
            have d2 : ((r : Int) == (T2 : Int)) = false := by simp; omega
            have HRT := Lib.hid hrt; clear hrt
            go_wp2_with fail
            go_ret
            exact ⟨rfl, hbel8⟩
end Go.Proofs.Ytaklkhjgdopbgaa
