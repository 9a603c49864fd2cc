/- RingLast returns true at every input: without a Pop a ring has the end of what was pushed; the rest has gone, in order. No condition. -/
import Derived.Test.YtaklkhjgdopbgaaRingText
namespace Go.Proofs.Ytaklkhjgdopbgaa
open Go.RowKit
attribute [local go_sem ↓ 10000] run_mn run_mx run_sloS run_shiS

theorem popped (M : List Value) (T k : Nat) (d : Value) (hT : T ≤ k) (hk : k < M.length) : (M.take k ++ [M.getD k d]).getD (k - T) d = M.getD (k - T) d := by
  have e : M.take k ++ [M.getD k d] = M.take (k + 1) := by rw [List.take_succ_eq_append_getElem hk]; simp [List.getD, hk]
  rw [e]
  simp [List.getD, show k - T < k + 1 by omega]
theorem below_step {w W w6 : World} (h1 : Below w.heap.size w W) (h2 : Below W.heap.size W w6) : Below w.heap.size w w6 := h1.trans (h2.mono h1.size)
theorem info9 : (Try.prog.info? 9).map (fun i => (i.zero, i.size, i.bytes)) = some (some (Value.string ByteArray.empty), 1, 16) := by kernel_rfl
theorem pushS_below {w w' : World} {b B : Nat} {pv : Value} {L : List Value} {most gone : Nat} (h : rS.Is w b pv L most gone) (hk : Kept w w' (Tch b pv)) (hB : B ≤ b) : Below B w w' := by
  have hlt := h.lt
  refine hk.below (by omega) (fun k hk' => ?_)
  rcases hk' with rfl | hk'
  · exact hB
  · have := h.own k hk'; omega

set_option maxRecDepth 100000 in
set_option maxHeartbeats 40000000 in
theorem last_any (m : Int) (o : Option Addr) (n cap : Nat) (ss : List ByteArray) (w : World) (hv : Strs w o n cap ss) (hn : n * 16 ≤ 140737488351232) :
    Calls Try.prog 4 #[.int .i64 m, .slice o n cap] w fun e w' => e = .returned (.bool true) ∧ Below w.heap.size w w' := by
  obtain ⟨i0, hi, hz0, hz1, hz2⟩ := info_parts info9
  have hcap : cap ≤ 9223372036854775807 := hv.max
  have hle := hv.le
  obtain ⟨T, hT⟩ : ∃ T, T = rI.top m := ⟨_, rfl⟩
  have hT1 : T ≤ 1000 := by rw [hT]; exact rI.top_le m
  have hTS : rS.top m = T := by rw [hT]; rfl
  obtain ⟨q, hq⟩ : ∃ q, q = min T n := ⟨_, rfl⟩
  obtain ⟨p, hp⟩ : ∃ p, p = n - T := ⟨_, rfl⟩
  have e1 : mn (mx m 0) 1000 = (T : Int) := by rw [hT]; exact mn_top m
  have e2 : mn (T : Int) (n : Int) = (q : Int) := by rw [hq]; exact mn_nat T n
  have e3 : (n : Int) - (q : Int) = (p : Int) := by omega
  have e3w : IntKind.i64.wrap (p : Int) = (p : Int) := IntWalk.i64_in _ (by omega)
  have hpn : p ≤ n := by omega
  have hpN : (p : Int) ≤ (n : Int) := by omega
  have hpC : (p : Int) ≤ (cap : Int) := by omega
  have hlo := sliceS_lo hv p hpn
  have hhi := sliceS_hi hv p hpn
  have hl2 := rg.length_lastOf ss T
  rw [hv.len, ← hq] at hl2
  have hdrop : rg.lastOf ss T = ss.drop p := by rw [hp, ← hv.len]; rfl
  rw [← hdrop] at hlo
  generalize hB : w.heap.size = B at *
  have HB := Lib.hid hB; have HT := Lib.hid hTS; have HV := Lib.hid hv; have HLO := Lib.hid hlo; have HHI := Lib.hid hhi; have HL2 := Lib.hid hl2; have HP := Lib.hid hp; have HQ := Lib.hid hq
  have E1 := Lib.hid e1; have E2 := Lib.hid e2; have E3 := Lib.hid e3; have E3W := Lib.hid e3w
  clear hB hT hTS hv hlo hhi hl2 hp hq e1 e2 e3 e3w hdrop
  go_enter Try.func4, Try.ntmps4
  go_wp2_with fail
  refine (rS.new_any _ _).mono ?_
  rintro e w1 ⟨rfl, his, hb1⟩
  rw [HB.out, HT.out] at his
  rw [HB.out] at hb1
  rw [HB.out]
  have hlt1 := his.lt
  have H1 := Lib.hid his; clear his
  go_wp2_with fail
  refine (alive_any _).mono ?_
  rintro e w2 ⟨rfl, hb2'⟩
  have hb2 := hb1.trans (hb2'.mono (by omega))
  have H2 := Lib.hid (H1.out.below hb2')
  have hlt2 := H2.out.lt
  clear H1 hb2' hb1 hlt1
  go_wp2_with fail
  have hown0 : (w2.alloc (.cells #[] 9)).ownsRow (B + 1) 9 1 (.slice (some ⟨w2.heap.size, 0, none⟩) 0 0) 0 [] := World.ownsRow_made w2 #[] 0 (by omega) (by unfold maxLen; omega) (by simp)
  have hb3 := hb2.alloc (by omega) (.cells #[] 9)
  have H3 := Lib.hid (H2.out.below ((Below.refl w2.heap.size w2).alloc (Nat.le_refl _) (.cells #[] 9)))
  have hsep0 : ∀ g, (Value.slice (some ⟨w2.heap.size, 0, none⟩) 0 0).ownBlock = some g → ¬ Tch B (.slice none 0 0) g := by
    intro g hg h
    simp [Value.ownBlock] at hg
    rcases h with h | h
    · omega
    · simp [Value.ownBlock] at h
  have HO0 := Lib.hid hown0; have HS0 := Lib.hid hsep0
  clear hown0 hsep0 hb2 H2 hlt2
  go_loopg [6, 24] n (fun gg s6 s24 wr => ∃ (k : Nat) (pv gv : Value), s24 = .int .i64 k ∧ s6 = gv ∧ k ≤ n ∧ n - k ≤ gg ∧ Hid (rS.Is wr B pv (rg.lastOf ((ss.map Value.string).take k) T) T (k - T)) ∧ Hid (wr.ownsRow (B + 1) 9 1 gv (k - T) ((ss.map Value.string).take (k - T))) ∧ Hid (∀ g, gv.ownBlock = some g → ¬ Tch B pv g) ∧ Below B w wr)
  case atStart => exact ⟨0, _, _, rfl, rfl, Nat.zero_le _, by omega, Lib.hid (by simpa [rg.lastOf] using H3.out), Lib.hid (by simpa using HO0.out), HS0, hb3⟩
  case round =>
    obtain ⟨k, pv, gv, rfl, rfl, hk, hgg, HI, HO, HS, hbel⟩ := hrel
    clear hb3 H3 HO0 HS0
    by_cases hlt : k < n
    · have hlen : k < ss.length := by rw [HV.out.len]; exact hlt
      have hszB : B ≤ wr.heap.size := by have := hbel.size; have := HB.out; omega
      obtain ⟨vb, off, hob, hvb, hc⟩ := HV.out.cell hlt
      have hcr := (hbel.cell (p := ⟨vb, off + k, none⟩) (by show vb < B; rw [← HB.out]; exact hvb)).trans hc
      have hnx := map_take_snocS ss k hlen
      have hlk := len_takeS ss k (by omega)
      have hlk1 := len_takeS ss (k + 1) (by omega)
      have hpop := fun h => popped (ss.map Value.string) T k (Value.string ByteArray.empty) h (by simpa using hlen)
      have hgt := getD_mapS ss k
      have hgp := getD_mapS ss (k - T)
      rw [hgt, hgp] at hpop
      have hnx2 : T ≤ k → (ss.map Value.string).take (k + 1 - T) = (ss.map Value.string).take (k - T) ++ [Value.string (ss.getD (k - T) ByteArray.empty)] := fun h => by
        rw [show k + 1 - T = k - T + 1 by omega]; exact map_take_snocS ss (k - T) (by omega)
      subst hob
      generalize ss.getD k ByteArray.empty = z at *
      generalize ss.getD (k - T) ByteArray.empty = y at *
      have HNX := Lib.hid hnx; have HLK := Lib.hid hlk; have HLK1 := Lib.hid hlk1; have HPOP := Lib.hid hpop; have HN2 := Lib.hid hnx2
      clear hnx hlk hlk1 hpop hnx2 hgt hgp hlen hc
      obtain ⟨go', gc, rfl⟩ := own_slice HO.out
      by_cases hkT : k < T
      · have hps := rS.push_more B pv ((ss.map Value.string).take k) T 0 z wr (by rw [HLK.out, Nat.zero_add]; exact HI.out) (by rw [HLK.out]; exact hkT)
        rw [← HNX.out, HLK1.out, Nat.zero_add] at hps
        have HPS := Lib.hid hps; clear hps
        go_wp2_with fail
        refine HPS.out.mono ?_
        rintro e w3 ⟨rfl, pv3, hi3, hk3, hm3⟩
        have hbel3 := hbel.trans (pushS_below HI.out hk3 (Nat.le_refl B))
        have H3 := Lib.hid hi3
        have HO3 := Lib.hid (hk3.row HO.out HS.out)
        have HS3 := Lib.hid (show ∀ g, (Value.slice go' (k - T) gc).ownBlock = some g → ¬ Tch B pv3 g from fun g hg h => by
          rcases h with h | h
          · exact HS.out g hg (.inl h)
          · rcases hm3 g h with h' | h'
            · exact HS.out g hg (.inr h')
            · have := (HO.out.lt g hg).2; omega)
        have e0 : k - T = 0 := by omega
        have e0' : k + 1 - T = 0 := by omega
        rw [e0] at HO3 HS3
        rw [e0'] at H3
        have HE0 := Lib.hid e0; have HE0' := Lib.hid e0'
        clear hi3 hk3 hm3 HPS HI HO HS hbel hcr e0 e0'
        rw [HE0.out]
        go_wp2_with fail
        go_roundg (n - (k + 1))
        case measure => omega
        case rel => exact ⟨k + 1, pv3, _, by go_num, rfl, by omega, Nat.le_refl _, Lib.hid (by rw [HE0'.out]; exact H3.out), Lib.hid (by rw [HE0'.out]; exact HO3.out), HS3, hbel3⟩
      · have hTk : T ≤ k := by omega
        have hps := rS.push_over B pv ((ss.map Value.string).take k) T 0 z wr (by rw [HLK.out, Nat.zero_add]; exact HI.out) (by rw [HLK.out]; exact hTk) (by rw [HLK.out]; omega)
        rw [HLK.out, HPOP.out hTk, ← HNX.out, HLK1.out, Nat.zero_add] at hps
        have HPS := Lib.hid hps; clear hps
        go_wp2_with fail
        refine HPS.out.mono ?_
        rintro e w3 ⟨rfl, pv3, hi3, hk3, hm3⟩
        have hbel3 := hbel.trans (pushS_below HI.out hk3 (Nat.le_refl B))
        have H3 := Lib.hid hi3
        have hrow3 := hk3.row HO.out HS.out
        have hs3 : ∀ g, (Value.slice go' (k - T) gc).ownBlock = some g → ¬ Tch B pv3 g := fun g hg h => by
          rcases h with h | h
          · exact HS.out g hg (.inl h)
          · rcases hm3 g h with h' | h'
            · exact HS.out g hg (.inr h')
            · have := (HO.out.lt g hg).2; omega
        have hsz3 : B + 1 ≤ w3.heap.size := by have := hi3.lt; omega
        have HO3 := Lib.hid hrow3; have HS3 := Lib.hid hs3; have HN3 := Lib.hid (HN2.out hTk)
        have h63 : k - T + 1 ≤ maxLen := by unfold maxLen; omega
        have h47 : (k - T + 1) * 16 ≤ 140737488355328 := by omega
        clear hi3 hk3 hm3 HPS HI HO HS hbel hcr hrow3 hs3 HN2 HPOP
        go_wp2_with (at_builtin; refine wpList_append_moved _ rfl _ _ 44 rfl (B + 1) 9 i0 (Value.string ByteArray.empty) 1 16 Try.underlying44 hi hz0 hz1 hz2 rfl (by decide) _ _ _ rfl (HO3.out.alloc _) ⟨w3.heap.size, 0, none⟩ 1 1 [Value.string y] rfl rfl ?c1 ?c2 ?c3 ?c4 ?c5 ?_)
        case c1 => exact cells_one_new w3 _ _
        case c2 => intro u hu; simp at hu; subst hu; rfl
        case c3 => exact h63
        case c4 => exact h47
        case c5 => simp; omega
        intro v' w4 hown4 hgrow4 hmov4
        obtain ⟨go4, gc4, rfl⟩ := own_slice hown4
        have hk4 : Kept w3 w4 (fun g => (Value.slice go' (k - T) gc).ownBlock = some g) := ((Kept.refl w3 _).alloc _).grown hgrow4 (fun g hg _ => hg)
        have hbel4 := hbel3.trans (hk4.below (by omega) (fun g hg => by have := (HO3.out.lt g hg).1; omega))
        have H4 := Lib.hid (RingIs.kept H3.out hk4 (fun h => HS3.out B h (.inl rfl)) (fun g hg h => HS3.out g h (.inr hg)))
        have hs4 : ∀ g, (Value.slice go4 (k - T + 1) gc4).ownBlock = some g → ¬ Tch B pv3 g := fun g hg h => by
          rcases hmov4 g hg with h' | h'
          · exact HS3.out g h' h
          · simp at h'
            rcases h with h | h
            · omega
            · have := (H3.out.own g h).2; omega
        have HO4 := Lib.hid hown4; have HS4 := Lib.hid hs4
        have e5 : k - T + 1 = k + 1 - T := by omega
        rw [e5] at HO4 HS4
        have HE5 := Lib.hid e5
        clear hown4 hgrow4 hmov4 hk4 hs4 HO3 HS3 H3 hbel3 e5 h63 h47
        go_wp2_with fail
        go_roundg (n - (k + 1))
        case measure => omega
        case rel => exact ⟨k + 1, pv3, _, by go_num, by rw [HE5.out], by omega, Nat.le_refl _, H4, Lib.hid (by rw [HN3.out]; exact HO4.out), HS4, hbel4⟩
    · obtain rfl : k = n := by omega
      have hrow := HO.out
      rw [← HP.out, ← List.map_take] at hrow
      obtain ⟨go', gc, rfl, hgs⟩ := Strs.of_own hrow
      have hi0 : rS.Is wr B pv ((rg.lastOf ss T).map Value.string) T p := by
        have := HI.out
        rwa [List.take_of_length_le (by rw [List.length_map, HV.out.len]; exact Nat.le_refl _), lastOf_mapS, ← HP.out] at this
      have hllen : ((rg.lastOf ss T).map Value.string).length = q := by rw [List.length_map]; exact HL2.out
      have hszB : B ≤ wr.heap.size := by have := hbel.size; have := HB.out; omega
      have hln := fun w' (hb : Below wr.heap.size wr w') => lenS_law (hi0.below hb) hllen
      have hgo := fun w' (hb : Below wr.heap.size wr w') => goneS_is (hi0.below hb)
      have hall := fun w' (hb : Below wr.heap.size wr w') => allS_law2 (l := q) (hi0.below hb) HL2.out
      have hsm1 := fun w' (hb : Below wr.heap.size wr w') => sameS_any go' p gc o cap (ss.take p) w' (hgs.below hb) ((HHI.out.below (HB.out.symm ▸ hbel)).below hb)
      have hlo2 := fun w' (hb : Below wr.heap.size wr w') => (HLO.out.below (HB.out.symm ▸ hbel)).below hb
      have H1 := Lib.hid hln; have H2 := Lib.hid hgo; have H3 := Lib.hid hall; have H4 := Lib.hid hsm1; have H5 := Lib.hid hlo2
      have e1 := E1.out; have e2 := E2.out; have e3 := E3.out; have e3w := E3W.out
      clear hrow hgs hi0 hllen hln hgo hall hsm1 hlo2 HI HO HS hgg hlt
      go_wp2_with fail
      have s0 : Below wr.heap.size wr wr.drew := (Below.refl _ _).drew
      go_region_held3 (fun w' => Below wr.heap.size wr w') (with_reducible first | assumption | exact s0 | exact Below.refl _ _ | exact below_drewN (Below.refl _ _) _ | exact below_drewN (by assumption) _)
        (first
          | (go_at_call 24; refine (H1.out _ (by assumption)).mono ?_; rintro e w5 ⟨rfl, rfl⟩)
          | (go_at_call 25; refine (H2.out _ (by assumption)).mono ?_; rintro e w5 ⟨rfl, rfl⟩)
          | (go_at_call_of 26 (Value.slice go' p gc); refine (H4.out _ (by assumption)).mono ?_; rintro e w5 ⟨rfl, nq5, rfl⟩)
          | (go_at_call 27; refine (H3.out _ (by assumption)).mono ?_; rintro e w6 ⟨ao, ac, rfl, hia, hb6⟩; have hb7 := below_step (w := wr) (by assumption) hb6)
          | (go_at_call 26; refine (sameS_any2 _ _ _ _ _ _ _ _ (by assumption) (H5.out _ (by assumption))).mono ?_; rintro e w7 ⟨rfl, nq7, rfl⟩))
      all_goals
        have hbelf : Below wr.heap.size wr w6 := hb7
        go_wp2_with fail
        go_ret
        exact ⟨rfl, below_drewN (hbel.trans (hbelf.mono hszB)) _⟩
end Go.Proofs.Ytaklkhjgdopbgaa
