/- RingPlays returns true at every input: whatever is pushed, popped, shrunk and looked at, a ring answers as the document says. No condition. -/
import Derived.Test.YtaklkhjgdopbgaaRingOpsIn
namespace Go.Proofs.Ytaklkhjgdopbgaa
open Go.RowKit

set_option maxRecDepth 100000 in
set_option maxHeartbeats 16000000 in
theorem plays_any (m : Int) (o : Option Addr) (n cap : Nat) (L : List (Int × Int)) (w : World) (hv : Ops w o n cap L) (hn : n * 16 ≤ 140737488351232) :
    Calls Try.prog 3 #[.int .i64 m, .slice o n cap] w fun e w' => e = .returned (.bool true) ∧ Below w.heap.size w w' := by
  have hcap : cap ≤ 9223372036854775807 := hv.max
  have hle := hv.le
  obtain ⟨T, hT⟩ : ∃ T, rI.top m = T := ⟨_, rfl⟩
  have hT1 : T ≤ 1000 := by rw [← hT]; exact rI.top_le m
  generalize hB : w.heap.size = B at *
  have HB := Lib.hid hB; have HT := Lib.hid hT; have HV := Lib.hid hv
  clear hB hT hv
  go_enter Try.func3, Try.ntmps3
  go_wp2_with fail
  refine (rI.new_any _ _).mono ?_
  rintro e w1 ⟨rfl, his, hb1⟩
  rw [HB.out, HT.out] at his
  rw [HB.out] at hb1
  rw [HB.out]
  have hlt1 := his.lt
  have H1 := Lib.hid his; clear his
  go_wp2_with fail
  refine (alive_any _).mono ?_
  rintro e w2 ⟨rfl, hb2'⟩
  have hb2 := hb1.trans (hb2'.mono (by omega))
  have H2 := Lib.hid (H1.out.below hb2')
  clear H1 hb2' hb1 hlt1
  have hlt2 := H2.out.lt
  go_wp2_with fail
  refine (refNew_any _ _).mono ?_
  rintro e w3 ⟨rfl, hb3'⟩
  rw [HT.out]
  have hb3 := hb2.trans (hb3'.mono (by omega))
  have H3 := Lib.hid (H2.out.below hb3')
  have hlt3 := H3.out.lt
  clear H2 hb3' hb2 hlt2
  go_wp2_with fail
  have hst0 : St (w3.alloc (boxObj (.slice none 0 0) T 0)) B (.slice none 0 0) w3.heap.size none 0 0 T 0 [] :=
    ⟨heap_alloc_new w3 _, ⟨rfl, Nat.le_refl _, Nat.zero_le _, .inl rfl⟩, fun a ha => (by cases ha), fun h => by
      rcases h with h | h
      · omega
      · simp [Value.ownBlock] at h⟩
  have hb4 := hb3.alloc (by omega) (boxObj (.slice none 0 0) T 0)
  have hi4 := H3.out.below ((Below.refl w3.heap.size w3).alloc (Nat.le_refl _) (boxObj (.slice none 0 0) T 0))
  have HS0 := Lib.hid hst0; have HI0 := Lib.hid hi4; have HB4 := Lib.hid hb4
  clear hst0 hi4 hb4 hb3 H3
  have hBm : B ≤ w3.heap.size := by omega
  clear hlt3
  generalize w3.heap.size = mb at *
  go_loopg [36] n (fun gg s36 wr => ∃ (k N c' M g : Nat) (pv : Value) (o' : Option Addr) (zs : List Int), s36 = .int .i64 k ∧ k ≤ n ∧ n - k ≤ gg ∧ g ≤ 1001 * k ∧ Hid (zs.length = N) ∧ Hid (rI.Is wr B pv (zs.map (Value.int .i64)) M g) ∧ Hid (St wr B pv mb o' N c' M g zs) ∧ Below B w wr)
  case atStart => exact ⟨0, 0, 0, T, 0, _, none, [], rfl, Nat.zero_le _, by omega, by omega, Lib.hid rfl, HI0, HS0, HB4.out⟩
  case round =>
    obtain ⟨k, N, c', M, g, pv, o', zs, rfl, hk, hgg, hgk, HN, HI, HS, hbel⟩ := hrel
    clear HS0 HI0 HB4
    by_cases hlt : k < n
    · obtain ⟨vb, off, hob, hvb, hkd, hvv⟩ := HV.out.cell hlt
      have hkd2 := (hbel.cell (p := ⟨vb, off + k * 2, none⟩) (by show vb < B; rw [← HB.out]; exact hvb)).trans hkd
      have hvv2 := (hbel.cell (p := ⟨vb, off + k * 2 + 1, none⟩) (by show vb < B; rw [← HB.out]; exact hvb)).trans hvv
      subst hob
      generalize (L.getD k (0, 0)).1 = kd at *
      generalize (L.getD k (0, 0)).2 = v at *
      have hszB : B < wr.heap.size := HI.out.lt
      have hle1 := HI.out.le
      rw [List.length_map, HN.out] at hle1
      obtain ⟨hNM, hM1⟩ := hle1
      clear hkd hvv hvb
      have hba : Below wr.heap.size wr (wr.alloc (.cells #[.int .i64 kd, .int .i64 v] 31)) := (Below.refl _ _).alloc (Nat.le_refl _) _
      have hia := HI.out.below hba
      have hsa := HS.out.below hba
      have hbela := hbel.alloc (by omega) (.cells #[.int .i64 kd, .int .i64 v] 31)
      have hnt := Lib.hid (show ¬ Tch B pv wr.heap.size from fun h => by
        rcases h with h | h
        · omega
        · have := HI.out.own _ h; omega)
      have HIA := Lib.hid hia; have HSA := Lib.hid hsa; have HBA := Lib.hid hbela
      clear hba hia hsa hbela HI HS hbel
      by_cases h1 : kd = 1
      · subst h1
        by_cases hNM2 : N < M
        · have hps := rI.push_room B pv (zs.map (Value.int .i64)) M g v _ HIA.out (by rw [List.length_map, HN.out]; exact hNM2)
          have HP := Lib.hid hps; clear hps
          go_wp2_with fail
          refine HP.out.mono ?_
          rintro e w4 ⟨rfl, pv4, hi4, hk4, hm4⟩
          have hbel4 := HBA.out.trans (push_below HIA.out hk4 (Nat.le_refl B))
          have hs4 := HSA.out.ring hk4 hm4
          have hv4 := hk4.cell (a := ⟨wr.heap.size, 1, none⟩) (v := .int .i64 v) (by simp) (hnt.out)
          obtain ⟨e0, e1, e2, y0, y1, y2, hl0⟩ := boxCells hs4.box
          have hzl4 : (zs ++ [v]).length = N + 1 := by rw [List.length_append, HN.out]; rfl
          rw [show zs.map (Value.int .i64) ++ [Value.int .i64 v] = (zs ++ [v]).map (Value.int .i64) by simp] at hi4
          have H4 := Lib.hid hi4; have HS4 := Lib.hid hs4; have HZX := Lib.hid hzl4
          clear hi4 hk4 hm4 hs4 HP HIA HSA HBA hzl4
          go_wp2_with fail
          refine (refPush_any o' N c' M g v zs w4 HS4.out.ints (by omega) hM1 (by omega)).mono ?_
          rintro e w5 ⟨o2, c2, hf2, hb5, hd⟩
          rcases hd with ⟨_, rfl, hi5⟩ | ⟨hMN, _, _⟩
          · have hst5 := HS4.out.below hb5
            have his5 := H4.out.below hb5
            have hbel5 := hbel4.trans (hb5.mono (by have := H4.out.lt; omega))
            have hsep5 := fresh_sep HS4.out H4.out hf2
            obtain ⟨hq1, hq2, hq3⟩ := next_put (M := M) (g := g) hst5 his5 hbel5 hBm hi5 hsep5 (M : Int) (g : Int) rfl rfl
            obtain ⟨e0, e1, e2, y0, y1, y2, hl0⟩ := boxCells hst5.box
            clear hst5 his5 hbel5 hsep5 hi5 hb5 hf2 H4 HS4 hbel4 hv4
            have hq1' : St (World.alloc (((World.setCell w5 ⟨mb, 0, none⟩ (Value.slice o2 (N + 1) c2)).setCell ⟨mb, 1, none⟩ (Value.int .i64 (M : Int))).setCell ⟨mb, 2, none⟩ (Value.int .i64 (g : Int))) (.cells #[(Value.slice o2 (N + 1) c2), (Value.int .i64 (M : Int)), (Value.int .i64 (g : Int))] 28)) B pv4 mb o2 (N + 1) c2 M g (zs ++ [v]) := hq1
            have hq2' : rI.Is (World.alloc (((World.setCell w5 ⟨mb, 0, none⟩ (Value.slice o2 (N + 1) c2)).setCell ⟨mb, 1, none⟩ (Value.int .i64 (M : Int))).setCell ⟨mb, 2, none⟩ (Value.int .i64 (g : Int))) (.cells #[(Value.slice o2 (N + 1) c2), (Value.int .i64 (M : Int)), (Value.int .i64 (g : Int))] 28)) B pv4 ((zs ++ [v]).map (Value.int .i64)) M g := hq2
            have hq3' : Below B w (World.alloc (((World.setCell w5 ⟨mb, 0, none⟩ (Value.slice o2 (N + 1) c2)).setCell ⟨mb, 1, none⟩ (Value.int .i64 (M : Int))).setCell ⟨mb, 2, none⟩ (Value.int .i64 (g : Int))) (.cells #[(Value.slice o2 (N + 1) c2), (Value.int .i64 (M : Int)), (Value.int .i64 (g : Int))] 28)) := hq3
            go_wp2_with fail
            clear hq1 hq2 hq3
            generalize (World.alloc (((World.setCell w5 ⟨mb, 0, none⟩ (Value.slice o2 (N + 1) c2)).setCell ⟨mb, 1, none⟩ (Value.int .i64 (M : Int))).setCell ⟨mb, 2, none⟩ (Value.int .i64 (g : Int))) (.cells #[(Value.slice o2 (N + 1) c2), (Value.int .i64 (M : Int)), (Value.int .i64 (g : Int))] 28)) = X at *
            have HQ1 := Lib.hid hq1'; have HQ2 := Lib.hid hq2'; have HQ3 := Lib.hid hq3'
            clear hq1' hq2' hq3'
            clear e0 e1 e2 y0 y1 y2 hl0
            have hgX : g ≤ 1001 * (k + 1) := by omega
            have hbx := HQ1.out.box
            obtain ⟨f0, f1, f2, g0', g1', g2', hlX⟩ := boxCells hbx
            have hlen : ∀ j, Calls Try.prog 18 #[.pointer (some ⟨B, 0, none⟩)] (X.drewN j) (fun e w' => e = .returned (.int .i64 ((N + 1) : Int)) ∧ w' = X.drewN j) := fun j => (len_law (is_drewN HQ2.out j) (by rw [List.length_map]; exact HZX.out)).mono fun _ _ h => ⟨h.1, h.2.symm⟩
            have hgon : ∀ j, Calls Try.prog 19 #[.pointer (some ⟨B, 0, none⟩)] (X.drewN j) (fun e w' => e = .returned (.int .i64 (g : Int)) ∧ w' = X.drewN j) := fun j => (gone_is (is_drewN HQ2.out j)).mono fun _ _ h => ⟨h.1, h.2.symm⟩
            have HLN := Lib.hid hlen; have HGN := Lib.hid hgon
            clear hlen hgon hbx
            go_quiet ((first | (go_at_call 18; exact Calls.quiet_of_same (HLN.out _)) | (go_at_call 19; exact Calls.quiet_of_same (HGN.out _))))
            have hbelX := below_drewN HQ3.out nq
            have HIX := Lib.hid (is_drewN HQ2.out nq)
            have HSX := Lib.hid (HQ1.out.drewN nq)
            clear f0 f1 f2 g0' g1' g2' hlX HLN HGN HQ1 HQ2 HQ3
            go_wp2_with fail
            go_roundg (n - (k + 1))
            case measure => omega
            case rel => exact ⟨k + 1, (N + 1), c2, M, g, pv4, o2, (zs ++ [v]), by go_num, by omega, Nat.le_refl _, hgX, HZX, HIX, HSX, hbelX⟩
          · exact absurd hMN (by omega)
        · have hNe : N = M := by omega
          have hps := push_over2 v HIA.out (by rw [HN.out]; exact hNe) (by omega)
          have hzl4 : (zs ++ [v]).tail.length = N := by rw [List.length_tail, List.length_append, HN.out]; rfl
          have HNE := Lib.hid hNe; clear hNe
          obtain ⟨x, hx⟩ : ∃ x, x = (zs ++ [v]).headD 0 := ⟨_, rfl⟩
          rw [← hx] at hps
          have HP := Lib.hid hps; have HX := Lib.hid hx; clear hps hx
          go_wp2_with fail
          refine HP.out.mono ?_
          rintro e w4 ⟨rfl, pv4, hi4, hk4, hm4⟩
          have hbel4 := HBA.out.trans (push_below HIA.out hk4 (Nat.le_refl B))
          have hs4 := HSA.out.ring hk4 hm4
          have hv4 := hk4.cell (a := ⟨wr.heap.size, 1, none⟩) (v := .int .i64 v) (by simp) (hnt.out)
          obtain ⟨e0, e1, e2, y0, y1, y2, hl0⟩ := boxCells hs4.box
          have H4 := Lib.hid hi4; have HS4 := Lib.hid hs4; have HZX := Lib.hid hzl4
          clear hi4 hk4 hm4 hs4 HP HIA HSA HBA hzl4
          go_wp2_with fail
          refine (refPush_any o' N c' M g v zs w4 HS4.out.ints (by omega) hM1 (by omega)).mono ?_
          rintro e w5 ⟨o2, c2, hf2, hb5, hd⟩
          rcases hd with ⟨hMN, _, _⟩ | ⟨_, rfl, hi5⟩
          · exact absurd hMN (by omega)
          · rw [← HX.out]
            have hst5 := HS4.out.below hb5
            have his5 := H4.out.below hb5
            have hbel5 := hbel4.trans (hb5.mono (by have := H4.out.lt; omega))
            have hsep5 := fresh_sep HS4.out H4.out hf2
            obtain ⟨hq1, hq2, hq3⟩ := next_put (M := M) (g := g + 1) hst5 his5 hbel5 hBm hi5 hsep5 (M : Int) ((g : Int) + 1) rfl (by omega)
            obtain ⟨e0, e1, e2, y0, y1, y2, hl0⟩ := boxCells hst5.box
            clear hst5 his5 hbel5 hsep5 hi5 hb5 hf2 H4 HS4 hbel4 hv4
            have hq1' : St (World.alloc (((World.setCell w5 ⟨mb, 0, none⟩ (Value.slice o2 N c2)).setCell ⟨mb, 1, none⟩ (Value.int .i64 (M : Int))).setCell ⟨mb, 2, none⟩ (Value.int .i64 ((g : Int) + 1))) (.cells #[(Value.slice o2 N c2), (Value.int .i64 (M : Int)), (Value.int .i64 ((g : Int) + 1))] 28)) B pv4 mb o2 N c2 M (g + 1) (zs ++ [v]).tail := hq1
            have hq2' : rI.Is (World.alloc (((World.setCell w5 ⟨mb, 0, none⟩ (Value.slice o2 N c2)).setCell ⟨mb, 1, none⟩ (Value.int .i64 (M : Int))).setCell ⟨mb, 2, none⟩ (Value.int .i64 ((g : Int) + 1))) (.cells #[(Value.slice o2 N c2), (Value.int .i64 (M : Int)), (Value.int .i64 ((g : Int) + 1))] 28)) B pv4 ((zs ++ [v]).tail.map (Value.int .i64)) M (g + 1) := hq2
            have hq3' : Below B w (World.alloc (((World.setCell w5 ⟨mb, 0, none⟩ (Value.slice o2 N c2)).setCell ⟨mb, 1, none⟩ (Value.int .i64 (M : Int))).setCell ⟨mb, 2, none⟩ (Value.int .i64 ((g : Int) + 1))) (.cells #[(Value.slice o2 N c2), (Value.int .i64 (M : Int)), (Value.int .i64 ((g : Int) + 1))] 28)) := hq3
            go_wp2_with fail
            clear hq1 hq2 hq3
            generalize (World.alloc (((World.setCell w5 ⟨mb, 0, none⟩ (Value.slice o2 N c2)).setCell ⟨mb, 1, none⟩ (Value.int .i64 (M : Int))).setCell ⟨mb, 2, none⟩ (Value.int .i64 ((g : Int) + 1))) (.cells #[(Value.slice o2 N c2), (Value.int .i64 (M : Int)), (Value.int .i64 ((g : Int) + 1))] 28)) = X at *
            have HQ1 := Lib.hid hq1'; have HQ2 := Lib.hid hq2'; have HQ3 := Lib.hid hq3'
            clear hq1' hq2' hq3'
            clear e0 e1 e2 y0 y1 y2 hl0
            have hgX : (g + 1) ≤ 1001 * (k + 1) := by omega
            have hbx := HQ1.out.box
            obtain ⟨f0, f1, f2, g0', g1', g2', hlX⟩ := boxCells hbx
            have hlen : ∀ j, Calls Try.prog 18 #[.pointer (some ⟨B, 0, none⟩)] (X.drewN j) (fun e w' => e = .returned (.int .i64 (N : Int)) ∧ w' = X.drewN j) := fun j => (len_law (is_drewN HQ2.out j) (by rw [List.length_map]; exact HZX.out)).mono fun _ _ h => ⟨h.1, h.2.symm⟩
            have hgon : ∀ j, Calls Try.prog 19 #[.pointer (some ⟨B, 0, none⟩)] (X.drewN j) (fun e w' => e = .returned (.int .i64 ((g + 1) : Int)) ∧ w' = X.drewN j) := fun j => (gone_is (is_drewN HQ2.out j)).mono fun _ _ h => ⟨h.1, h.2.symm⟩
            have HLN := Lib.hid hlen; have HGN := Lib.hid hgon
            clear hlen hgon hbx
            go_quiet ((first | (go_at_call 18; exact Calls.quiet_of_same (HLN.out _)) | (go_at_call 19; exact Calls.quiet_of_same (HGN.out _))))
            have hbelX := below_drewN HQ3.out nq
            have HIX := Lib.hid (is_drewN HQ2.out nq)
            have HSX := Lib.hid (HQ1.out.drewN nq)
            clear f0 f1 f2 g0' g1' g2' hlX HLN HGN HQ1 HQ2 HQ3
            go_wp2_with fail
            go_roundg (n - (k + 1))
            case measure => omega
            case rel => exact ⟨k + 1, N, c2, M, (g + 1), pv4, o2, (zs ++ [v]).tail, by go_num, by omega, Nat.le_refl _, hgX, HZX, HIX, HSX, hbelX⟩
      · have k1 : (kd == 1) = false := by simpa using h1
        by_cases h2 : kd = 2
        · subst h2
          clear h1 k1
          by_cases hN0 : N = 0
          · subst hN0
            obtain rfl : zs = [] := List.eq_nil_of_length_eq_zero HN.out
            have HZX := HN
            go_wp2_with fail
            refine (rI.pop_none B pv M g _ HIA.out).mono ?_
            rintro e w4 ⟨rfl, rfl⟩
            obtain ⟨e0, e1, e2, y0, y1, y2, hl0⟩ := boxCells HSA.out.box
            go_wp2_with fail
            refine (refPop_none o' c' M g _).mono ?_
            rintro e w5 ⟨rfl, hb5⟩
            have hst5 := HSA.out.below hb5
            have his5 := HIA.out.below hb5
            have hbel5 := HBA.out.trans (hb5.mono (Nat.le_of_lt HIA.out.lt))
            obtain ⟨hq1, hq2, hq3⟩ := next_put (M := M) (g := g) hst5 his5 hbel5 hBm hst5.ints hst5.sep (M : Int) (g : Int) rfl rfl
            clear e0 e1 e2 y0 y1 y2 hl0
            obtain ⟨e0, e1, e2, y0, y1, y2, hl0⟩ := boxCells hst5.box
            clear hst5 his5 hbel5 hb5 HIA HSA HBA
            have hq1' : St (World.alloc (((World.setCell w5 ⟨mb, 0, none⟩ (Value.slice o' 0 c')).setCell ⟨mb, 1, none⟩ (Value.int .i64 (M : Int))).setCell ⟨mb, 2, none⟩ (Value.int .i64 (g : Int))) (.cells #[(Value.slice o' 0 c'), (Value.int .i64 (M : Int)), (Value.int .i64 (g : Int))] 28)) B pv mb o' 0 c' M g [] := hq1
            have hq2' : rI.Is (World.alloc (((World.setCell w5 ⟨mb, 0, none⟩ (Value.slice o' 0 c')).setCell ⟨mb, 1, none⟩ (Value.int .i64 (M : Int))).setCell ⟨mb, 2, none⟩ (Value.int .i64 (g : Int))) (.cells #[(Value.slice o' 0 c'), (Value.int .i64 (M : Int)), (Value.int .i64 (g : Int))] 28)) B pv (([] : List Int).map (Value.int .i64)) M g := hq2
            have hq3' : Below B w (World.alloc (((World.setCell w5 ⟨mb, 0, none⟩ (Value.slice o' 0 c')).setCell ⟨mb, 1, none⟩ (Value.int .i64 (M : Int))).setCell ⟨mb, 2, none⟩ (Value.int .i64 (g : Int))) (.cells #[(Value.slice o' 0 c'), (Value.int .i64 (M : Int)), (Value.int .i64 (g : Int))] 28)) := hq3
            go_wp2_with fail
            clear hq1 hq2 hq3
            generalize (World.alloc (((World.setCell w5 ⟨mb, 0, none⟩ (Value.slice o' 0 c')).setCell ⟨mb, 1, none⟩ (Value.int .i64 (M : Int))).setCell ⟨mb, 2, none⟩ (Value.int .i64 (g : Int))) (.cells #[(Value.slice o' 0 c'), (Value.int .i64 (M : Int)), (Value.int .i64 (g : Int))] 28)) = X at *
            have HQ1 := Lib.hid hq1'; have HQ2 := Lib.hid hq2'; have HQ3 := Lib.hid hq3'
            clear hq1' hq2' hq3'
            clear e0 e1 e2 y0 y1 y2 hl0
            have hgX : g ≤ 1001 * (k + 1) := by omega
            have hbx := HQ1.out.box
            obtain ⟨f0, f1, f2, g0', g1', g2', hlX⟩ := boxCells hbx
            have hlen : ∀ j, Calls Try.prog 18 #[.pointer (some ⟨B, 0, none⟩)] (X.drewN j) (fun e w' => e = .returned (.int .i64 (0 : Int)) ∧ w' = X.drewN j) := fun j => (len_law (is_drewN HQ2.out j) (by rw [List.length_map]; exact HZX.out)).mono fun _ _ h => ⟨h.1, h.2.symm⟩
            have hgon : ∀ j, Calls Try.prog 19 #[.pointer (some ⟨B, 0, none⟩)] (X.drewN j) (fun e w' => e = .returned (.int .i64 (g : Int)) ∧ w' = X.drewN j) := fun j => (gone_is (is_drewN HQ2.out j)).mono fun _ _ h => ⟨h.1, h.2.symm⟩
            have HLN := Lib.hid hlen; have HGN := Lib.hid hgon
            clear hlen hgon hbx
            go_quiet ((first | (go_at_call 18; exact Calls.quiet_of_same (HLN.out _)) | (go_at_call 19; exact Calls.quiet_of_same (HGN.out _))))
            have hbelX := below_drewN HQ3.out nq
            have HIX := Lib.hid (is_drewN HQ2.out nq)
            have HSX := Lib.hid (HQ1.out.drewN nq)
            clear f0 f1 f2 g0' g1' g2' hlX HLN HGN HQ1 HQ2 HQ3
            go_wp2_with fail
            go_roundg (n - (k + 1))
            case measure => omega
            case rel => exact ⟨k + 1, 0, c', M, g, pv, o', [], by go_num, by omega, Nat.le_refl _, hgX, HZX, HIX, HSX, hbelX⟩
          · obtain ⟨N0, rfl⟩ : ∃ N0, N = N0 + 1 := ⟨N - 1, by omega⟩
            have hne : zs ≠ [] := fun h => by have := HN.out; rw [h] at this; simp at this
            obtain ⟨zs0, x, rfl⟩ : ∃ zs0 x, zs = zs0 ++ [x] := ⟨_, _, (List.dropLast_concat_getLast hne).symm⟩
            have hl0 : zs0.length = N0 := by have := HN.out; simpa using this
            have hia2 := HIA.out
            rw [List.map_append, List.map_cons, List.map_nil] at hia2
            have hgx : (zs0 ++ [x]).getD N0 0 = x := by rw [← hl0]; simp [List.getD]
            have HZX := Lib.hid hl0; have HIA2 := Lib.hid hia2; have HGX := Lib.hid hgx
            clear hl0 hia2 hgx hne hN0
            go_wp2_with fail
            refine (rI.pop_some B pv _ _ M g _ HIA2.out).mono ?_
            rintro e w4 ⟨rfl, pv4, hi4, hk4, hm4⟩
            have hbel4 := HBA.out.trans (push_below HIA.out hk4 (Nat.le_refl B))
            have hs4 := HSA.out.ring hk4 hm4
            obtain ⟨e0, e1, e2, y0, y1, y2, hl0⟩ := boxCells hs4.box
            have H4 := Lib.hid hi4; have HS4 := Lib.hid hs4
            clear hi4 hk4 hm4 hs4 HIA HIA2 HSA HBA
            go_wp2_with fail
            refine (refPop_some o' N0 c' M g _ w4 HS4.out.ints (by omega)).mono ?_
            rintro e w5 ⟨rfl, hb5⟩
            rw [HGX.out]
            have hst5 := HS4.out.below hb5
            have his5 := H4.out.below hb5
            have hbel5 := hbel4.trans (hb5.mono (Nat.le_of_lt H4.out.lt))
            obtain ⟨hq1, hq2, hq3⟩ := next_put (M := M) (g := g) hst5 his5 hbel5 hBm hst5.ints.init hst5.sep (M : Int) (g : Int) rfl rfl
            clear e0 e1 e2 y0 y1 y2 hl0
            obtain ⟨e0, e1, e2, y0, y1, y2, hl0⟩ := boxCells hst5.box
            clear hst5 his5 hbel5 hb5 H4 HS4 hbel4
            have hq1' : St (World.alloc (((World.setCell w5 ⟨mb, 0, none⟩ (Value.slice o' N0 N0)).setCell ⟨mb, 1, none⟩ (Value.int .i64 (M : Int))).setCell ⟨mb, 2, none⟩ (Value.int .i64 (g : Int))) (.cells #[(Value.slice o' N0 N0), (Value.int .i64 (M : Int)), (Value.int .i64 (g : Int))] 28)) B pv4 mb o' N0 N0 M g zs0 := hq1
            have hq2' : rI.Is (World.alloc (((World.setCell w5 ⟨mb, 0, none⟩ (Value.slice o' N0 N0)).setCell ⟨mb, 1, none⟩ (Value.int .i64 (M : Int))).setCell ⟨mb, 2, none⟩ (Value.int .i64 (g : Int))) (.cells #[(Value.slice o' N0 N0), (Value.int .i64 (M : Int)), (Value.int .i64 (g : Int))] 28)) B pv4 (zs0.map (Value.int .i64)) M g := hq2
            have hq3' : Below B w (World.alloc (((World.setCell w5 ⟨mb, 0, none⟩ (Value.slice o' N0 N0)).setCell ⟨mb, 1, none⟩ (Value.int .i64 (M : Int))).setCell ⟨mb, 2, none⟩ (Value.int .i64 (g : Int))) (.cells #[(Value.slice o' N0 N0), (Value.int .i64 (M : Int)), (Value.int .i64 (g : Int))] 28)) := hq3
            go_wp2_with fail
            clear hq1 hq2 hq3
            generalize (World.alloc (((World.setCell w5 ⟨mb, 0, none⟩ (Value.slice o' N0 N0)).setCell ⟨mb, 1, none⟩ (Value.int .i64 (M : Int))).setCell ⟨mb, 2, none⟩ (Value.int .i64 (g : Int))) (.cells #[(Value.slice o' N0 N0), (Value.int .i64 (M : Int)), (Value.int .i64 (g : Int))] 28)) = X at *
            have HQ1 := Lib.hid hq1'; have HQ2 := Lib.hid hq2'; have HQ3 := Lib.hid hq3'
            clear hq1' hq2' hq3'
            clear e0 e1 e2 y0 y1 y2 hl0
            have hgX : g ≤ 1001 * (k + 1) := by omega
            have hbx := HQ1.out.box
            obtain ⟨f0, f1, f2, g0', g1', g2', hlX⟩ := boxCells hbx
            have hlen : ∀ j, Calls Try.prog 18 #[.pointer (some ⟨B, 0, none⟩)] (X.drewN j) (fun e w' => e = .returned (.int .i64 (N0 : Int)) ∧ w' = X.drewN j) := fun j => (len_law (is_drewN HQ2.out j) (by rw [List.length_map]; exact HZX.out)).mono fun _ _ h => ⟨h.1, h.2.symm⟩
            have hgon : ∀ j, Calls Try.prog 19 #[.pointer (some ⟨B, 0, none⟩)] (X.drewN j) (fun e w' => e = .returned (.int .i64 (g : Int)) ∧ w' = X.drewN j) := fun j => (gone_is (is_drewN HQ2.out j)).mono fun _ _ h => ⟨h.1, h.2.symm⟩
            have HLN := Lib.hid hlen; have HGN := Lib.hid hgon
            clear hlen hgon hbx
            go_quiet ((first | (go_at_call 18; exact Calls.quiet_of_same (HLN.out _)) | (go_at_call 19; exact Calls.quiet_of_same (HGN.out _))))
            have hbelX := below_drewN HQ3.out nq
            have HIX := Lib.hid (is_drewN HQ2.out nq)
            have HSX := Lib.hid (HQ1.out.drewN nq)
            clear f0 f1 f2 g0' g1' g2' hlX HLN HGN HQ1 HQ2 HQ3
            go_wp2_with fail
            go_roundg (n - (k + 1))
            case measure => omega
            case rel => exact ⟨k + 1, N0, N0, M, g, pv4, o', zs0, by go_num, by omega, Nat.le_refl _, hgX, HZX, HIX, HSX, hbelX⟩
        · have k2 : (kd == 2) = false := by simpa using h2
          by_cases h3 : kd = 3
          · subst h3
            clear h1 h2 k1 k2
            obtain ⟨V, hV⟩ : ∃ V, V = rI.top v := ⟨_, rfl⟩
            have hV1 : V ≤ 1000 := by rw [hV]; exact rI.top_le v
            have HVV := Lib.hid hV; clear hV
            go_wp2_with fail
            refine (rI.shrink_any B pv _ M g v _ HIA.out (by omega)).mono ?_
            rintro e w4 ⟨rfl, pv4, hi4, hk4, hm4⟩
            rw [← HVV.out, lastOf_map, List.length_map, HN.out] at hi4
            have hbel4 := HBA.out.trans (push_below HIA.out hk4 (Nat.le_refl B))
            have hs4 := HSA.out.ring hk4 hm4
            have hv4 := hk4.cell (a := ⟨wr.heap.size, 1, none⟩) (v := .int .i64 v) (by simp) (hnt.out)
            obtain ⟨e0, e1, e2, y0, y1, y2, hl0⟩ := boxCells hs4.box
            have hzl := rg.length_lastOf zs V
            rw [HN.out] at hzl
            have H4 := Lib.hid hi4; have HS4 := Lib.hid hs4
            clear hi4 hk4 hm4 hs4 HIA HSA HBA
            go_wp2_with fail
            refine (refShrink_any o' N c' M g v zs w4 HS4.out.ints (fun a ha => (HS4.out.sep a ha).1) (by omega) (by omega)).mono ?_
            rw [← HVV.out]
            obtain ⟨Q, hQ⟩ : ∃ Q, Q = min V N := ⟨_, rfl⟩
            obtain ⟨G, hG⟩ : ∃ G, G = g + (N - V) := ⟨_, rfl⟩
            rw [← hQ] at hzl
            rw [← hQ, ← hG]
            rintro e w5 ⟨o2, c2, rfl, hi5, hbk, hb5⟩
            have hst5 := HS4.out.below hb5
            have his5 := H4.out.below hb5
            rw [← hG] at his5
            have hGb : G ≤ 1001 * k + 1000 := by omega
            have hQN : Q ≤ N := by omega
            have HZX := Lib.hid hzl
            have hbel5 := hbel4.trans (hb5.mono (Nat.le_of_lt H4.out.lt))
            have hsep5 : ∀ a, o2 = some a → a.block < w5.heap.size ∧ ¬ Tch B pv4 a.block ∧ a.block ≠ mb := fun a ha => by
              obtain ⟨a0, h0, h1⟩ := hbk a ha
              rw [h1]
              exact hst5.sep a0 h0
            obtain ⟨hq1, hq2, hq3⟩ := put_put (M := V) (g := G) hst5 his5 hbel5 hBm hi5 hsep5 (V : Int) (G : Int) rfl rfl
            clear e0 e1 e2 y0 y1 y2 hl0
            obtain ⟨e0, e1, e2, y0, y1, y2, hl0⟩ := boxCells hst5.box
            clear hst5 his5 hbel5 hsep5 hi5 hb5 hbk H4 HS4 hbel4 hv4 hzl hQ hG
            have hq1' : St (((World.setCell w5 ⟨mb, 0, none⟩ (Value.slice o2 Q c2)).setCell ⟨mb, 1, none⟩ (Value.int .i64 (V : Int))).setCell ⟨mb, 2, none⟩ (Value.int .i64 (G : Int))) B pv4 mb o2 Q c2 V G (rg.lastOf zs V) := hq1
            have hq2' : rI.Is (((World.setCell w5 ⟨mb, 0, none⟩ (Value.slice o2 Q c2)).setCell ⟨mb, 1, none⟩ (Value.int .i64 (V : Int))).setCell ⟨mb, 2, none⟩ (Value.int .i64 (G : Int))) B pv4 ((rg.lastOf zs V).map (Value.int .i64)) V G := hq2
            have hq3' : Below B w (((World.setCell w5 ⟨mb, 0, none⟩ (Value.slice o2 Q c2)).setCell ⟨mb, 1, none⟩ (Value.int .i64 (V : Int))).setCell ⟨mb, 2, none⟩ (Value.int .i64 (G : Int))) := hq3
            go_wp2_with fail
            clear hq1 hq2 hq3
            generalize (((World.setCell w5 ⟨mb, 0, none⟩ (Value.slice o2 Q c2)).setCell ⟨mb, 1, none⟩ (Value.int .i64 (V : Int))).setCell ⟨mb, 2, none⟩ (Value.int .i64 (G : Int))) = X at *
            have HQ1 := Lib.hid hq1'; have HQ2 := Lib.hid hq2'; have HQ3 := Lib.hid hq3'
            clear hq1' hq2' hq3'
            clear e0 e1 e2 y0 y1 y2 hl0
            have hgX : G ≤ 1001 * (k + 1) := by omega
            have hbx := HQ1.out.box
            obtain ⟨f0, f1, f2, g0', g1', g2', hlX⟩ := boxCells hbx
            have hlen : ∀ j, Calls Try.prog 18 #[.pointer (some ⟨B, 0, none⟩)] (X.drewN j) (fun e w' => e = .returned (.int .i64 (Q : Int)) ∧ w' = X.drewN j) := fun j => (len_law (is_drewN HQ2.out j) (by rw [List.length_map]; exact HZX.out)).mono fun _ _ h => ⟨h.1, h.2.symm⟩
            have hgon : ∀ j, Calls Try.prog 19 #[.pointer (some ⟨B, 0, none⟩)] (X.drewN j) (fun e w' => e = .returned (.int .i64 (G : Int)) ∧ w' = X.drewN j) := fun j => (gone_is (is_drewN HQ2.out j)).mono fun _ _ h => ⟨h.1, h.2.symm⟩
            have HLN := Lib.hid hlen; have HGN := Lib.hid hgon
            clear hlen hgon hbx
            go_quiet ((first | (go_at_call 18; exact Calls.quiet_of_same (HLN.out _)) | (go_at_call 19; exact Calls.quiet_of_same (HGN.out _))))
            have hbelX := below_drewN HQ3.out nq
            have HIX := Lib.hid (is_drewN HQ2.out nq)
            have HSX := Lib.hid (HQ1.out.drewN nq)
            clear f0 f1 f2 g0' g1' g2' hlX HLN HGN HQ1 HQ2 HQ3
            go_wp2_with fail
            go_roundg (n - (k + 1))
            case measure => omega
            case rel => exact ⟨k + 1, Q, c2, V, G, pv4, o2, (rg.lastOf zs V), by go_num, by omega, Nat.le_refl _, hgX, HZX, HIX, HSX, hbelX⟩
          · have k3 : (kd == 3) = false := by simpa using h3
            by_cases h4 : kd = 4
            · subst h4
              clear h1 h2 h3 k1 k2 k3
              obtain ⟨e0, e1, e2, y0, y1, y2, hl0⟩ := boxCells HSA.out.box
              have HZX := HN
              have hln0 : (zs.map (Value.int .i64)).length = N := by rw [List.length_map]; exact HN.out
              have HLN0 := Lib.hid hln0; clear hln0
              by_cases hv0 : v < 0
              · have d1 : decide (0 ≤ v) = false := decide_eq_false (by omega)
                go_wp2_with fail
                refine (rI.at_out B pv _ M g v _ HIA.out (.inl hv0)).mono ?_
                rintro e w4 ⟨rfl, rfl⟩
                go_wp2_with fail
                have HQ1 := HSA; have HQ2 := HIA; have HQ3 := HBA
                clear HSA HIA HBA
                generalize (wr.alloc (.cells #[.int .i64 4, .int .i64 v] 31)) = X at *
                clear e0 e1 e2 y0 y1 y2 hl0
                have hgX : g ≤ 1001 * (k + 1) := by omega
                have hbx := HQ1.out.box
                obtain ⟨f0, f1, f2, g0', g1', g2', hlX⟩ := boxCells hbx
                have hlen : ∀ j, Calls Try.prog 18 #[.pointer (some ⟨B, 0, none⟩)] (X.drewN j) (fun e w' => e = .returned (.int .i64 (N : Int)) ∧ w' = X.drewN j) := fun j => (len_law (is_drewN HQ2.out j) (by rw [List.length_map]; exact HZX.out)).mono fun _ _ h => ⟨h.1, h.2.symm⟩
                have hgon : ∀ j, Calls Try.prog 19 #[.pointer (some ⟨B, 0, none⟩)] (X.drewN j) (fun e w' => e = .returned (.int .i64 (g : Int)) ∧ w' = X.drewN j) := fun j => (gone_is (is_drewN HQ2.out j)).mono fun _ _ h => ⟨h.1, h.2.symm⟩
                have HLN := Lib.hid hlen; have HGN := Lib.hid hgon
                clear hlen hgon hbx
                go_quiet ((first | (go_at_call 18; exact Calls.quiet_of_same (HLN.out _)) | (go_at_call 19; exact Calls.quiet_of_same (HGN.out _))))
                have hbelX := below_drewN HQ3.out nq
                have HIX := Lib.hid (is_drewN HQ2.out nq)
                have HSX := Lib.hid (HQ1.out.drewN nq)
                clear f0 f1 f2 g0' g1' g2' hlX HLN HGN HQ1 HQ2 HQ3
                go_wp2_with fail
                go_roundg (n - (k + 1))
                case measure => omega
                case rel => exact ⟨k + 1, N, c', M, g, pv, o', zs, by go_num, by omega, Nat.le_refl _, hgX, HZX, HIX, HSX, hbelX⟩
              · have d1 : decide (0 ≤ v) = true := decide_eq_true (by omega)
                obtain ⟨q, rfl⟩ : ∃ q : Nat, v = q := ⟨v.toNat, by omega⟩
                by_cases hqN : q < N
                · have d2 : decide (q < N) = true := decide_eq_true hqN
                  have d3 : decide ((q : Int) < (N : Int)) = true := decide_eq_true (by omega)
                  obtain ⟨ab, aoff, rfl, hab, hac⟩ := HSA.out.ints.cell hqN
                  have hgd := getD_map zs q
                  generalize zs.getD q 0 = x at *
                  have HGD := Lib.hid hgd; clear hgd
                  go_wp2_with fail
                  refine (at_in2 q x HIA.out (by rw [HLN0.out]; exact hqN) HGD.out).mono ?_
                  rintro e w4 ⟨rfl, hi4, hb4⟩
                  have hst4 := HSA.out.below hb4
                  have hc4 := (hb4.cell (p := ⟨ab, aoff + q, none⟩) hab).trans hac
                  have hbel4 := HBA.out.trans (hb4.mono (Nat.le_of_lt HIA.out.lt))
                  have hv4 : w4.cell? ⟨wr.heap.size, 1, none⟩ = some (.int .i64 (q : Int)) := (hb4.cell (p := ⟨wr.heap.size, 1, none⟩) (by simp)).trans (by simp)
                  clear e0 e1 e2 y0 y1 y2 hl0 hac
                  obtain ⟨e0, e1, e2, y0, y1, y2, hl0⟩ := boxCells hst4.box
                  have HQ1 := Lib.hid hst4; have HQ2 := Lib.hid hi4; have HQ3 := Lib.hid hbel4
                  have hqi : ((q : Int) < (N : Int)) := by omega
                  have hcle := HSA.out.ints.le
                  clear hst4 hi4 hb4 hbel4 HIA HSA HBA
                  go_wp2_with fail
                  generalize w4 = X at *
                  clear e0 e1 e2 y0 y1 y2 hl0 hc4 hv4
                  have hgX : g ≤ 1001 * (k + 1) := by omega
                  have hbx := HQ1.out.box
                  obtain ⟨f0, f1, f2, g0', g1', g2', hlX⟩ := boxCells hbx
                  have hlen : ∀ j, Calls Try.prog 18 #[.pointer (some ⟨B, 0, none⟩)] (X.drewN j) (fun e w' => e = .returned (.int .i64 (N : Int)) ∧ w' = X.drewN j) := fun j => (len_law (is_drewN HQ2.out j) (by rw [List.length_map]; exact HZX.out)).mono fun _ _ h => ⟨h.1, h.2.symm⟩
                  have hgon : ∀ j, Calls Try.prog 19 #[.pointer (some ⟨B, 0, none⟩)] (X.drewN j) (fun e w' => e = .returned (.int .i64 (g : Int)) ∧ w' = X.drewN j) := fun j => (gone_is (is_drewN HQ2.out j)).mono fun _ _ h => ⟨h.1, h.2.symm⟩
                  have HLN := Lib.hid hlen; have HGN := Lib.hid hgon
                  clear hlen hgon hbx
                  go_quiet ((first | (go_at_call 18; exact Calls.quiet_of_same (HLN.out _)) | (go_at_call 19; exact Calls.quiet_of_same (HGN.out _))))
                  have hbelX := below_drewN HQ3.out nq
                  have HIX := Lib.hid (is_drewN HQ2.out nq)
                  have HSX := Lib.hid (HQ1.out.drewN nq)
                  clear f0 f1 f2 g0' g1' g2' hlX HLN HGN HQ1 HQ2 HQ3
                  go_wp2_with fail
                  go_roundg (n - (k + 1))
                  case measure => omega
                  case rel => exact ⟨k + 1, N, c', M, g, pv, (some ⟨ab, aoff, none⟩), zs, by go_num, by omega, Nat.le_refl _, hgX, HZX, HIX, HSX, hbelX⟩
                · have d2 : decide (q < N) = false := decide_eq_false hqN
                  have d3 : decide ((q : Int) < (N : Int)) = false := decide_eq_false (by omega)
                  go_wp2_with fail
                  refine (rI.at_out B pv _ M g q _ HIA.out (.inr (by rw [HLN0.out]; omega))).mono ?_
                  rintro e w4 ⟨rfl, rfl⟩
                  go_wp2_with fail
                  have HQ1 := HSA; have HQ2 := HIA; have HQ3 := HBA
                  clear HSA HIA HBA
                  generalize (wr.alloc (.cells #[.int .i64 4, .int .i64 (q : Int)] 31)) = X at *
                  clear e0 e1 e2 y0 y1 y2 hl0
                  have hgX : g ≤ 1001 * (k + 1) := by omega
                  have hbx := HQ1.out.box
                  obtain ⟨f0, f1, f2, g0', g1', g2', hlX⟩ := boxCells hbx
                  have hlen : ∀ j, Calls Try.prog 18 #[.pointer (some ⟨B, 0, none⟩)] (X.drewN j) (fun e w' => e = .returned (.int .i64 (N : Int)) ∧ w' = X.drewN j) := fun j => (len_law (is_drewN HQ2.out j) (by rw [List.length_map]; exact HZX.out)).mono fun _ _ h => ⟨h.1, h.2.symm⟩
                  have hgon : ∀ j, Calls Try.prog 19 #[.pointer (some ⟨B, 0, none⟩)] (X.drewN j) (fun e w' => e = .returned (.int .i64 (g : Int)) ∧ w' = X.drewN j) := fun j => (gone_is (is_drewN HQ2.out j)).mono fun _ _ h => ⟨h.1, h.2.symm⟩
                  have HLN := Lib.hid hlen; have HGN := Lib.hid hgon
                  clear hlen hgon hbx
                  go_quiet ((first | (go_at_call 18; exact Calls.quiet_of_same (HLN.out _)) | (go_at_call 19; exact Calls.quiet_of_same (HGN.out _))))
                  have hbelX := below_drewN HQ3.out nq
                  have HIX := Lib.hid (is_drewN HQ2.out nq)
                  have HSX := Lib.hid (HQ1.out.drewN nq)
                  clear f0 f1 f2 g0' g1' g2' hlX HLN HGN HQ1 HQ2 HQ3
                  go_wp2_with fail
                  go_roundg (n - (k + 1))
                  case measure => omega
                  case rel => exact ⟨k + 1, N, c', M, g, pv, o', zs, by go_num, by omega, Nat.le_refl _, hgX, HZX, HIX, HSX, hbelX⟩
            · have k4 : (kd == 4) = false := by simpa using h4
              clear h1 h2 h3 h4
              obtain ⟨e0, e1, e2, y0, y1, y2, hl0⟩ := boxCells HSA.out.box
              have HZX := HN
              go_wp2_with fail
              have HQ1 := HSA; have HQ2 := HIA; have HQ3 := HBA
              clear HSA HIA HBA
              generalize (wr.alloc (.cells #[.int .i64 kd, .int .i64 v] 31)) = X at *
              clear e0 e1 e2 y0 y1 y2 hl0
              have hgX : g ≤ 1001 * (k + 1) := by omega
              have hbx := HQ1.out.box
              obtain ⟨f0, f1, f2, g0', g1', g2', hlX⟩ := boxCells hbx
              have hlen : ∀ j, Calls Try.prog 18 #[.pointer (some ⟨B, 0, none⟩)] (X.drewN j) (fun e w' => e = .returned (.int .i64 (N : Int)) ∧ w' = X.drewN j) := fun j => (len_law (is_drewN HQ2.out j) (by rw [List.length_map]; exact HZX.out)).mono fun _ _ h => ⟨h.1, h.2.symm⟩
              have hgon : ∀ j, Calls Try.prog 19 #[.pointer (some ⟨B, 0, none⟩)] (X.drewN j) (fun e w' => e = .returned (.int .i64 (g : Int)) ∧ w' = X.drewN j) := fun j => (gone_is (is_drewN HQ2.out j)).mono fun _ _ h => ⟨h.1, h.2.symm⟩
              have HLN := Lib.hid hlen; have HGN := Lib.hid hgon
              clear hlen hgon hbx
              go_quiet ((first | (go_at_call 18; exact Calls.quiet_of_same (HLN.out _)) | (go_at_call 19; exact Calls.quiet_of_same (HGN.out _))))
              have hbelX := below_drewN HQ3.out nq
              have HIX := Lib.hid (is_drewN HQ2.out nq)
              have HSX := Lib.hid (HQ1.out.drewN nq)
              clear f0 f1 f2 g0' g1' g2' hlX HLN HGN HQ1 HQ2 HQ3
              go_wp2_with fail
              go_roundg (n - (k + 1))
              case measure => omega
              case rel => exact ⟨k + 1, N, c', M, g, pv, o', zs, by go_num, by omega, Nat.le_refl _, hgX, HZX, HIX, HSX, hbelX⟩
    · obtain rfl : k = n := by omega
      have hszB : B < wr.heap.size := HI.out.lt
      have hle1 := HI.out.le
      rw [List.length_map, HN.out] at hle1
      obtain ⟨hNM, hM1⟩ := hle1
      generalize wr = wo at *
      go_wp2_with fail
      refine (rI.all_any B pv _ M g wo HI.out).mono ?_
      rintro e w4 ⟨av, rfl, hrow, hb4⟩
      rw [List.length_map, HN.out] at hrow
      obtain ⟨ao, ac, rfl, hia⟩ := Ints.of_own hrow
      have hst4 := HS.out.below hb4
      have hac : ac ≤ 9223372036854775807 := hia.max
      have hlac := hia.le
      obtain ⟨e0, e1, e2, y0, y1, y2, hl0⟩ := boxCells hst4.box
      have HR4 := Lib.hid hrow; have HA4 := Lib.hid hia; have HS4 := Lib.hid hst4; have HB4 := Lib.hid hb4
      clear hrow hia hst4 hb4
      go_wp2_with fail
      refine (same_any ao N ac zs o' N c' zs w4 HA4.out HS4.out.ints).mono ?_
      rintro e w5 ⟨rfl, nq, rfl⟩
      have HR5 : Hid ((w4.drewN nq).ownsRow wo.heap.size 3 1 (.slice ao N ac) N (zs.map (Value.int .i64))) := HR4.out
      have HB5 := Lib.hid (below_drewN HB4.out nq)
      clear e0 e1 e2 y0 y1 y2 hl0 HR4 HA4 HS4 HB4
      go_wp2_with fail
      go_loopg [167] N (fun gg s167 wr => ∃ (i : Nat) (xs : List Value), s167 = .int .i64 i ∧ i ≤ N ∧ N - i ≤ gg ∧ Hid (wr.ownsRow wo.heap.size 3 1 (.slice ao N ac) N xs) ∧ Hid (Below wo.heap.size wo wr))
      case atStart => exact ⟨0, _, rfl, Nat.zero_le _, by omega, HR5, HB5⟩
      case round =>
        obtain ⟨i, xs, rfl, hi, hgg2, HR, HBx⟩ := hrel
        clear HR5 HB5
        by_cases hlt2 : i < N
        · obtain ⟨ag, ac', he, hag1, hag2, _, _⟩ := own_some HR.out (by omega)
          simp only [Value.slice.injEq, true_and] at he
          obtain ⟨rfl, rfl⟩ := he
          have hcx := own_cell (d := Value.int .i64 0) HR.out hlt2
          have hfx := HR.out.frozenAt i
          have hil : ((i : Int) < (N : Int)) := by omega
          have HR2 := Lib.hid (own_set HR.out i (Value.int .i64 (-7)))
          have HB2 := Lib.hid (HBx.out.setCell (p := ⟨ag, i, none⟩) hag1 (Value.int .i64 (-7)))
          generalize xs.getD i (Value.int .i64 0) = y at *
          clear HR HBx
          go_wp2_with fail
          go_roundg (N - (i + 1))
          case measure => omega
          case rel => exact ⟨i + 1, _, by go_num, by omega, Nat.le_refl _, HR2, HB2⟩
        · obtain rfl : i = N := by omega
          have hix := HI.out.below HBx.out
          have hsx := HS.out.below HBx.out
          have hbelx := hbel.trans (HBx.out.mono (Nat.le_of_lt hszB))
          have hall := all_law2 (l := i) hix HN.out
          have hsb := fun w' (hb : Below wr.heap.size wr w') => (hsx.below hb).ints
          have hbx := fun w' (hb : Below wr.heap.size wr w') => (boxCells (hsx.below hb).box).c0
          have hbx0 := (boxCells hsx.box).c0
          have hszx : B ≤ wr.heap.size := Nat.le_of_lt hix.lt
          have H1 := Lib.hid hall; have H2 := Lib.hid hsb; have H3 := Lib.hid hbx
          clear hix hsx hall hsb hbx HR HBx hgg2 hlt2
          go_wp2_with fail
          go_region_with (first | (go_at_call 20; refine (H1.out _).mono ?_; rintro e w6 ⟨ao6, ac6, rfl, hia6, hb6⟩; have hb7 := H3.out _ hb6) | (go_at_call 21; refine (same_any _ _ _ _ _ _ _ _ _ (by assumption) (H2.out _ (by assumption))).mono ?_; rintro e w7 ⟨rfl, nq7, rfl⟩))
          all_goals
            have hbelf := below_drewN (hbelx.trans (hb6.mono hszx)) nq7
            clear H1 H2 H3 hia6 hb6 hb7
            go_wp2_with fail
            go_ret
            exact ⟨rfl, hbelf⟩
end Go.Proofs.Ytaklkhjgdopbgaa
