/- What the document's answer for covered cells does: four loops, one in another. -/
import Derived.Test.YtpmggljdcbbdfaaRectsIn
import Derived.Test.YtpmggljdcbbdfaaRef3
namespace Go.Proofs.Ytpmggljdcbbdfaa
open Go.RowKit rm
attribute [local go_sem ↓] Go.wp_at_zero Go.wp_at_succ
attribute [local go_sem ↓ 10000] run_mn run_mx

theorem refHas_v (q : RR) (hq : Ok q) (px py : Int) (w : World) :
    Calls Try.prog 21 #[(.agg #[.int .i64 (q).x, .int .i64 (q).y, .int .i64 (q).w, .int .i64 (q).h]), .int .i64 px, .int .i64 py] w fun e w' => e = .returned (.bool (cell q px py)) ∧ Below w.heap.size w w' := by
  have hb : (-5000 ≤ q.x ∧ q.x ≤ 5000) ∧ (-5000 ≤ q.y ∧ q.y ≤ 5000) ∧ (0 ≤ q.w ∧ q.w ≤ 200) ∧ (0 ≤ q.h ∧ q.h ≤ 200) := by unfold Ok at hq; omega
  exact refHas_any q.x q.y q.w q.h px py (by omega) (by omega) (by omega) (by omega) w
/-- rectangles in the cells of a slice, one by one -/
theorem SliceR.one {w : World} {o : Option Addr} {n cap : Nat} {L : List RR} (H : SliceR w o n cap L) {k : Nat} (hk : k < n) : ∃ b off r, o = some ⟨b, off, none⟩ ∧ L[k]? = some r ∧ b < w.heap.size ∧
    w.cell? ⟨b, off + k * 4, none⟩ = some (.int .i64 r.x) ∧ w.cell? ⟨b, off + k * 4 + 1, none⟩ = some (.int .i64 r.y) ∧ w.cell? ⟨b, off + k * 4 + 2, none⟩ = some (.int .i64 r.w) ∧ w.cell? ⟨b, off + k * 4 + 3, none⟩ = some (.int .i64 r.h) := by
  rcases H.at_ with ⟨_, h0, _⟩ | ⟨b, off, h1, h2, h3⟩
  · omega
  · have hl : k < L.length := by rw [H.len]; exact hk
    exact ⟨b, off, L[k], h1, List.getElem?_eq_getElem hl, h2, h3 k _ (List.getElem?_eq_getElem hl)⟩
theorem clean_at (L : List RR) {k : Nat} {r : RR} (h : L[k]? = some r) (hk : k < 24) : ((L.take 24).map clean)[k]? = some (clean r) := by
  rw [List.getElem?_map, List.getElem?_take_of_lt hk, h]; rfl
theorem take_one {D : List RR} {k : Nat} {r : RR} (h : D[k]? = some r) : D.take (k + 1) = D.take k ++ [r] := by
  obtain ⟨h1, h2⟩ := List.getElem?_eq_some_iff.1 h
  rw [List.take_succ_eq_append_getElem h1, h2]

theorem anyC_mono {D : List RR} {x y : Int} {k i : Nat} (h : anyC (D.take k) x y = true) (hk : k ≤ i) : anyC (D.take i) x y = true := by
  rw [anyC_iff] at *
  obtain ⟨r, hr, hc⟩ := h
  refine ⟨r, ?_, hc⟩
  have e : D.take k = (D.take i).take k := by rw [List.take_take]; congr 1; omega
  rw [e] at hr
  exact List.mem_of_mem_take hr

set_option maxRecDepth 100000 in
set_option maxHeartbeats 3200000 in
theorem refCover_any (o : Option Addr) (n cap : Nat) (L : List RR) (w : World) (hz : SliceR w o n cap L) :
    Calls Try.prog 30 #[.slice o n cap] w fun e w' => e = .returned (.int .i64 (covV L)) ∧ Below w.heap.size w w' := by
  have hlen : ((L.take 24).map clean).length = min n 24 := by rw [List.length_map, List.length_take, hz.len]; omega
  have hokD := ok_map L
  have hget := fun (k : Nat) (r : RR) => clean_at L (k := k) (r := r)
  have HZ := Lib.hid hz; clear hz
  have hnil : cells (((L.take 24).map clean).take 0) = 0 := by rw [List.take_zero]; exact covV_nil
  unfold covV
  generalize hD : (L.take 24).map clean = D at *
  clear hD
  generalize hmm : min n 24 = m at *
  have hmn : m ≤ n := by omega
  have hm24 : m ≤ 24 := by omega
  have HMM := Lib.hid hmm; clear hmm
  have HLEN := Lib.hid hlen; clear hlen
  have HOK := Lib.hid hokD; clear hokD
  have HGET := Lib.hid hget; clear hget
  have HNIL := Lib.hid hnil; clear hnil
  go_enter Try.func30, Try.ntmps30
  go_wp2_with fail
  go_loopg [3, 4] m (fun gg s3 s4 wr => ∃ (i : Nat) (T : Int), s4 = .int .i64 i ∧ s3 = .int .i64 T ∧ i ≤ m ∧ m - i ≤ gg ∧ Hid (T = cells (D.take i)) ∧ 0 ≤ T ∧ T ≤ 40000 * i ∧ Below w.heap.size w wr)
  case atStart => exact ⟨0, 0, rfl, rfl, Nat.zero_le _, by omega, Lib.hid HNIL.out.symm, by omega, by omega, Below.refl _ _⟩
  case round =>
    obtain ⟨i, T, rfl, rfl, hi, hgg, hT, hT0, hT1, hbel⟩ := hrel
    by_cases hlt : i < m
    · obtain ⟨b, off, r, rfl, hr, hb, k0, k1, k2, k3⟩ := (HZ.out.below hbel (Nat.le_refl _)).one (k := i) (by omega)
      have hq := HGET.out i r hr (by omega)
      obtain ⟨rx, ry, rw', rh⟩ := r
      dsimp only at k0 k1 k2 k3
      have hki : (i : Int) < (n : Int) := by omega
      have hki2 : (i : Int) < 24 := by omega
      go_wp2_with fail
      refine (refClean_any _ _ _ _ _).mono ?_
      rintro e w2 ⟨rfl, hb2⟩
      have hqok : Ok (cleanV rx ry rw' rh) := ok_clean _
      have hq' : D[i]? = some (cleanV rx ry rw' rh) := hq
      clear hq hr
      generalize cleanV rx ry rw' rh = q at *
      have HQ := Lib.hid hq'; clear hq'
      have hqb : (-5000 ≤ q.x ∧ q.x ≤ 5000) ∧ (-5000 ≤ q.y ∧ q.y ≤ 5000) ∧ (0 ≤ q.w ∧ q.w ≤ 200) ∧ (0 ≤ q.h ∧ q.h ≤ 200) := by unfold Ok at hqok; omega
      have HQOK := Lib.hid hqok; clear hqok
      have hbel2 := hbel.trans (hb2.mono hbel.size)
      have s1 : (Below w.heap.size w (w2.alloc (rc q.x q.y q.w q.h)) ∧ w2.heap.size < (w2.alloc (rc q.x q.y q.w q.h)).heap.size ∧ (w2.alloc (rc q.x q.y q.w q.h)).cell? ⟨w2.heap.size, 0, none⟩ = some (.int .i64 (q.x)) ∧ (w2.alloc (rc q.x q.y q.w q.h)).cell? ⟨w2.heap.size, 1, none⟩ = some (.int .i64 (q.y)) ∧ (w2.alloc (rc q.x q.y q.w q.h)).cell? ⟨w2.heap.size, 2, none⟩ = some (.int .i64 (q.w)) ∧ (w2.alloc (rc q.x q.y q.w q.h)).cell? ⟨w2.heap.size, 3, none⟩ = some (.int .i64 (q.h))) := by
        obtain ⟨v0, v1, v2, v3, v4, _, _, _, _⟩ := RectAt.new w2 q.x q.y q.w q.h 23
        exact ⟨hbel2.alloc hbel2.size (rc q.x q.y q.w q.h), v0, v1, v2, v3, v4⟩
      clear k0 k1 k2 k3 hbel hb2 hbel2 hb
      go_upto_region 6 with fail
      generalize (w2.alloc (rc q.x q.y q.w q.h)) = W3 at *
      generalize w2.heap.size = B at *
      obtain ⟨t0, t1, k0, k1, k2, k3⟩ := (id s1 : _ ∧ _)
      have HS := Lib.hid s1; clear s1
      go_wp2_with fail
      go_loopg [3, 6] q.h.toNat (fun gg s3 s6 wr => ∃ (j : Nat) (T1 : Int), s6 = .int .i64 (q.y + j) ∧ s3 = .int .i64 T1 ∧ (j : Int) ≤ q.h ∧ q.h.toNat - j ≤ gg ∧ Hid (T1 = T + sumR (fun y => sumR (fun x => b01 (!(anyC (D.take i) x y))) q.x q.w.toNat) q.y j) ∧ 0 ≤ T1 ∧ T1 ≤ 40000 * i + 200 * j ∧ Below W3.heap.size W3 wr)
      case atStart => exact ⟨0, T, by go_num, rfl, by omega, by omega, Lib.hid (by simp [sumR]), by omega, by omega, Below.refl _ _⟩
      case round =>
        obtain ⟨j, T1, rfl, rfl, hj, hgj, hT1', hT10, hT11, hbelY⟩ := hrel
        generalize wr = wy at *
        have sy := hold1 hbelY HS.out
        obtain ⟨t0, t1, k0, k1, k2, k3⟩ := (id sy : _ ∧ _)
        have HSY := Lib.hid sy; clear sy
        by_cases hjh : (j : Int) < q.h
        · have hjy : q.y + (j : Int) < q.y + q.h := by omega
          go_wp2_with fail
          go_loopg [3, 7] q.w.toNat (fun gg s3 s7 wr => ∃ (c : Nat) (T2 : Int), s7 = .int .i64 (q.x + c) ∧ s3 = .int .i64 T2 ∧ (c : Int) ≤ q.w ∧ q.w.toNat - c ≤ gg ∧ Hid (T2 = T1 + sumR (fun x => b01 (!(anyC (D.take i) x (q.y + j)))) q.x c) ∧ 0 ≤ T2 ∧ T2 ≤ 40000 * i + 200 * j + c ∧ Below wy.heap.size wy wr)
          case atStart => exact ⟨0, T1, by go_num, rfl, by omega, by omega, Lib.hid (by simp [sumR]), by omega, by omega, Below.refl _ _⟩
          case round =>
            obtain ⟨c, T2, rfl, rfl, hc, hgc, hT2', hT20, hT21, hbelX⟩ := hrel
            generalize wr = wx at *
            have sx := hold1 hbelX HSY.out
            clear t0 t1 k0 k1 k2 k3
            obtain ⟨t0, t1, k0, k1, k2, k3⟩ := (id sx : _ ∧ _)
            have HSX := Lib.hid sx; clear sx
            by_cases hcw : (c : Int) < q.w
            · have hcx : q.x + (c : Int) < q.x + q.w := by omega
              go_wp2_with fail
              go_loopg [8, 9] i (fun gg s8 s9 wr => ∃ (kk : Nat) (old : Bool), s8 = .bool old ∧ s9 = .int .i64 kk ∧ kk ≤ i ∧ i - kk ≤ gg ∧ Hid (old = anyC (D.take kk) (q.x + c) (q.y + j)) ∧ Below wx.heap.size wx wr)
              case atStart => exact ⟨0, false, rfl, rfl, Nat.zero_le _, by omega, Lib.hid (by rw [List.take_zero]; rfl), Below.refl _ _⟩
              case round =>
                obtain ⟨kk, old, rfl, rfl, hkk, hgk, hold, hbelK⟩ := hrel
                have hbelXK := hbelX.trans (hbelK.mono hbelX.size)
                cases old
                · by_cases hki' : kk < i
                  · obtain ⟨b', off', r', he', hr', hb', c0, c1, c2, c3⟩ := ((HZ.out.below (t0.trans (hbelK.mono t0.size)) (Nat.le_refl _)).one (k := kk) (by omega))
                    cases he'
                    have hq2 := HGET.out kk r' hr' (by omega)
                    obtain ⟨rx', ry', rw2, rh'⟩ := r'
                    dsimp only at c0 c1 c2 c3
                    have hkn : (kk : Int) < (n : Int) := by omega
                    have hbelK2 := hbelK
                    go_wp2_with fail
                    refine (refClean_any _ _ _ _ _).mono ?_
                    rintro e w6 ⟨rfl, hb6⟩
                    have hqok2 : Ok (cleanV rx' ry' rw2 rh') := ok_clean _
                    have hq2' : D[kk]? = some (cleanV rx' ry' rw2 rh') := hq2
                    clear hq2 hr' c0 c1 c2 c3
                    generalize cleanV rx' ry' rw2 rh' = q2 at *
                    have HQ2 := Lib.hid hq2'; clear hq2'
                    go_wp2_with fail
                    refine (refHas_v q2 hqok2 _ _ _).mono ?_
                    rintro e w7 ⟨rfl, hb7⟩
                    have hbelK7 := (hbelK.trans (hb6.mono hbelK.size)).trans (hb7.mono (Nat.le_trans hbelK.size hb6.size))
                    have hnew : cell q2 (q.x + c) (q.y + j) = anyC (D.take (kk + 1)) (q.x + c) (q.y + j) := by
                      rw [take_one HQ2.out, anyC_snoc, ← hold.out, Bool.false_or]
                    generalize cell q2 (q.x + c) (q.y + j) = old' at *
                    have HNEW := Lib.hid hnew; clear hnew hqok2 hb6 hb7
                    go_wp2_with fail
                    go_roundg (i - (kk + 1))
                    case measure => omega
                    case rel => exact ⟨kk + 1, old', rfl, by go_num, by omega, Nat.le_refl _, HNEW, hbelK7⟩
                  · obtain rfl : kk = i := by omega
                    have hend := hold.out.symm
                    go_wp2_with fail
                    go_roundg (q.w.toNat - (c + 1))
                    case measure => omega
                    case rel => exact ⟨c + 1, T2 + b01 (!false), by go_num, by first | (show _ = Value.int .i64 (T2 + 0); rw [Int.add_zero]) | (show _ = Value.int .i64 (T2 + 1); go_num), by omega, Nat.le_refl _, Lib.hid (by rw [hT2'.out]; simp only [sumR]; rw [hend]; omega), by have := b01_bd (!false); omega, by have := b01_bd (!false); omega, hbelXK⟩
                · have hend : anyC (D.take i) (q.x + c) (q.y + j) = true := anyC_mono hold.out.symm hkk
                  by_cases hki' : kk < i
                  · have hki2' : (kk : Int) < (i : Int) := by omega
                    go_wp2_with fail
                    go_roundg (q.w.toNat - (c + 1))
                    case measure => omega
                    case rel => exact ⟨c + 1, T2 + b01 (!true), by go_num, by first | (show _ = Value.int .i64 (T2 + 0); rw [Int.add_zero]) | (show _ = Value.int .i64 (T2 + 1); go_num), by omega, Nat.le_refl _, Lib.hid (by rw [hT2'.out]; simp only [sumR]; rw [hend]; omega), by have := b01_bd (!true); omega, by have := b01_bd (!true); omega, hbelXK⟩
                  · obtain rfl : kk = i := by omega
                    go_wp2_with fail
                    go_roundg (q.w.toNat - (c + 1))
                    case measure => omega
                    case rel => exact ⟨c + 1, T2 + b01 (!true), by go_num, by first | (show _ = Value.int .i64 (T2 + 0); rw [Int.add_zero]) | (show _ = Value.int .i64 (T2 + 1); go_num), by omega, Nat.le_refl _, Lib.hid (by rw [hT2'.out]; simp only [sumR]; rw [hend]; omega), by have := b01_bd (!true); omega, by have := b01_bd (!true); omega, hbelXK⟩
            · have hcx : decide (q.x + (c : Int) < q.x + q.w) = false := decide_eq_false (by omega)
              have hbelYX := hbelY.trans (hbelX.mono hbelY.size)
              have hcq := Lib.hid (show c = q.w.toNat by omega)
              go_wp2_with fail
              go_roundg (q.h.toNat - (j + 1))
              case measure => omega
              case rel => exact ⟨j + 1, T2, by go_num, rfl, by omega, Nat.le_refl _, Lib.hid (by rw [hT2'.out, hcq.out, hT1'.out]; simp only [sumR]; omega), by omega, by omega, hbelYX⟩
        · have hjy : decide (q.y + (j : Int) < q.y + q.h) = false := decide_eq_false (by omega)
          have hbel9 := t0
          have HSN : Hid (T1 = cells (D.take (i + 1))) := Lib.hid (by rw [take_one HQ.out, cells_snoc _ HQOK.out, ← hT.out, hT1'.out, show j = q.h.toNat by omega])
          clear hT1'
          go_wp2_with fail
          go_roundg (m - (i + 1))
          case measure => omega
          case rel => exact ⟨i + 1, T1, by go_num, rfl, by omega, Nat.le_refl _, HSN, by omega, by omega, hbel9⟩
    · obtain rfl : i = m := by omega
      have e : D.take i = D := List.take_of_length_le (by rw [HLEN.out]; exact Nat.le_refl _)
      have hTT : T = cells D := by rw [hT.out, e]
      clear hT
      have HTT := Lib.hid hTT; clear hTT
      by_cases hi24 : i < 24
      · obtain rfl : i = n := by have := HMM.out; omega
        have hi24' : (i : Int) < 24 := by omega
        go_wp2_with fail
        go_ret
        exact ⟨by show Ending.returned (.int .i64 T) = _; rw [HTT.out], hbel⟩
      · obtain rfl : i = 24 := by omega
        rcases Nat.lt_or_ge 24 n with hn | hn
        · have hki : (24 : Int) < (n : Int) := by omega
          go_wp2_with fail
          go_ret
          exact ⟨by show Ending.returned (.int .i64 T) = _; rw [HTT.out], hbel⟩
        · obtain rfl : n = 24 := by omega
          go_wp2_with fail
          go_ret
          exact ⟨by show Ending.returned (.int .i64 T) = _; rw [HTT.out], hbel⟩
end Go.Proofs.Ytpmggljdcbbdfaa
