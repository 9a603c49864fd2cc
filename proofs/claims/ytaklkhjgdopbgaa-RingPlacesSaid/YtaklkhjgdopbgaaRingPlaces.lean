/- RingPlaces returns true at every input: the i-th thing of a ring is the i-th of All, and the newest is the one that was pushed last. No condition. -/
import Derived.Test.YtaklkhjgdopbgaaRingLaw
namespace Go.Proofs.Ytaklkhjgdopbgaa
open Go.RowKit

set_option maxRecDepth 100000 in
set_option maxHeartbeats 1600000 in
theorem places_any (m : Int) (o : Option Addr) (n cap : Nat) (vs : List Int) (a : Int) (w : World) (hv : Ints w o n cap vs) (hn : n < 2305843009213693952) :
    Calls Try.prog 7 #[.int .i64 m, .slice o n cap, .int .i64 a] w fun e w' => e = .returned (.bool true) ∧ Below w.heap.size w w' := by
  have hcap : cap ≤ 9223372036854775807 := hv.max
  have hle := hv.le
  generalize hT : rI.top m = T at *
  have hT1 : T ≤ 1000 := by rw [← hT]; exact rI.top_le m
  have HT := Lib.hid hT; clear hT
  generalize hB : w.heap.size = B at *
  have HB := Lib.hid hB; clear hB
  have HV := Lib.hid hv; clear hv
  go_enter Try.func7, Try.ntmps7
  go_wp2_with fail
  refine (rI.new_any _ _).mono ?_
  rintro e w1 ⟨rfl, his, hb1⟩
  rw [HB.out, HT.out] at his
  rw [HB.out] at hb1
  rw [HB.out]
  have hlt1 := his.lt
  have H1 := Lib.hid his; clear his
  go_wp2_with fail
  refine (alive_any _).mono ?_
  rintro e w2 ⟨rfl, hb2'⟩
  have hb2 := hb1.trans (hb2'.mono (by omega))
  have H2 := Lib.hid (H1.out.below hb2')
  clear H1 hb2' hb1 hlt1
  go_wp2_with fail
  go_loopg [28] n (fun gg s28 wr => ∃ (k : Nat) (pv : Value), s28 = .int .i64 k ∧ k ≤ n ∧ n - k ≤ gg ∧ Hid (rI.Is wr B pv (rg.lastOf ((vs.map (Value.int .i64)).take k) T) T (k - T)) ∧ Below B w wr)
  case atStart => exact ⟨0, _, rfl, Nat.zero_le _, by omega, Lib.hid (by simpa [rg.lastOf] using H2.out), hb2⟩
  case round =>
    obtain ⟨k, pv, rfl, hk, hgg, HI, hbel⟩ := hrel
    clear hb2 H2
    by_cases hlt : k < n
    · have hlen : k < vs.length := by rw [HV.out.len]; exact hlt
      have hIv := HV.out.below (HB.out.symm ▸ hbel)
      obtain ⟨vb, off, rfl, hvb, hc⟩ := hIv.cell hlt
      have hnx := map_take_snoc vs k hlen
      have hlk := len_take vs k (by omega)
      have hlk1 := len_take vs (k + 1) (by omega)
      generalize vs.getD k 0 = z at *
      have hps := push_law B pv ((vs.map (Value.int .i64)).take k) T z wr (by rw [hlk]; exact HI.out) (by omega)
      rw [← hnx, hlk, hlk1] at hps
      have HP := Lib.hid hps; have HNX := Lib.hid hnx
      clear hps hnx hlk hlk1 hIv hlen
      go_wp2_with fail
      refine HP.out.mono ?_
      rintro e w3 ⟨x, ok, pv', rfl, _, hi3, hk3, hm3⟩
      have hbel3 := hbel.trans (push_below HI.out hk3 (Nat.le_refl B))
      have H3 := Lib.hid hi3
      clear hi3 hk3 hm3 HP HI hc hbel
      have hll := rg.length_lastOf ((vs.map (Value.int .i64)).take (k + 1)) T
      rw [len_take vs (k + 1) (by rw [HV.out.len]; omega)] at hll
      have hla := last_getD ((vs.map (Value.int .i64)).take k) T z
      rw [← HNX.out] at hla
      generalize hL : rg.lastOf ((vs.map (Value.int .i64)).take (k + 1)) T = L at *
      have HL := Lib.hid hL; clear hL
      by_cases hT0 : T = 0
      · have hl0 : L.length = 0 := by omega
        have hg : k + 1 - T = k + 1 := by omega
        rw [hg] at H3
        have hlt0 : decide ((0 : Int) < ((0 : Nat) : Int)) = false := by decide
        clear hla hll hg
        have HT0 := Lib.hid hT0; clear hT0
        have HL0 := Lib.hid hl0; clear hl0
        go_wp2_with fail
        refine (len_law H3.out HL0.out).mono ?_
        rintro e w4 ⟨rfl, rfl⟩
        go_wp2_with fail
        refine (rI.at_out B pv' L T (k + 1) (-1) _ H3.out (.inl (by decide))).mono ?_
        rintro e w4 ⟨rfl, rfl⟩
        go_wp2_with fail
        refine (len_law H3.out HL0.out).mono ?_
        rintro e w4 ⟨rfl, rfl⟩
        go_wp2_with fail
        refine (len_law H3.out HL0.out).mono ?_
        rintro e w4 ⟨rfl, rfl⟩
        go_wp2_with fail
        refine (gone_is H3.out).mono ?_
        rintro e w4 ⟨rfl, rfl⟩
        go_wp2_with fail
        go_roundg (n - (k + 1))
        case measure => omega
        case rel => exact ⟨k + 1, pv', by go_num, by omega, Nat.le_refl _, Lib.hid (by rw [HL.out]; have := HT0.out; rw [show k + 1 - T = k + 1 by omega]; exact H3.out), hbel3⟩
      · obtain ⟨j, hj⟩ : ∃ j, L.length = j + 1 := ⟨L.length - 1, by omega⟩
        rw [hj] at hla hll
        replace hla := hla (by omega)
        simp only [Nat.add_sub_cancel] at hla
        have hjk : j + 1 + (k + 1 - T) = k + 1 := by omega
        generalize hG : k + 1 - T = G at *
        have HLA := Lib.hid hla; have HJ := Lib.hid hj; have HG := Lib.hid hG; have HJK := Lib.hid hjk
        have hjb : j ≤ 1000 := by omega
        have hGb : G ≤ k + 1 := by omega
        have hj1 : decide ((0 : Int) < (j : Int) + 1) = true := decide_eq_true (by omega)
        clear hla hll hj hG hjk hT0
        go_wp2_with fail
        refine (len_law H3.out HJ.out).mono ?_
        rintro e w4 ⟨rfl, rfl⟩
        go_wp2_with fail
        refine (at_in2 j z H3.out (by rw [HJ.out]; omega) HLA.out).mono ?_
        rintro e w4 ⟨rfl, hi4, hb4⟩
        have hbel4 := hbel3.trans (hb4.mono (by have := hbel3.size; have := HB.out; omega))
        have H4 := Lib.hid hi4
        clear H3 hi4 hb4 hbel3
        go_wp2_with fail
        refine (len_law H4.out HJ.out).mono ?_
        rintro e w5 ⟨rfl, rfl⟩
        go_wp2_with fail
        refine (len_law H4.out HJ.out).mono ?_
        rintro e w5 ⟨rfl, rfl⟩
        go_wp2_with fail
        refine (gone_is H4.out).mono ?_
        rintro e w5 ⟨rfl, rfl⟩
        have hs1 : j + G ≤ k := by have := HJK.out; omega
        have hs2 : k ≤ j + G := by have := HJK.out; omega
        clear hj1
        go_wp2_with fail
        go_roundg (n - (k + 1))
        case measure => omega
        case rel => exact ⟨k + 1, pv', by go_num, by omega, Nat.le_refl _, Lib.hid (by rw [HL.out, HG.out]; exact H4.out), hbel4⟩
    · obtain rfl : k = n := by omega
      have hzl := rg.length_lastOf vs T
      have hi0 : rI.Is wr B pv ((rg.lastOf vs T).map (Value.int .i64)) T (k - T) := by
        have := HI.out
        rwa [List.take_of_length_le (by rw [List.length_map, HV.out.len]; exact Nat.le_refl _), lastOf_map] at this
      generalize rg.lastOf vs T = zs at *
      generalize k - T = G at *
      generalize hl : zs.length = l at *
      have hlb : l ≤ 1000 := by omega
      have H0 := Lib.hid hi0; have HL := Lib.hid hl
      clear hi0 hl hzl HI hgg hlt
      go_wp2_with fail
      refine (all_law H0.out HL.out).mono ?_
      rintro e w3 ⟨ao, ac, rfl, hia, hb3⟩
      have hbel3 := hbel.trans (hb3.mono (by have := hbel.size; have := HB.out; omega))
      have H3 := Lib.hid (H0.out.below hb3); have HA := Lib.hid hia
      have hac : ac ≤ 9223372036854775807 := hia.max
      have hlac := hia.le
      clear H0 hb3 hia hbel
      have hsz3 : B ≤ w3.heap.size := by have := hbel3.size; have := HB.out; omega
      go_wp2_with fail
      go_loopg [72] l (fun gg s72 wr2 => ∃ i : Nat, s72 = .int .i64 i ∧ i ≤ l ∧ l - i ≤ gg ∧ Hid (rI.Is wr2 B pv (zs.map (Value.int .i64)) T G) ∧ Below w3.heap.size w3 wr2)
      case atStart => exact ⟨0, rfl, Nat.zero_le _, by omega, H3, Below.refl _ _⟩
      case round =>
        obtain ⟨i, rfl, hi, hgg, HI, hbel⟩ := hrel
        clear H3
        have hsz4 := hbel.size
        by_cases hlt : i < l
        · have hx := getD_map zs i
          have hxl : i < (zs.map (Value.int .i64)).length := by rw [List.length_map, HL.out]; exact hlt
          obtain ⟨ab, aoff, rfl, hab, hc⟩ := HA.out.cell hlt
          generalize zs.getD i 0 = z at *
          have HX := Lib.hid hx; have HXL := Lib.hid hxl
          have hcr : wr.cell? ⟨ab, aoff + i, none⟩ = some (.int .i64 z) := (hbel.cell (p := ⟨ab, aoff + i, none⟩) hab).trans hc
          clear hx hxl hc
          go_wp2_with fail
          refine (at_in2 i z HI.out HXL.out HX.out).mono ?_
          rintro e w5 ⟨rfl, hi5, hb5⟩
          have hc5 : w5.cell? ⟨ab, aoff + i, none⟩ = some (.int .i64 z) := (hb5.cell (p := ⟨ab, aoff + i, none⟩) (by show ab < _; omega)).trans hcr
          have hbel5 := hbel.trans (hb5.mono hsz4)
          have H5 := Lib.hid hi5
          have hil : ((i : Int) < (l : Int)) := by omega
          clear HI hi5 hb5 hcr hbel
          go_wp2_with fail
          go_roundg (l - (i + 1))
          case measure => omega
          case rel => exact ⟨i + 1, by go_num, by omega, Nat.le_refl _, H5, hbel5⟩
        · obtain rfl : i = l := by omega
          have hbel4 := hbel3.trans (hbel.mono hsz3)
          clear hbel hbel3 hgg
          by_cases ha : a < 0 ∨ (i : Int) ≤ a
          · go_wp2_with fail
            refine (rI.at_out B pv _ T G a _ HI.out (by rw [List.length_map, HL.out]; exact ha)).mono ?_
            rintro e w5 ⟨rfl, rfl⟩
            by_cases ha0 : a < 0
            · have h1 : decide (0 ≤ a) = false := decide_eq_false (by omega)
              clear ha
              go_wp2_with fail
              refine (len_law HI.out (by rw [List.length_map, HL.out])).mono ?_
              rintro e w5 ⟨rfl, rfl⟩
              go_wp2_with fail
              go_ret
              exact ⟨rfl, hbel4⟩
            · have h1 : decide (0 ≤ a) = true := decide_eq_true (by omega)
              have h2 : decide (a < (i : Int)) = false := decide_eq_false (by omega)
              clear ha ha0
              go_wp2_with fail
              refine (len_law HI.out (by rw [List.length_map, HL.out])).mono ?_
              rintro e w5 ⟨rfl, rfl⟩
              go_wp2_with fail
              go_ret
              exact ⟨rfl, hbel4⟩
          · have h1 : decide (0 ≤ a) = true := decide_eq_true (by omega)
            have h2 : decide (a < (i : Int)) = true := decide_eq_true (by omega)
            obtain ⟨q, rfl⟩ : ∃ q : Nat, a = q := ⟨a.toNat, by omega⟩
            have hq : q < i := by omega
            clear ha
            go_wp2_with fail
            refine (at_in2 q _ HI.out (by rw [List.length_map, HL.out]; exact hq) (getD_map zs q)).mono ?_
            rintro e w5 ⟨rfl, hi5, hb5⟩
            have hbel5 := hbel4.trans (hb5.mono (by omega))
            have H5 := Lib.hid hi5
            clear hi5 hb5 hbel4 HI
            go_wp2_with fail
            refine (len_law H5.out (by rw [List.length_map, HL.out])).mono ?_
            rintro e w6 ⟨rfl, rfl⟩
            go_wp2_with fail
            go_ret
            exact ⟨rfl, hbel5⟩
end Go.Proofs.Ytaklkhjgdopbgaa
