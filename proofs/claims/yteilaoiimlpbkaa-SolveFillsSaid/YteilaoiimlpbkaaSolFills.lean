/- SolveFills, walked: it returns true. -/
import Derived.Test.YteilaoiimlpbkaaSolAlive
import Derived.Test.YteilaoiimlpbkaaSolFacts
namespace Go.Proofs.Yteilaoiimlpbkaa
open Go.RowKit
attribute [local go_sem ↓ 10000] run_mn run_mx
/-- the first and the last Flex length among those that are seen, r of them Flex: 0 where there is none -/
def FlexSeen (c m : Int) (r : Nat) (fst lst : Int) : Prop := (r = 0 ∧ fst = 0 ∧ lst = 0) ∨ (0 < r ∧ fst = sl.part c m 0 ∧ lst = sl.part c m (r - 1))
theorem flexSeen_next {c m : Int} {r : Nat} {fst lst : Int} (h : FlexSeen c m r fst lst) (hc : 1 ≤ c) : (r = 0 ∧ fst = 0 ∧ lst = 0 ∧ 1 ≤ sl.part c m r ∧ FlexSeen c m (r + 1) (sl.part c m r) (sl.part c m r)) ∨ (1 ≤ fst ∧ sl.part c m r ≤ lst ∧ fst - 1 ≤ sl.part c m r ∧ FlexSeen c m (r + 1) fst (sl.part c m r)) := by
  rcases h with ⟨rfl, rfl, rfl⟩ | ⟨hr, rfl, rfl⟩
  · refine .inl ⟨rfl, rfl, rfl, by have := sl.part_ge c m 0; omega, .inr ⟨by omega, rfl, rfl⟩⟩
  · obtain ⟨r, rfl⟩ : ∃ q, r = q + 1 := ⟨r - 1, by omega⟩
    have h1 := sl.part_next c m r
    have h2 := sl.part_next c m (r + 1)
    have h3 := sl.part_ge c m 0
    exact .inr ⟨by omega, h1.1, h2.2, .inr ⟨by omega, rfl, rfl⟩⟩
theorem sum_take_bounds (zs : List Int) (h1 : ∀ x ∈ zs, 1 ≤ x) (t : Int) (h2 : zs.sum = t) (k : Nat) : 0 ≤ (zs.take k).sum ∧ (zs.take k).sum ≤ t := by
  have ha := sl.sum_ge (zs.take k) (fun x hx => h1 x (List.mem_of_mem_take hx))
  have hb := sl.sum_ge (zs.drop k) (fun x hx => h1 x (List.mem_of_mem_drop hx))
  have hc : (zs.take k).sum + (zs.drop k).sum = t := by rw [← List.sum_append, List.take_append_drop, h2]
  omega
set_option maxRecDepth 100000 in
set_option maxHeartbeats 3200000 in
theorem fills_any (t : Int) (o : Option Addr) (n cap : Nat) (L : List sl.Sz) (w : World) (hs : SzIn w o n cap L) :
    Calls Try.prog 4 #[.int .i64 t, .slice o n cap] w fun e w' => e = .returned (.bool true) ∧ Below w.heap.size w w' := by
  have hm : cap ≤ 9223372036854775807 := hs.max
  have hle := hs.le
  have HS := Lib.hid hs
  have HA := Lib.hid (alive_any w)
  have HSH := Lib.hid (fun W (hb : Below w.heap.size w W) => share_then t o n cap L W (HS.out.below hb) _ _ rfl rfl)
  have HEE : Hid (sl.err t L = 0 ∨ sl.err t L ≠ 0) := Lib.hid (Decidable.em _)
  have HSB := Lib.hid (sl.share_bad t L)
  have HSO := Lib.hid (sl.share_ok t L)
  clear hs
  generalize hER : sl.err t L = er at *
  generalize sl.share t L = zs at *
  rcases HEE.out with he | he
  · subst he
    obtain ⟨q0, q1, qg, q2, q3⟩ := sl.err_zero hER
    obtain ⟨c, m, hc, hfx⟩ := sl.lens_flex hER
    have hzs := HSO.out rfl
    have hsum := sl.lens_sum hER
    have hpos := sl.lens_pos t L qg
    have hlen := sl.lens_len t L
    rw [← hzs] at hsum hpos hlen hfx
    rw [HS.out.len] at q0 q2 q3 hlen hfx
    have HSUM := Lib.hid hsum
    have HPOS := Lib.hid hpos
    have HLEN := Lib.hid hlen
    have HFX := Lib.hid hfx
    have HTB := Lib.hid (sum_take_bounds zs hpos t hsum)
    rw [HLEN.out] at HSH
    clear hsum hpos hlen hfx hzs HSB HSO HEE hER qg
    go_enter Try.func4, Try.ntmps4
    go_wp2_with fail
    refine HA.out.mono ?_
    rintro e w1 ⟨rfl, hb1⟩
    have HB1 := Lib.hid hb1
    clear hb1 HA
    go_wp2_with fail
    refine (HSH.out w1 HB1.out).mono ?_
    rintro e w2 ⟨ao, ac, rfl, hi2, hb2⟩
    have HB2 := Lib.hid (HB1.out.trans (hb2.mono HB1.out.size))
    have HI2 := Lib.hid hi2
    have hac : ac ≤ 9223372036854775807 := hi2.max
    have hlac := hi2.le
    have HS2 := Lib.hid (HS.out.below HB2.out)
    clear hi2 hb2 HB1 HSH HS
    go_wp2_with fail
    go_loopg [7, 8, 9, 27] n (fun gg s7 s8 s9 s27 wr => ∃ (k : Nat) (su la fi : Int), s27 = .int .i64 k ∧ s7 = .int .i64 su ∧ s8 = .int .i64 la ∧ s9 = .int .i64 fi ∧ k ≤ n ∧ n - k ≤ gg ∧ 0 ≤ su ∧ su ≤ 200 ∧ Hid (su = (zs.take k).sum ∧ FlexSeen c m (sl.rank L k) fi la ∧ wr = w2))
    case atStart => exact ⟨0, 0, 0, 0, rfl, rfl, rfl, rfl, Nat.zero_le _, by omega, by omega, by omega, Lib.hid ⟨rfl, .inl ⟨rfl, rfl, rfl⟩, rfl⟩⟩
    case round =>
      obtain ⟨k, su, la, fi, rfl, rfl, rfl, rfl, hk, hgg, hsu0, hsu1, HA⟩ := hrel
      obtain rfl := HA.out.2.2
      by_cases hlt : k < n
      · obtain ⟨b, off, rfl, hb, k0, k1⟩ := HS2.out.cell hlt
        obtain ⟨b2, off2, rfl, hb2, kz⟩ := HI2.out.cell hlt
        have hkl : k < L.length := by rw [HS2.out.len]; exact hlt
        have hkz : k < zs.length := by rw [HLEN.out]; exact hlt
        have hrk := sl.rank_snoc L k hkl
        have hst : (zs.take (k + 1)).sum = su + zs.getD k 0 := by rw [sl.int_take_snoc zs k hkz, sl.sum_snoc, ← HA.out.1]
        have hb1 := HTB.out (k + 1)
        rw [hst] at hb1
        have hv1 := HPOS.out _ (sl.getD_mem zs k hkz)
        have hfk := HFX.out k hlt
        generalize zs.getD k 0 = v at *
        generalize L.getD k sl.z0 = s at *
        obtain ⟨sk, sn⟩ := s
        dsimp only at k0 k1 hrk hfk
        clear k1
        have HRK := Lib.hid hrk
        have HST := Lib.hid hst
        clear hrk hst hkl hkz
        have hki : (k : Int) < (n : Int) := by omega
        by_cases h0 : sk = 0
        · have hv := hfk h0
          subst h0
          rcases flexSeen_next HA.out.2.1 hc with ⟨_, rfl, rfl, _, hf⟩ | ⟨g1, g2, g3, hf⟩
          · rw [← hv] at hf
            have HF := Lib.hid hf
            clear hf hv hfk
            go_wp2_with fail
            go_roundg (n - (k + 1))
            case measure => omega
            case rel => exact ⟨k + 1, su + v, v, v, by go_num, rfl, rfl, rfl, by omega, Nat.le_refl _, by omega, by omega, Lib.hid ⟨HST.out.symm, by rw [HRK.out]; exact HF.out, rfl⟩⟩
          · rw [← hv] at hf g2 g3
            have HF := Lib.hid hf
            clear hf hv hfk
            have d1 : (fi == 0) = false := by simp; omega
            have d2 : decide (0 < fi) = true := decide_eq_true (by omega)
            have d3 : decide (la < v) = false := decide_eq_false (by omega)
            have d4 : decide (v < fi - 1) = false := decide_eq_false (by omega)
            go_wp2_with fail
            go_roundg (n - (k + 1))
            case measure => omega
            case rel => exact ⟨k + 1, su + v, v, fi, by go_num, rfl, rfl, rfl, by omega, Nat.le_refl _, by omega, by omega, Lib.hid ⟨HST.out.symm, by rw [HRK.out]; exact HF.out, rfl⟩⟩
        · have e0 : (sk == 0) = false := by simpa using h0
          have HH0 := Lib.hid h0
          clear hfk h0
          go_wp2_with fail
          go_roundg (n - (k + 1))
          case measure => omega
          case rel => exact ⟨k + 1, su + v, la, fi, by go_num, rfl, rfl, rfl, by omega, Nat.le_refl _, by omega, by omega, Lib.hid ⟨HST.out.symm, by rw [HRK.out]; simp [HH0.out]; exact HA.out.2.1, rfl⟩⟩
      · obtain rfl : k = n := by omega
        have hfin : su = t := by rw [HA.out.1, List.take_of_length_le (by rw [HLEN.out]; exact Nat.le_refl _), HSUM.out]
        subst hfin
        go_wp2_with fail
        go_ret
        exact ⟨rfl, HB2.out⟩
  · obtain rfl : zs = [] := HSB.out he
    have he2 : (er == 0) = false := by simpa using he
    have he3 : (er != 0) = true := by simpa using he
    clear HSB HSO HEE hER he
    go_enter Try.func4, Try.ntmps4
    go_wp2_with fail
    refine HA.out.mono ?_
    rintro e w1 ⟨rfl, hb1⟩
    have HB1 := Lib.hid hb1
    clear hb1
    go_wp2_with fail
    refine (HSH.out w1 HB1.out).mono ?_
    rintro e w2 ⟨ao, ac, rfl, hi2, hb2⟩
    have HB2 := Lib.hid (HB1.out.trans (hb2.mono HB1.out.size))
    have hac : ac ≤ 9223372036854775807 := hi2.max
    clear hi2 hb2
    go_wp2_with fail
    go_ret
    exact ⟨rfl, HB2.out⟩
end Go.Proofs.Yteilaoiimlpbkaa
