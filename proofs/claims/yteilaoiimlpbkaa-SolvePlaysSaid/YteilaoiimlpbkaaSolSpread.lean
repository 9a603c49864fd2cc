/- What is left over, shared out among the places of the Flex parts. -/
import Derived.Test.YteilaoiimlpbkaaSolFind
import Derived.Test.YteilaoiimlpbkaaSolPre2
namespace Go.Proofs.Yteilaoiimlpbkaa
open Go.RowKit
attribute [local go_sem ↓ 10000] run_mn run_mx

/-- lengths in a row of one's own, in block g -/
def RowI (w : World) (B g cap n : Nat) (zs : List Int) : Prop := w.ownsRow B 3 1 (.slice (some ⟨g, 0, none⟩) n cap) n (zs.map (Value.int .i64))
theorem RowI.len {w : World} {B g cap n : Nat} {zs : List Int} (h : RowI w B g cap n zs) : zs.length = n := by
  have := own_len h
  simpa using this
theorem RowI.cell {w : World} {B g cap n : Nat} {zs : List Int} (h : RowI w B g cap n zs) {j : Nat} (hj : j < n) : w.cell? ⟨g, j, none⟩ = some (.int .i64 (zs.getD j 0)) := by
  have := own_cell (d := Value.int .i64 0) h hj
  have hl : j < zs.length := by rw [h.len]; exact hj
  rw [this]
  simp [List.getD, hl]
theorem RowI.set {w : World} {B g cap n : Nat} {zs : List Int} (h : RowI w B g cap n zs) (j : Nat) (x : Int) : RowI (w.setCell ⟨g, j, none⟩ (.int .i64 x)) B g cap n (zs.set j x) := by
  have := own_set h j (.int .i64 x)
  unfold RowI
  rw [List.map_set]
  exact this
theorem RowI.frozen {w : World} {B g cap n : Nat} {zs : List Int} (h : RowI w B g cap n zs) (j : Nat) : w.frozen? ⟨g, j, none⟩ = false := World.ownsRow.frozenAt h j
theorem RowI.lt {w : World} {B g cap n : Nat} {zs : List Int} (h : RowI w B g cap n zs) : B ≤ g ∧ g < w.heap.size := World.ownsRow.lt h g rfl
theorem RowI.kept {w w' : World} {B g cap n : Nat} {zs : List Int} (h : RowI w B g cap n zs) (hb : Below w.heap.size w w') : RowI w' B g cap n zs := row_below h hb
theorem RowI.caps {w : World} {B g cap n : Nat} {zs : List Int} (h : RowI w B g cap n zs) : n ≤ cap ∧ cap ≤ 9223372036854775807 := by
  rcases h.2 with ⟨h', h0⟩ | ⟨g', cap', cur, he, _, _, hc, hm, _⟩
  · cases h'
  · cases he
    exact ⟨hc, hm⟩
theorem RowI.of {w : World} {B n : Nat} {v : Value} {zs : List Int} (h : w.ownsRow B 3 1 v n (zs.map (Value.int .i64))) (hn : 0 < n) : ∃ g cap, v = .slice (some ⟨g, 0, none⟩) n cap ∧ RowI w B g cap n zs := by
  obtain ⟨g, cap, rfl, _⟩ := own_some h hn
  exact ⟨g, cap, rfl, h⟩
theorem Ints.kept_ne {w w' : World} {o : Option Addr} {n cap g : Nat} {zs : List Int} (H : Ints w o n cap zs) (hk : Kept w w' (· = g)) (hne : ∀ a : Addr, o = some a → a.block ≠ g) : Ints w' o n cap zs :=
  ⟨H.len, H.le, H.max, H.at_.imp id fun ⟨b, off, h1, h2, h3⟩ => ⟨b, off, h1, Nat.lt_of_lt_of_le h2 hk.size, fun k hk' => hk.cell (h3 k hk') (hne ⟨b, off, none⟩ h1)⟩⟩
set_option maxHeartbeats 1600000 in
theorem spread_any (B g cap n : Nat) (zs : List Int) (o : Option Addr) (cap2 : Nat) (L : List sl.Sz) (x : Int) (w : World) (hr : RowI w B g cap n zs) (hs : SzIn w o n cap2 L) (h0 : 0 < n) (hn : n ≤ 16) (hz : ∀ j, j < n → 1 ≤ zs.getD j 0 ∧ zs.getD j 0 ≤ 200) (hx0 : 0 ≤ x) (hx : x ≤ 200) :
    Calls Try.prog 19 #[.slice (some ⟨g, 0, none⟩) n cap, .slice o n cap2, .int .i64 x] w fun e w' => e = .returned (.tuple #[]) ∧ RowI w' B g cap n (sl.spreadAll zs L x) ∧ Kept w w' (· = g) := by
  have hm : cap2 ≤ 9223372036854775807 := hs.max
  have hle := hs.le
  obtain ⟨hc1, hc2⟩ := hr.caps
  have hglt := hr.lt
  have HP := Lib.hid (places_any o n cap2 L w hs hn)
  have HS := Lib.hid hs
  have HR := Lib.hid hr
  have HZ := Lib.hid hz
  have hL0 : L.length ≠ 0 := by rw [hs.len]; omega
  have HLT := Lib.hid (sl.lasts_lt L hL0)
  have HSO := Lib.hid (sl.lasts_sorted L)
  have HD : Hid (sl.spreadAll zs L x = sl.spread (x / ((sl.lasts L).length : Int)) (x % ((sl.lasts L).length : Int)) 0 (sl.lasts L) zs) := Lib.hid rfl
  have HPL : Hid (sl.lasts L = if sl.places L = [] then [L.length - 1] else sl.places L) := Lib.hid rfl
  have hml := sl.places_len L
  rw [HS.out.len] at hml
  clear hs hr hz hL0
  generalize sl.spreadAll zs L x = R at *
  generalize sl.lasts L = ps at *
  go_enter Try.func19, Try.ntmps19
  go_wp2_with fail
  refine HP.out.mono ?_
  rintro e w1 ⟨V, rfl, hr1, hb1⟩
  generalize hm0 : (sl.places L).length = m at *
  have HM0 := Lib.hid hm0
  obtain ⟨ao, ac, rfl⟩ := own_slice hr1
  have HR1 := Lib.hid hr1
  have HB1 := Lib.hid hb1
  clear hr1 hb1 HP hm0
  have hsz1 := HB1.out.size
  by_cases hp : m = 0
  · subst hp
    have hpl : ps = [n - 1] := by rw [HPL.out, List.length_eq_zero_iff.1 HM0.out, if_pos rfl, HS.out.len]
    have HF : Hid (Ints (w1.alloc (.cells #[.int .i64 ((n : Int) - 1)] 3)) (some ⟨w1.heap.size, 0, none⟩) 1 1 (natsI ps)) := Lib.hid (by
      rw [hpl]
      have h := Ints.new w1 3 [(n : Int) - 1] (by simp)
      rw [show natsI [n - 1] = [(n : Int) - 1] by simp [natsI]; omega]
      exact h)
    have HK : Hid (Kept w (w1.alloc (.cells #[.int .i64 ((n : Int) - 1)] 3)) (· = g)) := Lib.hid ((Kept.of_below HB1.out (· = g)).alloc _)
    have HRW := Lib.hid (HR.out.kept (HB1.out.alloc hsz1 (.cells #[.int .i64 ((n : Int) - 1)] 3)))
    have HPS := Lib.hid hpl
    clear hpl
    have hne : w1.heap.size ≠ g := by omega
    have HLEN : Hid (ps.length = 1) := Lib.hid (by rw [HPS.out]; rfl)
    have HDD : Hid (R = sl.spread x 0 0 ps zs) := Lib.hid (by rw [HD.out, HLEN.out]; simp)
    have HNE : Hid (∀ a : Addr, some (⟨w1.heap.size, 0, none⟩ : Addr) = some a → a.block ≠ g) := Lib.hid (fun a ha => by cases ha; exact hne)
    clear HPL HD HPS
    go_wp2_with fail
    go_quiet (fail)
    have HF0 := Lib.hid (HF.out.drewN nq)
    have HK0 := Lib.hid (HK.out.drewN nq)
    have HRW0 : Hid (RowI ((w1.alloc (.cells #[.int .i64 ((n : Int) - 1)] 3)).drewN nq) B g cap n zs) := Lib.hid HRW.out
    clear HF HK HRW
    generalize ((w1.alloc (.cells #[.int .i64 ((n : Int) - 1)] 3)).drewN nq) = W0 at *
    go_wp2_with fail
    go_loopg [30] 1 (fun gg s30 wr => ∃ i : Nat, s30 = .int .i64 i ∧ i ≤ 1 ∧ 1 - i ≤ gg ∧ Hid (RowI wr B g cap n (sl.spread x 0 0 (ps.take i) zs) ∧ Kept W0 wr (· = g)))
    case atStart => exact ⟨0, rfl, Nat.zero_le _, by omega, Lib.hid ⟨HRW0.out, Kept.refl _ _⟩⟩
    case round =>
      obtain ⟨i, rfl, hi, hgg, HA⟩ := hrel
      by_cases hlt : i < 1
      · obtain ⟨fb, foff, hfo, hfb, hfc⟩ := (HF0.out.kept_ne HA.out.2 HNE.out).cell hlt
        obtain ⟨rfl, rfl⟩ : w1.heap.size = fb ∧ 0 = foff := by simpa using hfo
        have hil : i < ps.length := by rw [HLEN.out]; exact hlt
        have hpv : (natsI ps).getD i 0 = (ps[i] : Int) := by simp [natsI, List.getD, hil]
        rw [hpv] at hfc
        simp only [Nat.zero_add] at hfc
        have hpn : ps[i] < n := by have := HLT.out ps[i] (List.getElem_mem hil); rwa [HS.out.len] at this
        have hat := sl.spread_at x 0 ps HSO.out zs i hil
        have hn1 := sl.spread_put1 x 0 ps HSO.out zs i hil
        have hn2 := sl.spread_put2 x 0 ps HSO.out zs i hil
        have hzb := HZ.out ps[i] hpn
        have hrc := HA.out.1.cell hpn
        rw [hat] at hrc
        have hfz := HA.out.1.frozen ps[i]
        have hpc : ps[i] < cap := by omega
        clear hat hpv hfo
        generalize ps[i] = p at *
        generalize zs.getD p 0 = y at *
        have hpi : (p : Int) < (n : Int) := by omega
        have hii : (i : Int) < (1 : Nat) := by omega
        have HN1 := Lib.hid hn1
        have HN2 := Lib.hid hn2
        clear hn1 hn2 hil
        have hmo : ¬ (i : Int) < 0 := by omega
        have HP2 := Lib.hid (HN1.out hmo)
        have HW2 : Hid (RowI (wr.setCell ⟨g, p, none⟩ (.int .i64 (y + x))) B g cap n (sl.spread x 0 0 (ps.take (i + 1)) zs) ∧ Kept W0 (wr.setCell ⟨g, p, none⟩ (.int .i64 (y + x))) (· = g)) := Lib.hid ⟨by rw [HP2.out]; exact HA.out.1.set p _, HA.out.2.setCell (p := ⟨g, p, none⟩) (fun _ => rfl) _⟩
        go_wp2_with fail
        go_roundg (1 - (i + 1))
        case measure => omega
        case rel => exact ⟨i + 1, by go_num, by omega, Nat.le_refl _, HW2⟩
      · obtain rfl : i = 1 := by omega
        have HE : Hid (ps.take 1 = ps) := Lib.hid (by rw [List.take_of_length_le (by rw [HLEN.out]; exact Nat.le_refl _)])
        go_wp2_with fail
        go_end0
        refine ⟨rfl, ?_, HK0.out.trans HA.out.2 (fun k _ h => h)⟩
        rw [HDD.out]
        have := HA.out.1
        rw [HE.out] at this
        exact this
  · have hp0 : ((m : Int) == 0) = false := by simp; omega
    have hp1 : 0 < m := by omega
    have HPS : Hid (ps = sl.places L) := Lib.hid (by rw [HPL.out, if_neg (fun h => hp (by rw [← HM0.out, h]; rfl))])
    have HLEN : Hid (ps.length = m) := Lib.hid (by rw [HPS.out]; exact HM0.out)
    obtain ⟨f1, ac1, he, hf1, hf2, hf3, hf4⟩ := own_some HR1.out hp1
    cases he
    have HNE : Hid (∀ a : Addr, some (⟨f1, 0, none⟩ : Addr) = some a → a.block ≠ g) := Lib.hid (fun a ha => by cases ha; show f1 ≠ g; omega)
    have HF : Hid (Ints w1 (some ⟨f1, 0, none⟩) m ac (natsI ps)) := Lib.hid (by
      obtain ⟨of1, c1, he1, hf1⟩ := Ints.of_own HR1.out
      cases he1
      rw [HPS.out]
      exact hf1)
    have HK : Hid (Kept w w1 (· = g)) := Lib.hid (Kept.of_below HB1.out (· = g))
    have HRW := Lib.hid (HR.out.kept HB1.out)
    have HDD : Hid (R = sl.spread (x / (m : Int)) (x % (m : Int)) 0 ps zs) := Lib.hid (by rw [HD.out, HLEN.out])
    have hE1 : 0 ≤ x / (m : Int) := Int.ediv_nonneg hx0 (by omega)
    have hE2 : x / (m : Int) ≤ 200 := Int.le_trans (Int.ediv_le_self _ hx0) hx
    have hM1 : 0 ≤ x % (m : Int) := Int.emod_nonneg _ (by omega)
    have hM2 : x % (m : Int) < m := Int.emod_lt_of_pos _ (by omega)
    have hac : ac ≤ 9223372036854775807 := hf4
    clear HPL HD HPS HR1 hp
    go_wp2_with fail
    go_quiet (fail)
    have HF0 := Lib.hid (HF.out.drewN nq)
    have HK0 := Lib.hid (HK.out.drewN nq)
    have HRW0 : Hid (RowI (w1.drewN nq) B g cap n zs) := Lib.hid HRW.out
    clear HF HK HRW
    generalize (w1.drewN nq) = W0 at *
    generalize x / (m : Int) = E at *
    generalize x % (m : Int) = M at *
    go_wp2_with fail
    go_loopg [30] m (fun gg s30 wr => ∃ i : Nat, s30 = .int .i64 i ∧ i ≤ m ∧ m - i ≤ gg ∧ Hid (RowI wr B g cap n (sl.spread E M 0 (ps.take i) zs) ∧ Kept W0 wr (· = g)))
    case atStart => exact ⟨0, rfl, Nat.zero_le _, by omega, Lib.hid ⟨HRW0.out, Kept.refl _ _⟩⟩
    case round =>
      obtain ⟨i, rfl, hi, hgg, HA⟩ := hrel
      by_cases hlt : i < m
      · obtain ⟨fb, foff, hfo, hfb, hfc⟩ := (HF0.out.kept_ne HA.out.2 HNE.out).cell hlt
        obtain ⟨rfl, rfl⟩ : f1 = fb ∧ 0 = foff := by simpa using hfo
        have hil : i < ps.length := by rw [HLEN.out]; exact hlt
        have hpv : (natsI ps).getD i 0 = (ps[i] : Int) := by simp [natsI, List.getD, hil]
        rw [hpv] at hfc
        simp only [Nat.zero_add] at hfc
        have hpn : ps[i] < n := by have := HLT.out ps[i] (List.getElem_mem hil); rwa [HS.out.len] at this
        have hat := sl.spread_at E M ps HSO.out zs i hil
        have hn1 := sl.spread_put1 E M ps HSO.out zs i hil
        have hn2 := sl.spread_put2 E M ps HSO.out zs i hil
        have hzb := HZ.out ps[i] hpn
        have hrc := HA.out.1.cell hpn
        rw [hat] at hrc
        have hfz := HA.out.1.frozen ps[i]
        have hpc : ps[i] < cap := by omega
        clear hat hpv hfo
        generalize ps[i] = p at *
        generalize zs.getD p 0 = y at *
        have hpi : (p : Int) < (n : Int) := by omega
        have hii : (i : Int) < (m : Nat) := by omega
        have HN1 := Lib.hid hn1
        have HN2 := Lib.hid hn2
        clear hn1 hn2 hil
        by_cases hmo : (i : Int) < M
        · have HP2 := Lib.hid (HN2.out hmo)
          have HW2 : Hid (RowI ((wr.setCell ⟨g, p, none⟩ (.int .i64 (y + E))).setCell ⟨g, p, none⟩ (.int .i64 (y + E + 1))) B g cap n (sl.spread E M 0 (ps.take (i + 1)) zs) ∧ Kept W0 ((wr.setCell ⟨g, p, none⟩ (.int .i64 (y + E))).setCell ⟨g, p, none⟩ (.int .i64 (y + E + 1))) (· = g)) := Lib.hid ⟨by rw [HP2.out]; exact (HA.out.1.set p _).set p _, (HA.out.2.setCell (p := ⟨g, p, none⟩) (fun _ => rfl) _).setCell (p := ⟨g, p, none⟩) (fun _ => rfl) _⟩
          go_wp2_with fail
          go_roundg (m - (i + 1))
          case measure => omega
          case rel => exact ⟨i + 1, by go_num, by omega, Nat.le_refl _, HW2⟩
        · have HP2 := Lib.hid (HN1.out hmo)
          have HW2 : Hid (RowI (wr.setCell ⟨g, p, none⟩ (.int .i64 (y + E))) B g cap n (sl.spread E M 0 (ps.take (i + 1)) zs) ∧ Kept W0 (wr.setCell ⟨g, p, none⟩ (.int .i64 (y + E))) (· = g)) := Lib.hid ⟨by rw [HP2.out]; exact HA.out.1.set p _, HA.out.2.setCell (p := ⟨g, p, none⟩) (fun _ => rfl) _⟩
          go_wp2_with fail
          go_roundg (m - (i + 1))
          case measure => omega
          case rel => exact ⟨i + 1, by go_num, by omega, Nat.le_refl _, HW2⟩
      · obtain rfl : i = m := by omega
        have HE : Hid (ps.take i = ps) := Lib.hid (by rw [List.take_of_length_le (by rw [HLEN.out]; exact Nat.le_refl _)])
        go_wp2_with fail
        go_end0
        refine ⟨rfl, ?_, HK0.out.trans HA.out.2 (fun k _ h => h)⟩
        rw [HDD.out]
        have := HA.out.1
        rw [HE.out] at this
        exact this
end Go.Proofs.Yteilaoiimlpbkaa
