/- What package rect's covered does: how many cells of a row lie in some rectangle. -/
import Derived.Test.YtpmggljdcbbdfaaMinus
namespace Go.Proofs.Ytpmggljdcbbdfaa
open Go.RowKit rm
attribute [local go_sem ↓] Go.wp_at_zero Go.wp_at_succ
attribute [local go_sem ↓ 10000] run_mn run_mx

theorem has_row (x y ww h py : Int) (w : World) :
    Calls Try.prog 20 #[(.agg #[.int .i64 x, .int .i64 y, .int .i64 ww, .int .i64 h]), .int .i64 x, .int .i64 py] w fun e w' => e = .returned (.bool (inRow py ⟨x, y, ww, h⟩)) ∧ Below w.heap.size w w' :=
  (has_any x y ww h x py w).mono fun e w' ⟨a, b, c, d, he, hc, hb⟩ => ⟨by
    rw [he]; refine ret_bool ?_
    unfold inRow hasB
    rw [show clean ⟨x, y, ww, h⟩ = ⟨a, b, c, d⟩ from hc.symm], hb⟩

set_option maxHeartbeats 1600000 in
theorem covered_any (g cap : Nat) (L : List RR) (y : Int) (w : World) (hL : RowL w g L) (hg : g < w.heap.size) (hcap : L.length ≤ cap) (hlen : L.length ≤ 65536) (hbd : ∀ r ∈ L, Bd r) :
    Calls Try.prog 48 #[.slice (some ⟨g, 0, none⟩) L.length cap, .int .i64 y] w fun e w' => e = .returned (.int .i64 (cov y L).1) ∧ Below w.heap.size w w' := by
  have HC := Lib.hid (fun k => cov_bd y (L.take k) (fun r hr => hbd r (List.mem_of_mem_take hr)))
  have HBD := Lib.hid hbd; clear hbd
  generalize hn : L.length = n at *
  have HN := Lib.hid hn; clear hn
  have HD := Lib.hid hL; clear hL
  go_enter Try.func48, Try.ntmps48
  go_wp2_with fail
  go_loopg [5, 6, 12] n (fun gg s5 s6 i wr => ∃ (k : Nat) (a b : Int), k ≤ n ∧ n - k ≤ gg ∧ i = .int .i64 k ∧ s5 = .int .i64 a ∧ s6 = .int .i64 b ∧ Hid (cov y (L.take k) = (a, b)) ∧ Below w.heap.size w wr)
  case atStart => exact ⟨0, 0, -5000, Nat.zero_le _, by omega, rfl, rfl, rfl, Lib.hid rfl, Below.refl _ _⟩
  case round =>
    obtain ⟨k, a, b, hk, hgg, rfl, rfl, rfl, hcov, hbel⟩ := hrel
    by_cases hlt : k < n
    · obtain ⟨r, hr⟩ : ∃ r, L[k]? = some r := ⟨_, List.getElem?_eq_getElem (by rw [HN.out]; exact hlt)⟩
      have HR := Lib.hid hr; clear hr
      have hq := (HD.out k r HR.out).keep (hbel.block g hg)
      have hb4 := HBD.out r (List.mem_of_getElem? HR.out)
      have hcb := HC.out k
      rw [hcov.out] at hcb
      dsimp only at hcb
      obtain ⟨rx, ry, rw', rh⟩ := r
      obtain ⟨k0, k1, k2, k3, f0, f1, f2, f3⟩ := hq
      obtain ⟨⟨bA1, bA2⟩, ⟨bA3, bA4⟩, ⟨bA5, bA6⟩, bA7, bA8⟩ := hb4
      dsimp only at k0 k1 k2 k3 bA1 bA2 bA3 bA4 bA5 bA6 bA7 bA8
      obtain ⟨cb1, cb2, cb3, cb4⟩ := hcb
      have cb2' : a ≤ 200 * 65536 := by have := List.length_take_le k L; omega
      clear cb2
      have hbel1 := hbel.alloc hbel.size (rc rx ry rw' rh)
      have hN := hbel.size
      go_wp2_with fail
      obtain ⟨bz, hbz⟩ : ∃ bz, bz = inRow y ⟨rx, ry, rw', rh⟩ := ⟨_, rfl⟩
      refine (has_row _ _ _ _ _ _).mono ?_
      rintro e w2 ⟨rfl, hb2⟩
      rw [← hbz]
      have HB := Lib.hid hbz; clear hbz
      have hsz : (wr.alloc (rc rx ry rw' rh)).heap.size = wr.heap.size + 1 := by simp
      obtain ⟨u0, l0, l1, l2, l3, g0, g1, g2, g3⟩ := (RectAt.new wr rx ry rw' rh 23).below hb2 (by rw [hsz]; omega)
      have hbel2 := hbel1.trans (hb2.mono (by rw [hsz]; omega))
      clear k0 k1 k2 k3 f0 f1 f2 f3 hbel hbel1 hb2 hsz
      have hts : L.take (k + 1) = L.take k ++ [⟨rx, ry, rw', rh⟩] := by
        obtain ⟨h1, h2⟩ := List.getElem?_eq_some_iff.1 HR.out
        rw [List.take_succ_eq_append_getElem h1, h2]
      have HTS := Lib.hid hts; clear hts
      cases bz
      · go_wp2_with fail
        go_roundg (n - (k + 1))
        case measure => omega
        case rel => exact ⟨k + 1, a, b, by omega, Nat.le_refl _, by go_num, rfl, rfl, Lib.hid (by rw [HTS.out, cov_snoc, hcov.out]; unfold covStep; rw [← HB.out]; rfl), hbel2⟩
      · have hm1 : -5000 ≤ mx rx b ∧ mx rx b ≤ 5200 ∧ rx ≤ mx rx b := by unfold mx; omega
        obtain ⟨m1, m2, m3⟩ := hm1
        have hm4 : 0 ≤ mx 0 (rx + rw' - mx rx b) ∧ mx 0 (rx + rw' - mx rx b) ≤ 200 := by unfold mx at *; omega
        obtain ⟨m4, m5⟩ := hm4
        go_wp2_with fail
        go_roundg (n - (k + 1))
        case measure => omega
        case rel => exact ⟨k + 1, _, _, by omega, Nat.le_refl _, by go_num, rfl, rfl, Lib.hid (by rw [HTS.out, cov_snoc, hcov.out]; unfold covStep; rw [← HB.out]; rfl), hbel2⟩
    · go_wp2_with fail
      go_ret
      obtain rfl : k = n := by omega
      refine ⟨?_, hbel⟩
      have := hcov.out
      rw [List.take_of_length_le (by rw [HN.out]; exact Nat.le_refl _)] at this
      rw [this]
      rfl
end Go.Proofs.Ytpmggljdcbbdfaa
