/- CapsBytes: the walk. -/
import Derived.Test.YtbmcmcdgdhabaaaDoorCpAlive
import Derived.Deep.RegionHeld3
namespace Go.Proofs.YtbmcmcdgdhabaaaDoor
open Go.RowKit
theorem cp.B5 (a n : Int) (mem : List UInt8) : cp.ask 4 5 [7, a, n] mem = if cp.short n = true then (if cp.within a n mem.length = true then (⟨5, 7, 0, 0, 0, 0, 0, 0, 0⟩, (mem.drop a.toNat).take n.toNat, 0) else (⟨0, 0, 0, 0, 0, 0, 0, 0, 0⟩, [], -4)) else (⟨0, 0, 0, 0, 0, 0, 0, 0, 0⟩, [], -3) := by
  unfold cp.ask
  rw [if_pos ⟨rfl, rfl⟩, if_pos (by decide)]
  show (if (cp.isPane 7 && cp.short n) = true then _ else _) = _
  rw [show cp.isPane 7 = true by decide, Bool.true_and]
  rfl
theorem cp.B11 (a n : Int) (mem : List UInt8) : cp.ask 0 11 [a, n] mem = if cp.short n = true then (if cp.within a n mem.length = true then (⟨11, 0, 0, 0, 0, 0, 0, 0, 0⟩, (mem.drop a.toNat).take n.toNat, 0) else (⟨0, 0, 0, 0, 0, 0, 0, 0, 0⟩, [], -4)) else (⟨0, 0, 0, 0, 0, 0, 0, 0, 0⟩, [], -3) := by
  unfold cp.ask
  rw [if_pos ⟨rfl, rfl⟩, if_pos (by decide)]
  rfl
theorem bs_keep {w6 X Y : World} {q1 q2 nn c1 c2 : Nat} {o1 o2 : Option Addr} (h : X.cell? ⟨q1, 0, none⟩ = some (.int .i64 5) ∧ X.cell? ⟨q1, 1, none⟩ = some (.int .i64 7) ∧ X.cell? ⟨q2, 0, none⟩ = some (.int .i64 11) ∧ X.cell? ⟨q1, 9, none⟩ = some (.slice o1 nn c1) ∧ X.cell? ⟨q2, 9, none⟩ = some (.slice o2 nn c2) ∧ Below w6.heap.size w6 X) (hb : Below X.heap.size X Y) : Y.cell? ⟨q1, 0, none⟩ = some (.int .i64 5) ∧ Y.cell? ⟨q1, 1, none⟩ = some (.int .i64 7) ∧ Y.cell? ⟨q2, 0, none⟩ = some (.int .i64 11) ∧ Y.cell? ⟨q1, 9, none⟩ = some (.slice o1 nn c1) ∧ Y.cell? ⟨q2, 9, none⟩ = some (.slice o2 nn c2) ∧ Below w6.heap.size w6 Y := by
  obtain ⟨h1, h2, h3, h4, h5, h6⟩ := h
  have k := fun (b i : Nat) (v : Value) (hc : X.cell? ⟨b, i, none⟩ = some v) => (hb.cell (p := ⟨b, i, none⟩) (World.block_lt_of_cell? X _ hc)).trans hc
  exact ⟨k _ _ _ h1, k _ _ _ h2, k _ _ _ h3, k _ _ _ h4, k _ _ _ h5, h6.trans (hb.mono h6.size)⟩
set_option maxRecDepth 100000 in
set_option maxHeartbeats 6400000 in
theorem bytes_any (VM : Value) (mem : List UInt8) (a n : Int) (w : World) (hv : VT w) (hm : BsIn w (fun k => k < w.heap.size) VM mem) :
    Calls Tryd.prog 4 #[VM, .int .i64 a, .int .i64 n] w fun e w' => e = .returned (.bool true) ∧ Below w.heap.size w w' := by
  obtain ⟨om, cm, rfl, hlm, hmm, -⟩ := id hm
  have HV := Lib.hid (fun (W : World) (hb : Below w.heap.size w W) => hv.below hb)
  have HIM := Lib.hid (fun (W : World) (hb : Below w.heap.size w W) => RowIn.below hm hb)
  have HA0 := Lib.hid (fun (W : World) (hb : Below w.heap.size w W) (V : Value) (ha : NsIn W (fun _ => True) V [7, a, n]) => ask_then _ _ _ _ 4 5 [7, a, n] mem _ (cp.B5 a n mem) W (HV.out W hb).ht (HV.out W hb).nt ha (HIM.out W hb))
  have HA1 := Lib.hid (fun (W : World) (hb : Below w.heap.size w W) (V : Value) (ha : NsIn W (fun _ => True) V [a, n]) => ask_then _ _ _ _ 0 11 [a, n] mem _ (cp.B11 a n mem) W (HV.out W hb).ht (HV.out W hb).nt ha (HIM.out W hb))
  have hsi := cp.btw_iff (l := 0) (v := n) (m := 64)
  have hwi := cp.btw_iff (l := 0) (v := a) (m := mem.length)
  have HWE : Hid (cp.within a n mem.length = (cp.btw 0 a mem.length && decide (n ≤ mem.length - a))) := Lib.hid rfl
  have HSE : Hid (cp.short n = cp.btw 0 n 64) := Lib.hid rfl
  obtain ⟨S, hS⟩ : ∃ S, cp.short n = S := ⟨_, rfl⟩
  obtain ⟨I, hI⟩ : ∃ I, cp.within a n mem.length = I := ⟨_, rfl⟩
  rw [hS, hI] at HA0 HA1
  rw [hS] at HSE
  rw [hI] at HWE
  have hS1 : S = true → 0 ≤ n ∧ n ≤ 64 := fun h => hsi.1 (by rw [← HSE.out]; exact h)
  have hS0 : S = false → n < 0 ∨ 64 < n := fun h => by
    by_cases h2 : 0 ≤ n ∧ n ≤ 64
    · have := hsi.2 h2
      rw [← HSE.out, h] at this
      cases this
    · omega
  have hI1 : I = true → 0 ≤ a ∧ a ≤ mem.length ∧ n ≤ mem.length - a := fun h => by
    have := HWE.out
    rw [h] at this
    have h2 := this.symm
    simp only [Bool.and_eq_true, decide_eq_true_eq] at h2
    have := hwi.1 h2.1
    omega
  have hI0 : I = false → a < 0 ∨ (mem.length : Int) < a ∨ (mem.length : Int) - a < n := fun h => by
    by_cases h2 : (0 ≤ a ∧ a ≤ mem.length) ∧ n ≤ mem.length - a
    · have h3 : (cp.btw 0 a mem.length && decide (n ≤ mem.length - a)) = true := by
        simp only [Bool.and_eq_true, decide_eq_true_eq]
        exact ⟨hwi.2 h2.1, h2.2⟩
      rw [← HWE.out, h] at h3
      cases h3
    · omega
  obtain ⟨R0, hR0⟩ : ∃ R0 : cp.Call × List UInt8 × Int, (if S = true then (if I = true then (⟨5, 7, 0, 0, 0, 0, 0, 0, 0⟩, (mem.drop a.toNat).take n.toNat, 0) else (⟨0, 0, 0, 0, 0, 0, 0, 0, 0⟩, [], -4)) else (⟨0, 0, 0, 0, 0, 0, 0, 0, 0⟩, [], -3)) = R0 := ⟨_, rfl⟩
  obtain ⟨R1, hR1⟩ : ∃ R1 : cp.Call × List UInt8 × Int, (if S = true then (if I = true then (⟨11, 0, 0, 0, 0, 0, 0, 0, 0⟩, (mem.drop a.toNat).take n.toNat, 0) else (⟨0, 0, 0, 0, 0, 0, 0, 0, 0⟩, [], -4)) else (⟨0, 0, 0, 0, 0, 0, 0, 0, 0⟩, [], -3)) = R1 := ⟨_, rfl⟩
  rw [hR0] at HA0
  rw [hR1] at HA1
  obtain ⟨nm, hnm⟩ : ∃ nm, mem.length = nm := ⟨_, rfl⟩
  have HNM := Lib.hid hnm
  rw [hnm] at hlm hI1 hI0
  rw [hnm]
  obtain ⟨⟨p0, p1, p2, p3, p4, p5, p6, p7, p8⟩, b1, e1⟩ := R0
  obtain ⟨⟨s0, s1, s2, s3, s4, s5, s6, s7, s8⟩, b2, e2⟩ := R1
  have HR0 := Lib.hid hR0
  have HR1 := Lib.hid hR1
  have HC := Lib.hid (And.intro (And.intro hS1 hS0) (And.intro hI1 hI0))
  clear hR0 hR1 hv hm hS hI hsi hwi hnm hS1 hS0 hI1 hI0 HWE HSE
  go_enter Tryd.func4, Tryd.ntmps4
  go_upto_region 1 with fail
  have HAL := Lib.hid (alive_any w (HV.out w (Below.refl _ _)))
  go_wp2_with fail
  refine HAL.out.mono ?_
  rintro e w2 ⟨rfl, hb2⟩
  have HB2 := Lib.hid hb2
  clear hb2 HAL
  have hb3 := below_one w2 (.cells #[.int .i64 7, .int .i64 a, .int .i64 n] 2)
  have HC2 := Lib.hid (HA0.out _ (HB2.out.trans (hb3.mono HB2.out.size)) _ (NsIn.new w2 [7, a, n] #[.int .i64 7, .int .i64 a, .int .i64 n] rfl 3 rfl (by decide)))
  rw [HNM.out] at HC2
  have HB3 := Lib.hid hb3
  clear hb3 HA0
  go_wp2_with fail
  refine HC2.out.mono ?_
  rintro e w3 ⟨VB1, rfl, hr3, hb3⟩
  replace hr3 : BR w3 _ VB1 b1 := hr3
  obtain ⟨o1, c1, rfl⟩ := own_slice hr3
  have hb4 := below_one w3 (callO ⟨p0, p1, p2, p3, p4, p5, p6, p7, p8⟩ (.slice o1 b1.length c1))
  have hb34 := HB3.out.trans ((hb3.trans (hb4.mono hb3.size)).mono HB3.out.size)
  have HB4 := Lib.hid (HB2.out.trans (hb34.mono HB2.out.size))
  have HN4 := Lib.hid (heap_alloc_new w3 (callO ⟨p0, p1, p2, p3, p4, p5, p6, p7, p8⟩ (.slice o1 b1.length c1)))
  have HQ4 := Lib.hid (RowIn.below (show BsIn w3 (fun _ => True) (.slice o1 b1.length c1) b1 from RowIn.of_own hr3 (by rw [byC_len, Nat.mul_one]) _ (fun _ _ => trivial)) hb4)
  clear hr3 hb3 hb4 hb34 HC2 HB3 HB2
  dsimp only
  go_upto_region 4 with fail
  generalize w3.alloc (callO ⟨p0, p1, p2, p3, p4, p5, p6, p7, p8⟩ (.slice o1 b1.length c1)) = w4 at *
  generalize w3.heap.size = q1 at *
  have hb5 := below_one w4 (.cells #[.int .i64 a, .int .i64 n] 2)
  have HC4 := Lib.hid (HA1.out _ (HB4.out.trans (hb5.mono HB4.out.size)) _ (NsIn.new w4 [a, n] #[.int .i64 a, .int .i64 n] rfl 2 rfl (by decide)))
  rw [HNM.out] at HC4
  have HB5 := Lib.hid hb5
  clear hb5 HA1
  go_wp2_with fail
  refine HC4.out.mono ?_
  rintro e w5 ⟨VB2, rfl, hr5, hb5⟩
  replace hr5 : BR w5 _ VB2 b2 := hr5
  obtain ⟨o2, c2, rfl⟩ := own_slice hr5
  have hb6 := below_one w5 (callO ⟨s0, s1, s2, s3, s4, s5, s6, s7, s8⟩ (.slice o2 b2.length c2))
  have hb56 := HB5.out.trans ((hb5.trans (hb6.mono hb5.size)).mono HB5.out.size)
  have HB6 := Lib.hid (HB4.out.trans (hb56.mono HB4.out.size))
  have HN6 := Lib.hid (And.intro ((hb56.block _ (heap_lt HN4.out)).trans HN4.out) (heap_alloc_new w5 (callO ⟨s0, s1, s2, s3, s4, s5, s6, s7, s8⟩ (.slice o2 b2.length c2))))
  have HQ6 := Lib.hid (And.intro (RowIn.below HQ4.out hb56) (RowIn.below (show BsIn w5 (fun _ => True) (.slice o2 b2.length c2) b2 from RowIn.of_own hr5 (by rw [byC_len, Nat.mul_one]) _ (fun _ _ => trivial)) hb6))
  clear hr5 hb5 hb6 hb56 HC4 HB5 HB4 HN4 HQ4
  dsimp only
  go_upto_region 5 with fail
  generalize w5.alloc (callO ⟨s0, s1, s2, s3, s4, s5, s6, s7, s8⟩ (.slice o2 b2.length c2)) = w6 at *
  generalize w5.heap.size = q2 at *
  have hl1 := heap_lt HN6.out.1
  have hl2 := heap_lt HN6.out.2
  have x9 : w6.cell? ⟨q1, 9, none⟩ = some (.slice o1 b1.length c1) := (cell_of_heap HN6.out.1).trans rfl
  have y9 : w6.cell? ⟨q2, 9, none⟩ = some (.slice o2 b2.length c2) := (cell_of_heap HN6.out.2).trans rfl
  have hrr := HR0.out
  have hss := HR1.out
  clear HR0 HR1
  obtain ⟨⟨hS1, hS0⟩, hI1, hI0⟩ := HC.out
  clear HC
  cases S with
  | false =>
    have hn := hS0 rfl
    rw [if_neg (by decide)] at hrr hss
    injection hrr with g1 g2
    injection g2 with g2 g3
    injection hss with k1 k2
    injection k2 with k2 k3
    subst g2 g3 k2 k3
    clear g1 k1 hS1 hS0 hI1 hI0
    by_cases hn0 : n < 0
    · go_wp2_with fail
      go_ret
      exact ⟨rfl, HB6.out⟩
    · have hn1 : 64 < n := by omega
      go_wp2_with fail
      go_ret
      exact ⟨rfl, HB6.out⟩
  | true =>
    obtain ⟨hn0, hn1⟩ := hS1 rfl
    have hm0 : ¬ n < 0 := by omega
    have hm1 : ¬ 64 < n := by omega
    rw [if_pos rfl] at hrr hss
    cases I with
    | false =>
      have hi := hI0 rfl
      rw [if_neg (by decide)] at hrr hss
      injection hrr with g1 g2
      injection g2 with g2 g3
      injection hss with k1 k2
      injection k2 with k2 k3
      subst g2 g3 k2 k3
      clear g1 k1 hS1 hS0 hI1 hI0
      by_cases ha0 : a < 0
      · go_wp2_with fail
        go_ret
        exact ⟨rfl, HB6.out⟩
      by_cases ha1 : (nm : Int) < a
      · go_wp2_with fail
        go_ret
        exact ⟨rfl, HB6.out⟩
      have hsub : IntKind.i64.wrap ((nm : Int) - a) = (nm : Int) - a := by rw [IntKind.wrap_i64]; omega
      have ha2 : (nm : Int) - a < n := by omega
      go_wp2_with fail
      go_ret
      exact ⟨rfl, HB6.out⟩
    | true =>
      obtain ⟨ha0, ha1, ha2⟩ := hI1 rfl
      rw [if_pos rfl] at hrr hss
      injection hrr with g1 g2
      injection g1 with h0 h1 h2 h3 h4 h5 h6 h7 h8
      injection g2 with g2 g3
      injection hss with k1 k2
      injection k1 with l0 l1 l2 l3 l4 l5 l6 l7 l8
      injection k2 with k2 k3
      subst h0 h1 h2 h3 h4 h5 h6 h7 h8 l0 l1 l2 l3 l4 l5 l6 l7 l8 g3 k3
      obtain ⟨an, rfl⟩ : ∃ an : Nat, a = (an : Int) := ⟨a.toNat, by omega⟩
      obtain ⟨nn, rfl⟩ : ∃ nn : Nat, n = (nn : Int) := ⟨n.toNat, by omega⟩
      rw [Int.toNat_natCast, Int.toNat_natCast] at g2 k2
      have hlb : b1.length = nn := by rw [← g2, List.length_take, List.length_drop, HNM.out]; omega
      have hlb2 : b2.length = nn := by rw [← k2, List.length_take, List.length_drop, HNM.out]; omega
      have hsub : IntKind.i64.wrap ((nm : Int) - (an : Int)) = (nm : Int) - (an : Int) := by rw [IntKind.wrap_i64]; omega
      have hq0 : ¬ (an : Int) < 0 := by omega
      have hq1 : ¬ (nm : Int) < (an : Int) := by omega
      have hq2 : ¬ (nm : Int) - (an : Int) < (nn : Int) := by omega
      have HPART := Lib.hid (fun (W : World) (hb : Below w.heap.size w W) => (BsIn.take (BsIn.drop (HIM.out W hb) an (by rw [HNM.out]; omega)) nn (by rw [List.length_drop, HNM.out]; omega)))
      rw [g2] at HPART
      obtain rfl : b1 = b2 := g2.symm.trans k2
      have HSB1 := Lib.hid (fun (W : World) (hb : Below w6.heap.size w6 W) => sameBytes_any _ _ _ _ b1 b1 W (RowIn.below HQ6.out.1 hb) (HPART.out W (HB6.out.trans (hb.mono HB6.out.size))))
      have HSB2 := Lib.hid (fun (W : World) (hb : Below w6.heap.size w6 W) => sameBytes_any _ _ _ _ b1 b1 W (RowIn.below HQ6.out.2 hb) (HPART.out W (HB6.out.trans (hb.mono HB6.out.size))))
      rw [decide_eq_true rfl] at HSB1 HSB2
      obtain ⟨hi, hhi⟩ : ∃ hi, an + nn = hi := ⟨_, rfl⟩
      have hw : IntKind.i64.wrap ((an : Int) + (nn : Int)) = (hi : Int) := by rw [IntKind.wrap_i64]; omega
      have hlo := run_blh om nm cm an hi (by omega) (by omega)
      rw [show hi - an = nn by omega] at hlo
      rw [hlb] at x9 y9 HSB1 HSB2
      clear g2 k2 hS1 hS0 hI1 hI0 hn0 hn1 ha0 ha1 ha2 hhi HPART HQ6 hlb2
      go_upto_region 11 with fail
      have x0 : w6.cell? ⟨q1, 0, none⟩ = some (.int .i64 5) := (cell_of_heap HN6.out.1).trans rfl
      have x1 : w6.cell? ⟨q1, 1, none⟩ = some (.int .i64 7) := (cell_of_heap HN6.out.1).trans rfl
      have y0 : w6.cell? ⟨q2, 0, none⟩ = some (.int .i64 11) := (cell_of_heap HN6.out.2).trans rfl
      have hSD : w6.drew.cell? ⟨q1, 0, none⟩ = some (.int .i64 5) ∧ w6.drew.cell? ⟨q1, 1, none⟩ = some (.int .i64 7) ∧ w6.drew.cell? ⟨q2, 0, none⟩ = some (.int .i64 11) ∧ w6.drew.cell? ⟨q1, 9, none⟩ = some (.slice o1 nn c1) ∧ w6.drew.cell? ⟨q2, 9, none⟩ = some (.slice o2 nn c2) ∧ Below w6.heap.size w6 w6.drew := ⟨x0, x1, y0, x9, y9, below_dN (Below.refl _ _) 1⟩
      refine wp_region_noPanic ?_
      refine wp_region_held_drew (S := (fun X => X.cell? ⟨q1, 0, none⟩ = some (.int .i64 5) ∧ X.cell? ⟨q1, 1, none⟩ = some (.int .i64 7) ∧ X.cell? ⟨q2, 0, none⟩ = some (.int .i64 11) ∧ X.cell? ⟨q1, 9, none⟩ = some (.slice o1 nn c1) ∧ X.cell? ⟨q2, 9, none⟩ = some (.slice o2 nn c2) ∧ Below w6.heap.size w6 X)) (by kernel_rfl) ?_ (fun hHeld => ?_)
      · ((try dsimp only); (with_reducible first | exact hSD | exact hS7 | exact hS8))
      refine wpAnyH_take (i := 0) (v := ?_) rfl (by kernel_rfl) (by kernel_rfl) (by kernel_rfl) (fun _ _ _ h => h) (Or.inl ⟨by rfl, ?_⟩) (by assumption) ?_
      rotate_left
      · ((intro w hSw); (try dsimp only at hSw); (try simp only [List.getElem_toArray, List.getElem_cons_zero]); (go_simp); (try with_reducible rfl))
      (try simp only [Act.put, List.setIfInBounds_toArray, List.set_cons_zero, List.set_cons_succ, List.getElem_toArray, List.getElem_cons_zero])
      refine wpAnyH_take (i := 1) (v := ?_) rfl (by kernel_rfl) (by kernel_rfl) (by kernel_rfl) (fun _ _ _ h => h) (Or.inl ⟨by rfl, ?_⟩) (by assumption) ?_
      rotate_left
      · ((intro w hSw); (try dsimp only at hSw); (try simp only [List.getElem_toArray, List.getElem_cons_succ, List.getElem_cons_zero]); (go_simp); (try with_reducible rfl))
      (try simp only [Act.put, List.setIfInBounds_toArray, List.set_cons_zero, List.set_cons_succ, List.getElem_toArray, List.getElem_cons_succ, List.getElem_cons_zero])
      refine wpAnyH_take (i := 2) (v := ?_) rfl (by kernel_rfl) (by kernel_rfl) (by kernel_rfl) (fun _ _ _ h => h) (Or.inl ⟨by rfl, ?_⟩) (by assumption) ?_
      rotate_left
      · ((intro w hSw); (try dsimp only at hSw); (try simp only [List.getElem_toArray, List.getElem_cons_succ, List.getElem_cons_zero]); (go_simp); (try with_reducible rfl))
      (try simp only [Act.put, List.setIfInBounds_toArray, List.set_cons_zero, List.set_cons_succ, List.getElem_toArray, List.getElem_cons_succ, List.getElem_cons_zero])
      refine wpAnyH_take (i := 3) (v := ?_) rfl (by kernel_rfl) (by kernel_rfl) (by kernel_rfl) (fun _ _ _ h => h) (Or.inl ⟨by rfl, ?_⟩) (by assumption) ?_
      rotate_left
      · ((intro w hSw); (try dsimp only at hSw); (try simp only [List.getElem_toArray, List.getElem_cons_succ, List.getElem_cons_zero]); (go_simp); (try with_reducible rfl))
      (try simp only [Act.put, List.setIfInBounds_toArray, List.set_cons_zero, List.set_cons_succ, List.getElem_toArray, List.getElem_cons_succ, List.getElem_cons_zero])
      refine wpAnyH_take (i := 4) (v := ?_) rfl (by kernel_rfl) (by kernel_rfl) (by kernel_rfl) (fun _ _ _ h => h) (Or.inl ⟨by rfl, ?_⟩) (by assumption) ?_
      rotate_left
      · ((intro w hSw); (try dsimp only at hSw); (try simp only [List.getElem_toArray, List.getElem_cons_succ, List.getElem_cons_zero]); (go_simp); (try with_reducible rfl))
      (try simp only [Act.put, List.setIfInBounds_toArray, List.set_cons_zero, List.set_cons_succ, List.getElem_toArray, List.getElem_cons_succ, List.getElem_cons_zero])
      refine wpAnyH_take (i := 5) (v := ?_) rfl (by kernel_rfl) (by kernel_rfl) (by kernel_rfl) (fun _ _ _ h => h) (Or.inl ⟨by rfl, ?_⟩) (by assumption) ?_
      rotate_left
      · ((intro w hSw); (try dsimp only at hSw); (try simp only [List.getElem_toArray, List.getElem_cons_succ, List.getElem_cons_zero]); (go_simp); (try with_reducible rfl))
      (try simp only [Act.put, List.setIfInBounds_toArray, List.set_cons_zero, List.set_cons_succ, List.getElem_toArray, List.getElem_cons_succ, List.getElem_cons_zero])
      refine wpAnyH_take (i := 6) (v := ?_) rfl (by kernel_rfl) (by kernel_rfl) (by kernel_rfl) (fun _ _ _ h => h) (Or.inl ⟨by rfl, ?_⟩) (by assumption) ?_
      rotate_left
      · ((intro w hSw); (try dsimp only at hSw); (try simp only [List.getElem_toArray, List.getElem_cons_succ, List.getElem_cons_zero]); (go_simp); (try with_reducible rfl))
      (try simp only [Act.put, List.setIfInBounds_toArray, List.set_cons_zero, List.set_cons_succ, List.getElem_toArray, List.getElem_cons_succ, List.getElem_cons_zero])
      refine wpAnyH_take (i := 7) (v := ?_) rfl (by kernel_rfl) (by kernel_rfl) (by kernel_rfl) (fun _ _ _ h => h) (Or.inl ⟨by rfl, ?_⟩) (by assumption) ?_
      rotate_left
      · ((intro w hSw); (try dsimp only at hSw); (try simp only [List.getElem_toArray, List.getElem_cons_succ, List.getElem_cons_zero]); (go_simp); (try with_reducible rfl))
      (try simp only [Act.put, List.setIfInBounds_toArray, List.set_cons_zero, List.set_cons_succ, List.getElem_toArray, List.getElem_cons_succ, List.getElem_cons_zero])
      refine wpAnyH_take (i := 8) (v := ?_) rfl (by kernel_rfl) (by kernel_rfl) (by kernel_rfl) (fun _ _ _ h => h) (Or.inl ⟨by rfl, ?_⟩) (by assumption) ?_
      rotate_left
      · ((intro w hSw); (try dsimp only at hSw); (try simp only [List.getElem_toArray, List.getElem_cons_succ, List.getElem_cons_zero]); (go_simp); (try with_reducible rfl))
      (try simp only [Act.put, List.setIfInBounds_toArray, List.set_cons_zero, List.set_cons_succ, List.getElem_toArray, List.getElem_cons_succ, List.getElem_cons_zero])
      refine wpAnyH_take (i := 9) (v := ?_) rfl (by kernel_rfl) (by kernel_rfl) (by kernel_rfl) (fun _ _ _ h => h) (Or.inl ⟨by rfl, ?_⟩) (by assumption) ?_
      rotate_left
      · ((intro w hSw); (try dsimp only at hSw); (try simp only [List.getElem_toArray, List.getElem_cons_succ, List.getElem_cons_zero]); (go_simp); (try with_reducible rfl))
      (try simp only [Act.put, List.setIfInBounds_toArray, List.set_cons_zero, List.set_cons_succ, List.getElem_toArray, List.getElem_cons_succ, List.getElem_cons_zero])
      refine wpAnyH_take (i := 10) (v := ?_) rfl (by kernel_rfl) (by kernel_rfl) (by kernel_rfl) (fun _ _ _ h => h) (Or.inl ⟨by rfl, ?_⟩) (by assumption) ?_
      rotate_left
      · ((intro w hSw); (try dsimp only at hSw); (try simp only [List.getElem_toArray, List.getElem_cons_succ, List.getElem_cons_zero]); (go_simp); (try with_reducible rfl))
      (try simp only [Act.put, List.setIfInBounds_toArray, List.set_cons_zero, List.set_cons_succ, List.getElem_toArray, List.getElem_cons_succ, List.getElem_cons_zero])
      refine wpAnyH_take (i := 11) (v := ?_) rfl (by kernel_rfl) (by kernel_rfl) (by kernel_rfl) (fun _ _ _ h => h) (Or.inl ⟨by rfl, ?_⟩) (by assumption) ?_
      rotate_left
      · ((intro w hSw); (try dsimp only at hSw); (try simp only [List.getElem_toArray, List.getElem_cons_succ, List.getElem_cons_zero]); (go_simp); (try with_reducible rfl))
      (try simp only [Act.put, List.setIfInBounds_toArray, List.set_cons_zero, List.set_cons_succ, List.getElem_toArray, List.getElem_cons_succ, List.getElem_cons_zero])
      refine wpAnyH_take (i := 12) (v := ?_) rfl (by kernel_rfl) (by kernel_rfl) (by kernel_rfl) (fun _ _ _ h => h) (Or.inl ⟨by rfl, ?_⟩) (by assumption) ?_
      rotate_left
      · ((intro w hSw); (try dsimp only at hSw); (try simp only [List.getElem_toArray, List.getElem_cons_succ, List.getElem_cons_zero]); (go_simp); (try with_reducible rfl))
      (try simp only [Act.put, List.setIfInBounds_toArray, List.set_cons_zero, List.set_cons_succ, List.getElem_toArray, List.getElem_cons_succ, List.getElem_cons_zero])
      refine wpAnyH_take (i := 13) (v := ?_) rfl (by kernel_rfl) (by kernel_rfl) (by kernel_rfl) (fun _ _ _ h => h) (Or.inl ⟨by rfl, ?_⟩) (by assumption) ?_
      rotate_left
      · ((intro w hSw); (try dsimp only at hSw); (try simp only [List.getElem_toArray, List.getElem_cons_succ, List.getElem_cons_zero]); (go_simp); (try with_reducible rfl))
      (try simp only [Act.put, List.setIfInBounds_toArray, List.set_cons_zero, List.set_cons_succ, List.getElem_toArray, List.getElem_cons_succ, List.getElem_cons_zero])
      refine wpAnyH_take (i := 14) (v := ?_) rfl (by kernel_rfl) (by kernel_rfl) (by kernel_rfl) (fun _ _ _ h => h) (Or.inl ⟨by rfl, ?_⟩) (by assumption) ?_
      rotate_left
      · ((intro w hSw); (try dsimp only at hSw); (try simp only [List.getElem_toArray, List.getElem_cons_succ, List.getElem_cons_zero]); (go_simp); (try with_reducible rfl))
      (try simp only [Act.put, List.setIfInBounds_toArray, List.set_cons_zero, List.set_cons_succ, List.getElem_toArray, List.getElem_cons_succ, List.getElem_cons_zero])
      refine wpAnyH_take (i := 15) (v := ?_) rfl (by kernel_rfl) (by kernel_rfl) (by kernel_rfl) (fun _ _ _ h => h) (Or.inl ⟨by rfl, ?_⟩) (by assumption) ?_
      rotate_left
      · ((intro w hSw); (try dsimp only at hSw); (try simp only [List.getElem_toArray, List.getElem_cons_succ, List.getElem_cons_zero]); (go_simp); (try with_reducible rfl))
      (try simp only [Act.put, List.setIfInBounds_toArray, List.set_cons_zero, List.set_cons_succ, List.getElem_toArray, List.getElem_cons_succ, List.getElem_cons_zero])
      refine wpAnyH_take (i := 16) (v := ?_) rfl (by kernel_rfl) (by kernel_rfl) (by kernel_rfl) (fun _ _ _ h => h) (Or.inl ⟨by rfl, ?_⟩) (by assumption) ?_
      rotate_left
      · ((intro w hSw); (try dsimp only at hSw); (try simp only [List.getElem_toArray, List.getElem_cons_succ, List.getElem_cons_zero]); (go_simp); (try with_reducible rfl))
      (try simp only [Act.put, List.setIfInBounds_toArray, List.set_cons_zero, List.set_cons_succ, List.getElem_toArray, List.getElem_cons_succ, List.getElem_cons_zero])
      refine wpAnyH_take (i := 17) (v := ?_) rfl (by kernel_rfl) (by kernel_rfl) (by kernel_rfl) (fun _ _ _ h => h) (Or.inl ⟨by rfl, ?_⟩) (by assumption) ?_
      rotate_left
      · ((intro w hSw); (try dsimp only at hSw); (try simp only [List.getElem_toArray, List.getElem_cons_succ, List.getElem_cons_zero]); (go_simp); (try with_reducible rfl))
      (try simp only [Act.put, List.setIfInBounds_toArray, List.set_cons_zero, List.set_cons_succ, List.getElem_toArray, List.getElem_cons_succ, List.getElem_cons_zero])
      refine wpAnyH_take (i := 18) (v := ?_) rfl (by kernel_rfl) (by kernel_rfl) (by kernel_rfl) (fun _ _ _ h => h) (Or.inl ⟨by rfl, ?_⟩) (by assumption) ?_
      rotate_left
      · ((intro w hSw); (try dsimp only at hSw); (try simp only [List.getElem_toArray, List.getElem_cons_succ, List.getElem_cons_zero]); (go_simp); (try with_reducible rfl))
      (try simp only [Act.put, List.setIfInBounds_toArray, List.set_cons_zero, List.set_cons_succ, List.getElem_toArray, List.getElem_cons_succ, List.getElem_cons_zero])
      refine wpAnyH_take (i := 19) (v := ?_) rfl (by kernel_rfl) (by kernel_rfl) (by kernel_rfl) (fun _ _ _ h => h) (Or.inl ⟨by rfl, ?_⟩) (by assumption) ?_
      rotate_left
      · ((intro w hSw); (try dsimp only at hSw); (try simp only [List.getElem_toArray, List.getElem_cons_succ, List.getElem_cons_zero]); (go_simp); (try with_reducible rfl))
      (try simp only [Act.put, List.setIfInBounds_toArray, List.set_cons_zero, List.set_cons_succ, List.getElem_toArray, List.getElem_cons_succ, List.getElem_cons_zero])
      refine wpAnyH_take (i := 20) (v := ?_) rfl (by kernel_rfl) (by kernel_rfl) (by kernel_rfl) (fun _ _ _ h => h) (Or.inl ⟨by rfl, ?_⟩) (by assumption) ?_
      rotate_left
      · ((intro w hSw); (try dsimp only at hSw); (try simp only [List.getElem_toArray, List.getElem_cons_succ, List.getElem_cons_zero]); (go_simp); (try with_reducible rfl))
      (try simp only [Act.put, List.setIfInBounds_toArray, List.set_cons_zero, List.set_cons_succ, List.getElem_toArray, List.getElem_cons_succ, List.getElem_cons_zero])
      refine wpAnyH_take (i := 21) (v := ?_) rfl (by kernel_rfl) (by kernel_rfl) (by kernel_rfl) (fun _ _ _ h => h) (Or.inl ⟨by rfl, ?_⟩) (by assumption) ?_
      rotate_left
      · ((intro w hSw); (try dsimp only at hSw); (try simp only [List.getElem_toArray, List.getElem_cons_succ, List.getElem_cons_zero]); (go_simp); (try with_reducible rfl))
      (try simp only [Act.put, List.setIfInBounds_toArray, List.set_cons_zero, List.set_cons_succ, List.getElem_toArray, List.getElem_cons_succ, List.getElem_cons_zero])
      refine wpAnyH_take (i := 22) (v := ?_) rfl (by kernel_rfl) (by kernel_rfl) (by kernel_rfl) (fun _ _ _ h => h) (Or.inl ⟨by rfl, ?_⟩) (by assumption) ?_
      rotate_left
      · ((intro w hSw); (try dsimp only at hSw); (try simp only [List.getElem_toArray, List.getElem_cons_succ, List.getElem_cons_zero]); (go_simp); (try with_reducible rfl))
      (try simp only [Act.put, List.setIfInBounds_toArray, List.set_cons_zero, List.set_cons_succ, List.getElem_toArray, List.getElem_cons_succ, List.getElem_cons_zero])
      refine wpAnyH_take (i := 23) (v := ?_) rfl (by kernel_rfl) (by kernel_rfl) (by kernel_rfl) (fun _ _ _ h => h) (Or.inl ⟨by rfl, ?_⟩) (by assumption) ?_
      rotate_left
      · ((intro w hSw); (try dsimp only at hSw); (try simp only [List.getElem_toArray, List.getElem_cons_succ, List.getElem_cons_zero]); (go_simp); (try with_reducible rfl))
      (try simp only [Act.put, List.setIfInBounds_toArray, List.set_cons_zero, List.set_cons_succ, List.getElem_toArray, List.getElem_cons_succ, List.getElem_cons_zero])
      refine wpAnyH_take (i := 24) (v := ?_) rfl (by kernel_rfl) (by kernel_rfl) (by kernel_rfl) (fun _ _ _ h => h) (Or.inl ⟨by rfl, ?_⟩) (by assumption) ?_
      rotate_left
      · ((intro w hSw); (try dsimp only at hSw); (try simp only [List.getElem_toArray, List.getElem_cons_succ, List.getElem_cons_zero]); (go_simp); (try with_reducible rfl))
      (try simp only [Act.put, List.setIfInBounds_toArray, List.set_cons_zero, List.set_cons_succ, List.getElem_toArray, List.getElem_cons_succ, List.getElem_cons_zero])
      refine wpAnyH_take (i := 25) (v := ?_) rfl (by kernel_rfl) (by kernel_rfl) (by kernel_rfl) (fun _ _ _ h => h) (Or.inl ⟨by rfl, ?_⟩) (by assumption) ?_
      rotate_left
      · ((intro w hSw); (try dsimp only at hSw); (try simp only [List.getElem_toArray, List.getElem_cons_succ, List.getElem_cons_zero]); (go_simp); (try with_reducible rfl))
      (try simp only [Act.put, List.setIfInBounds_toArray, List.set_cons_zero, List.set_cons_succ, List.getElem_toArray, List.getElem_cons_succ, List.getElem_cons_zero])
      refine wpAnyH_ready (rs := [26]) (by kernel_rfl) (by simp) ?_
      refine AllReadyH.cons rfl (fun K hK => ?_) AllReadyH.nil
      (try simp only [List.getElem_toArray, List.getElem_cons_succ, List.getElem_cons_zero])
      go_simp
      ((go_at_call 10); (with_reducible refine (HSB1.out _ ?hbl).mono ?_); (case hbl => exact hSD.2.2.2.2.2); rintro e w7 ⟨rfl, hb⟩; have hS7 : w7.cell? ⟨q1, 0, none⟩ = some (.int .i64 5) ∧ w7.cell? ⟨q1, 1, none⟩ = some (.int .i64 7) ∧ w7.cell? ⟨q2, 0, none⟩ = some (.int .i64 11) ∧ w7.cell? ⟨q1, 9, none⟩ = some (.slice o1 nn c1) ∧ w7.cell? ⟨q2, 9, none⟩ = some (.slice o2 nn c2) ∧ Below w6.heap.size w6 w7 := bs_keep hSD hb; clear hb)
      (try go_wp2_with fail)
      refine hK.out _ _ ?_ (fun hHeld => ?_)
      · ((try dsimp only); (with_reducible first | exact hSD | exact hS7 | exact hS8))
      clear hK K
      (try simp only [Act.put, List.setIfInBounds_toArray, List.set_cons_zero, List.set_cons_succ, List.getElem_toArray, List.getElem_cons_succ, List.getElem_cons_zero])
      refine wpAnyH_take (i := 27) (v := ?_) rfl (by kernel_rfl) (by kernel_rfl) (by kernel_rfl) (fun _ _ _ h => h) (Or.inl ⟨by rfl, ?_⟩) (by assumption) ?_
      rotate_left
      · ((intro w hSw); (try dsimp only at hSw); (try simp only [List.getElem_toArray, List.getElem_cons_succ, List.getElem_cons_zero]); (go_simp); (try with_reducible rfl))
      (try simp only [Act.put, List.setIfInBounds_toArray, List.set_cons_zero, List.set_cons_succ, List.getElem_toArray, List.getElem_cons_succ, List.getElem_cons_zero])
      refine wpAnyH_take (i := 28) (v := ?_) rfl (by kernel_rfl) (by kernel_rfl) (by kernel_rfl) (fun _ _ _ h => h) (Or.inl ⟨by rfl, ?_⟩) (by assumption) ?_
      rotate_left
      · ((intro w hSw); (try dsimp only at hSw); (try simp only [List.getElem_toArray, List.getElem_cons_succ, List.getElem_cons_zero]); (go_simp); (try with_reducible rfl))
      (try simp only [Act.put, List.setIfInBounds_toArray, List.set_cons_zero, List.set_cons_succ, List.getElem_toArray, List.getElem_cons_succ, List.getElem_cons_zero])
      refine wpAnyH_take (i := 29) (v := ?_) rfl (by kernel_rfl) (by kernel_rfl) (by kernel_rfl) (fun _ _ _ h => h) (Or.inl ⟨by rfl, ?_⟩) (by assumption) ?_
      rotate_left
      · ((intro w hSw); (try dsimp only at hSw); (try simp only [List.getElem_toArray, List.getElem_cons_succ, List.getElem_cons_zero]); (go_simp); (try with_reducible rfl))
      (try simp only [Act.put, List.setIfInBounds_toArray, List.set_cons_zero, List.set_cons_succ, List.getElem_toArray, List.getElem_cons_succ, List.getElem_cons_zero])
      refine wpAnyH_take (i := 30) (v := ?_) rfl (by kernel_rfl) (by kernel_rfl) (by kernel_rfl) (fun _ _ _ h => h) (Or.inl ⟨by rfl, ?_⟩) (by assumption) ?_
      rotate_left
      · ((intro w hSw); (try dsimp only at hSw); (try simp only [List.getElem_toArray, List.getElem_cons_succ, List.getElem_cons_zero]); (go_simp); (try with_reducible rfl))
      (try simp only [Act.put, List.setIfInBounds_toArray, List.set_cons_zero, List.set_cons_succ, List.getElem_toArray, List.getElem_cons_succ, List.getElem_cons_zero])
      refine wpAnyH_take (i := 31) (v := ?_) rfl (by kernel_rfl) (by kernel_rfl) (by kernel_rfl) (fun _ _ _ h => h) (Or.inl ⟨by rfl, ?_⟩) (by assumption) ?_
      rotate_left
      · ((intro w hSw); (try dsimp only at hSw); (try simp only [List.getElem_toArray, List.getElem_cons_succ, List.getElem_cons_zero]); (go_simp); (try with_reducible rfl))
      (try simp only [Act.put, List.setIfInBounds_toArray, List.set_cons_zero, List.set_cons_succ, List.getElem_toArray, List.getElem_cons_succ, List.getElem_cons_zero])
      refine wpAnyH_take (i := 32) (v := ?_) rfl (by kernel_rfl) (by kernel_rfl) (by kernel_rfl) (fun _ _ _ h => h) (Or.inl ⟨by rfl, ?_⟩) (by assumption) ?_
      rotate_left
      · ((intro w hSw); (try dsimp only at hSw); (try simp only [List.getElem_toArray, List.getElem_cons_succ, List.getElem_cons_zero]); (go_simp); (try with_reducible rfl))
      (try simp only [Act.put, List.setIfInBounds_toArray, List.set_cons_zero, List.set_cons_succ, List.getElem_toArray, List.getElem_cons_succ, List.getElem_cons_zero])
      refine wpAnyH_take (i := 33) (v := ?_) rfl (by kernel_rfl) (by kernel_rfl) (by kernel_rfl) (fun _ _ _ h => h) (Or.inl ⟨by rfl, ?_⟩) (by assumption) ?_
      rotate_left
      · ((intro w hSw); (try dsimp only at hSw); (try simp only [List.getElem_toArray, List.getElem_cons_succ, List.getElem_cons_zero]); (go_simp); (try with_reducible rfl))
      (try simp only [Act.put, List.setIfInBounds_toArray, List.set_cons_zero, List.set_cons_succ, List.getElem_toArray, List.getElem_cons_succ, List.getElem_cons_zero])
      refine wpAnyH_take (i := 34) (v := ?_) rfl (by kernel_rfl) (by kernel_rfl) (by kernel_rfl) (fun _ _ _ h => h) (Or.inl ⟨by rfl, ?_⟩) (by assumption) ?_
      rotate_left
      · ((intro w hSw); (try dsimp only at hSw); (try simp only [List.getElem_toArray, List.getElem_cons_succ, List.getElem_cons_zero]); (go_simp); (try with_reducible rfl))
      (try simp only [Act.put, List.setIfInBounds_toArray, List.set_cons_zero, List.set_cons_succ, List.getElem_toArray, List.getElem_cons_succ, List.getElem_cons_zero])
      refine wpAnyH_take (i := 35) (v := ?_) rfl (by kernel_rfl) (by kernel_rfl) (by kernel_rfl) (fun _ _ _ h => h) (Or.inl ⟨by rfl, ?_⟩) (by assumption) ?_
      rotate_left
      · ((intro w hSw); (try dsimp only at hSw); (try simp only [List.getElem_toArray, List.getElem_cons_succ, List.getElem_cons_zero]); (go_simp); (try with_reducible rfl))
      (try simp only [Act.put, List.setIfInBounds_toArray, List.set_cons_zero, List.set_cons_succ, List.getElem_toArray, List.getElem_cons_succ, List.getElem_cons_zero])
      refine wpAnyH_take (i := 36) (v := ?_) rfl (by kernel_rfl) (by kernel_rfl) (by kernel_rfl) (fun _ _ _ h => h) (Or.inl ⟨by rfl, ?_⟩) (by assumption) ?_
      rotate_left
      · ((intro w hSw); (try dsimp only at hSw); (try simp only [List.getElem_toArray, List.getElem_cons_succ, List.getElem_cons_zero]); (go_simp); (try with_reducible rfl))
      (try simp only [Act.put, List.setIfInBounds_toArray, List.set_cons_zero, List.set_cons_succ, List.getElem_toArray, List.getElem_cons_succ, List.getElem_cons_zero])
      refine wpAnyH_ready (rs := [37]) (by kernel_rfl) (by simp) ?_
      refine AllReadyH.cons rfl (fun K hK => ?_) AllReadyH.nil
      (try simp only [List.getElem_toArray, List.getElem_cons_succ, List.getElem_cons_zero])
      go_simp
      ((go_at_call 10); (with_reducible refine (HSB2.out _ ?hbl).mono ?_); (case hbl => exact hS7.2.2.2.2.2); rintro e w8 ⟨rfl, hb⟩; have hS8 : w8.cell? ⟨q1, 0, none⟩ = some (.int .i64 5) ∧ w8.cell? ⟨q1, 1, none⟩ = some (.int .i64 7) ∧ w8.cell? ⟨q2, 0, none⟩ = some (.int .i64 11) ∧ w8.cell? ⟨q1, 9, none⟩ = some (.slice o1 nn c1) ∧ w8.cell? ⟨q2, 9, none⟩ = some (.slice o2 nn c2) ∧ Below w6.heap.size w6 w8 := bs_keep hS7 hb; clear hb)
      (try go_wp2_with fail)
      refine hK.out _ _ ?_ (fun hHeld => ?_)
      · ((try dsimp only); (with_reducible first | exact hSD | exact hS7 | exact hS8))
      clear hK K
      (try simp only [Act.put, List.setIfInBounds_toArray, List.set_cons_zero, List.set_cons_succ, List.getElem_toArray, List.getElem_cons_succ, List.getElem_cons_zero])
      refine wpAnyH_take (i := 38) (v := ?_) rfl (by kernel_rfl) (by kernel_rfl) (by kernel_rfl) (fun _ _ _ h => h) (Or.inl ⟨by rfl, ?_⟩) (by assumption) ?_
      rotate_left
      · ((intro w hSw); (try dsimp only at hSw); (try simp only [List.getElem_toArray, List.getElem_cons_succ, List.getElem_cons_zero]); (go_simp); (try with_reducible rfl))
      (try simp only [Act.put, List.setIfInBounds_toArray, List.set_cons_zero, List.set_cons_succ, List.getElem_toArray, List.getElem_cons_succ, List.getElem_cons_zero])
      refine wpAnyH_take (i := 39) (v := ?_) rfl (by kernel_rfl) (by kernel_rfl) (by kernel_rfl) (fun _ _ _ h => h) (Or.inl ⟨by rfl, ?_⟩) (by assumption) ?_
      rotate_left
      · ((intro w hSw); (try dsimp only at hSw); (try simp only [List.getElem_toArray, List.getElem_cons_succ, List.getElem_cons_zero]); (go_simp); (try with_reducible rfl))
      (try simp only [Act.put, List.setIfInBounds_toArray, List.set_cons_zero, List.set_cons_succ, List.getElem_toArray, List.getElem_cons_succ, List.getElem_cons_zero])
      refine wpAnyH_done (by kernel_rfl) ?_ _
      refine NoPanic.normal ?_
      go_wp2_with fail
      go_ret
      exact ⟨rfl, HB6.out.trans (hS8.2.2.2.2.2.mono HB6.out.size)⟩
end Go.Proofs.YtbmcmcdgdhabaaaDoor
