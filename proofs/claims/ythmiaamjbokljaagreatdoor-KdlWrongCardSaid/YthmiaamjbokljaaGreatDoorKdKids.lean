/- kids: what stands in a node's { and } . -/
import Derived.Test.YthmiaamjbokljaaGreatDoorKdNodeP
namespace Go.Proofs.YthmiaamjbokljaaGreatDoor
open Go.RowKit
set_option maxRecDepth 100000 in
set_option maxHeartbeats 3200000 in
theorem kids_ct (f : Nat) (hL : ListC f) : KidsCt (f + 1) := by
  intro p q e d nm VA VP s o cap w h hq hpq hlim hbeg hf hd
  have hql := heap_lt hq
  have hb0 := below_one w (.cells #[.int .i64 0, .int .i64 0] 30)
  have H0 : Hid (KA w (w.alloc (.cells #[.int .i64 0, .int .i64 0] 30)) p q e nm VA VP (.slice none 0 0) s o cap) := Lib.hid ⟨h.below hb0, (hb0.block _ hql).trans hq, heap_alloc_new _ _, Fr.of_below hb0 _⟩
  obtain ⟨R, hR⟩ : ∃ R, kd.kids e (f + 1) d s = R := ⟨_, rfl⟩
  rw [hR]
  unfold kd.kids at hR
  dsimp only at hR
  obtain ⟨t, ht⟩ : ∃ t, kd.peek e s = t := ⟨_, rfl⟩
  have HP := Lib.hid (peek_any p e s o cap _ H0.out.pr)
  rw [ht] at HP hR
  have HR := Lib.hid hR
  have HT := Lib.hid ht
  have HLIM := Lib.hid hlim
  have HLC := Lib.hid hL
  clear hb0 hR ht h hq hlim hL
  generalize hw0 : w.alloc (.cells #[.int .i64 0, .int .i64 0] 30) = w0 at *
  go_enter Tryz.func71, Tryz.ntmps71
  go_wp2_with fail
  clear hw0
  refine HP.out.mono ?_
  rintro ev w1 ⟨rfl, hb1⟩
  have HA1 := Lib.hid (H0.out.below hb1)
  clear hb1 HP H0
  have hb2 := below_one w1 (tokO t)
  have HA2 := Lib.hid (HA1.out.below hb2)
  have HT2 := Lib.hid (heap_alloc_new w1 (tokO t))
  have hm2 : w.heap.size ≤ w1.heap.size := HA1.out.fr.size
  clear hb2 HA1
  go_upto_region 2 with fail
  generalize w1.alloc (tokO t) = w2 at *
  generalize w1.heap.size = g7 at *
  obtain ⟨k0, k1, k2, k3⟩ := tokCells HT2.out
  go_wp2_with fail
  refine (kd.isSign_any t 123 w2).mono ?_
  rintro ev w3 ⟨rfl, hb3⟩
  have HA3 := Lib.hid (HA2.out.below hb3)
  have HT3 : Hid (w3.heap[g7]? = some (tokO t)) := Lib.hid ((hb3.block _ (heap_lt HT2.out)).trans HT2.out)
  clear hb3 HA2 HT2 k0 k1 k2 k3
  cases hs : kd.isSign t 123
  case false =>
    have hR := HR.out
    rw [if_pos hs] at hR
    have HE := Lib.hid hR
    have HD := Lib.hid (HA3.out.done hpq hql 0 0)
    obtain ⟨d0, d1, e0, e1, hfu⟩ := fault_cells HA3.out.fl
    clear hR HR hs
    go_wp2_with fail
    refine bodyPost_ret (results_cell_row rfl _ _ w.heap.size 30 _ (0, 0) _ rfl HD.out.1 Tryz.underlying30 rfl (by kernel_rfl)) rfl ?_
    rw [← HE.out]
    exact ⟨rfl, HD.out.2.1, ⟨_, _, HD.out.2.2.1⟩, _, HD.out.2.2.2, [], RowIn.nil _ _ _, by unfold NodesC; rfl⟩
  case true =>
    have hR := HR.out
    rw [if_neg (by rw [hs]; decide)] at hR
    obtain ⟨r, hr⟩ : ∃ r, s.toks = t :: r := by
      obtain ⟨l, b⟩ := s
      have h2 := HT.out
      cases l with
      | nil => rw [← h2] at hs; cases hs
      | cons a r => exact ⟨r, by rw [← h2]; rfl⟩
    have htk : kd.take s = ⟨r, s.begun⟩ := by unfold kd.take; rw [hr]; rfl
    rw [htk] at hR
    clear HR
    have HR := Lib.hid hR
    clear hR hs
    by_cases h12 : 12 ≤ d
    · have h12i : decide ((12 : Int) ≤ (d : Int)) = true := decide_eq_true (by omega)
      have hR := HR.out
      rw [if_pos h12] at hR
      have HE := Lib.hid hR
      obtain ⟨k0, k1, k2, k3⟩ := tokCells HT3.out
      clear hR HR htk hr
      go_wp2_with fail
      refine (kd.fault_any 4 t w3).mono ?_
      rintro ev w4 ⟨rfl, hb4⟩
      have HA4 := Lib.hid (HA3.out.below hb4)
      clear hb4 HA3 k0 k1 k2 k3
      have HD := Lib.hid (HA4.out.done hpq hql 4 t.at_)
      obtain ⟨d0, d1, e0, e1, hfu⟩ := fault_cells HA4.out.fl
      go_wp2_with fail
      refine bodyPost_ret (results_cell_row rfl _ _ w.heap.size 30 _ (0, 0) _ rfl HD.out.1 Tryz.underlying30 rfl (by kernel_rfl)) rfl ?_
      rw [← HE.out]
      exact ⟨rfl, HD.out.2.1, by decide⟩
    · have h12i : decide ((12 : Int) ≤ (d : Int)) = false := decide_eq_false (by omega)
      have hR := HR.out
      rw [if_neg h12] at hR
      clear HR
      have HK := Lib.hid (take_any p e s o cap w3 HA3.out.pr)
      rw [HT.out, htk] at HK
      have HLM : Hid (Lim ⟨r, s.begun⟩ 0 ∧ 3 * r.length + 3 ≤ f) := Lib.hid ⟨HLIM.out.suf (by rw [hr]; exact List.suffix_cons _ _), by rw [hr, List.length_cons] at hf; omega⟩
      obtain ⟨L, hLl⟩ : ∃ L, kd.list e f (d + 1) ⟨r, s.begun⟩ [] = L := ⟨_, rfl⟩
      rw [hLl] at hR
      have HR := Lib.hid hR
      have HLL := Lib.hid hLl
      clear hR hLl htk hr HT hf
      go_wp2_with fail
      refine HK.out.mono ?_
      rintro ev w4 ⟨rfl, ⟨o1, cap1, hpr⟩, hfr⟩
      have HA4 := Lib.hid (HA3.out.taken hpq hql hpr hfr)
      clear hpr hfr HK HA3 HT3
      have HC := Lib.hid (HLC.out p e (d + 1) _ o1 cap1 w4 HA4.out.pr HLM.out.1 hbeg HLM.out.2 (by omega))
      rw [HLL.out] at HC
      rw [show (((d + 1 : Nat)) : Int) = (d : Int) + 1 by omega] at HC
      go_wp2_with fail
      refine HC.out.mono ?_
      intro ev w5 hev
      have HA4' := HA4.out
      cases hLc : L with
      | bad c x y =>
        rw [hLc] at hev
        obtain ⟨rfl, hfr, hc⟩ := hev
        have hci : ((c : Int) == 0) = false := by simp; omega
        obtain ⟨hfl5, hfr5⟩ := HA4.out.failed hpq hql hfr
        have hb6 := below_one w5 (.cells #[.int .i64 c, .int .i64 x] 30)
        have hfl6 := (hb6.block _ (heap_lt hfl5)).trans hfl5
        have hT6 := heap_alloc_new w5 (.cells #[.int .i64 c, .int .i64 x] 30)
        have HD := Lib.hid (fault_done hfl6 (hfr5.below hb6) c x)
        have HE : Hid (R = .bad c x y) := Lib.hid (by have := HR.out; rw [hLc] at this; exact this.symm)
        have HC := Lib.hid hc
        clear HA4' HA4 HR HLL HLM hc hLc
        have hw5 : w.heap.size ≠ w5.heap.size := by have := heap_lt hfl5; omega
        go_upto_region 8 with fail
        generalize w5.alloc (.cells #[.int .i64 c, .int .i64 x] 30) = w6 at *
        generalize w5.heap.size = g9 at *
        obtain ⟨d0, d1, e0, e1, hfu⟩ := fault_cells hfl6
        obtain ⟨q0, q1, _, _, hqu⟩ := fault_cells hT6
        clear hfl6 hT6 hfl5 hfr5 hb6
        go_wp2_with fail
        refine bodyPost_ret (results_cell_row rfl _ _ w.heap.size 30 _ (0, 0) _ rfl HD.out.1 Tryz.underlying30 rfl (by kernel_rfl)) rfl ?_
        rw [HE.out]
        exact ⟨rfl, HD.out.2, HC.out⟩
      | ok N s1 =>
        rw [hLc] at hev
        obtain ⟨V, rfl, hfr, ⟨o2, cap2, hpr⟩, hN⟩ := hev
        have HE : Hid (R = .ok N (kd.take s1)) := Lib.hid (by have := HR.out; rw [hLc] at this; exact this.symm)
        have HA5 := Lib.hid (HA4.out.taken hpq hql hpr hfr)
        have hsz : w.heap.size < w4.heap.size := heap_lt HA4.out.fl
        have hb6 := below_one w5 (.cells #[.int .i64 0, .int .i64 0] 30)
        have HA6 := Lib.hid (HA5.out.below hb6)
        have hT6 := heap_alloc_new w5 (.cells #[.int .i64 0, .int .i64 0] 30)
        have HN6 := Lib.hid (hN.below hb6)
        obtain ⟨oV, cV, rfl⟩ := hN.slice
        clear HA4' HA4 HR HLL HLM hLc hN hpr hfr
        go_upto_region 8 with fail
        generalize w5.alloc (.cells #[.int .i64 0, .int .i64 0] 30) = w6 at *
        generalize w5.heap.size = g9 at *
        obtain ⟨q0, q1, _, _, hqu⟩ := fault_cells hT6
        have HK := Lib.hid (take_any p e s1 o2 cap2 w6 HA6.out.pr)
        clear hT6 hb6 HA5
        go_wp2_with fail
        refine HK.out.mono ?_
        rintro ev w7 ⟨rfl, ⟨o3, cap3, hpr⟩, hfr⟩
        have HA7 := Lib.hid (HA6.out.taken hpq hql hpr hfr)
        have HN7 := Lib.hid (HN6.out.fr hfr (fun k hk _ e => by have : w4.heap.size ≤ k := hk; omega))
        clear hpr hfr HK HA6 HN6 q0 q1
        have HA8 := Lib.hid (HA7.out.kids hpq hql (.slice oV N.length cV))
        have HN8 := Lib.hid (HN7.out.set ⟨q, 3, none⟩ (.slice oV N.length cV) (show ¬ (w4.heap.size ≤ q) by omega))
        have hnd := HA7.out.nd
        have n3 : w7.cell? ⟨q, 3, none⟩ = some (.slice none 0 0) := (cell_of_heap hnd).trans rfl
        have m3 : w7.frozen? ⟨q, 3, none⟩ = false := by simp [World.frozen?, hnd]
        have hq7 := heap_lt hnd
        clear hnd
        go_upto_region 12 with fail
        generalize w7.setCell ⟨q, 3, none⟩ (.slice oV N.length cV) = w8 at *
        obtain ⟨d0, d1, e0, e1, hfu⟩ := fault_cells HA8.out.fl
        have HD := Lib.hid (HA8.out.done hpq hql 0 0)
        have HN9 := Lib.hid ((HN8.out.set ⟨w.heap.size, 0, none⟩ (.int .i64 0) (show ¬ (w4.heap.size ≤ w.heap.size) by omega)).set ⟨w.heap.size, 1, none⟩ (.int .i64 0) (show ¬ (w4.heap.size ≤ w.heap.size) by omega))
        clear HA7 HN7 n3 m3
        go_wp2_with fail
        refine bodyPost_ret (results_cell_row rfl _ _ w.heap.size 30 _ (0, 0) _ rfl HD.out.1 Tryz.underlying30 rfl (by kernel_rfl)) rfl ?_
        rw [HE.out]
        exact ⟨rfl, HD.out.2.1, ⟨_, _, HD.out.2.2.1⟩, _, HD.out.2.2.2, HN9.out.wider (fun k hk => by have : w4.heap.size ≤ k := hk; show w.heap.size ≤ k; omega)⟩
end Go.Proofs.YthmiaamjbokljaaGreatDoor
