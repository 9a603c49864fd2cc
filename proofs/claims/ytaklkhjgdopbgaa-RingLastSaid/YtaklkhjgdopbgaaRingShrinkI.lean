/- Shrink of a ring of int. -/
import Derived.Test.YtaklkhjgdopbgaaRingListI
namespace Go.Proofs.Ytaklkhjgdopbgaa
namespace rI
open Go.RowKit

/-- a Push whose answer is not looked at -/
theorem push_on (b : Nat) (pv : Value) (M : List Value) (most g0 : Nat) (z : Int) (w : World) (h : Is w b pv (rg.lastOf M most) most (g0 + (M.length - most))) (hg : g0 + M.length < 4611686018427387904) (j : Nat) :
    Calls Try.prog 11 #[.pointer (some ⟨b, 0, none⟩), .int .i64 z] (w.drewN j) fun e w' => ∃ v ok, e = .returned (.tuple #[v, ok]) ∧ RingTo 63 3 Fm (.int .i64 0) w w' b pv (rg.lastOf (M ++ [.int .i64 z]) most) most (g0 + ((M ++ [(.int .i64 z : Value)]).length - most)) := by
  have h' : Is (w.drewN j) b pv (rg.lastOf M most) most (g0 + (M.length - most)) := by
    obtain ⟨ps, first, hr, hL⟩ := h
    exact ⟨ps, first, hr.drewN j, hL⟩
  by_cases hlt : M.length < most
  · exact (push_more b pv M most g0 z _ h' hlt).mono fun e w' ⟨he, pv', hi, hk, hm⟩ => ⟨_, _, he, pv', hi, hk.of_drewN, hm⟩
  · exact (push_over b pv M most g0 z _ h' (by omega) hg).mono fun e w' ⟨he, pv', hi, hk, hm⟩ => ⟨_, _, he, pv', hi, hk.of_drewN, hm⟩

theorem is_set4 {w : World} {b : Nat} {pv : Value} {L : List Value} {most gone : Nat} (h : Is w b pv L most gone) (u : Nat) : Is (w.setCell ⟨b, 4, none⟩ (.int .i64 (u : Int))) b pv L most u := by
  obtain ⟨ps, first, hr, hL⟩ := h
  exact ⟨ps, first, ⟨ring_set4 hr.blk u, ownsRow_setCell_below hr.own (Nat.lt_succ_self b) _, hr.el, hr.fit⟩, hL⟩

set_option maxHeartbeats 1600000 in
theorem shrink_any (b : Nat) (pv : Value) (L : List Value) (most gone : Nat) (m : Int) (w : World) (h : Is w b pv L most gone) (hg : gone < 2305843009213693952) :
    Calls Try.prog 15 #[.pointer (some ⟨b, 0, none⟩), .int .i64 m] w fun e w' => e = .returned (.tuple #[]) ∧ RingTo 63 3 Fm (.int .i64 0) w w' b pv (rg.lastOf L (top m)) (top m) (gone + (L.length - top m)) := by
  have hle := h.le
  have h' := h
  obtain ⟨ps, first, hr, hL⟩ := h'
  obtain ⟨hblk, hown, hel, hfit⟩ := hr
  have hm := hfit.m_le
  have hl := hfit.l_le
  have hnl := hfit.n_le
  have hf : first ≤ 1000 := by have := hfit.fm; omega
  have hb := h.lt
  have HI := Lib.hid h; have HB := Lib.hid hblk; have HO := Lib.hid hown; have HE := Lib.hid hel; have HF := Lib.hid hfit; have HL := Lib.hid hL
  clear h hblk hown hel hfit hL
  generalize hBd : w.heap.size = B at *
  have HBB := Lib.hid hBd; clear hBd
  generalize hn : L.length = n at *
  have HN := Lib.hid hn; clear hn
  generalize hT : top m = T at *
  have HT := Lib.hid hT; clear hT
  go_enter Try.func15, Try.ntmps15
  go_wp2_with fail
  refine (new_any _ _).mono ?_
  rintro e w1 ⟨rfl, his1, hb1⟩
  rw [HT.out, HBB.out] at his1
  rw [HBB.out] at hb1
  rw [HBB.out]
  have hblk1 := (hb1.block b hb).trans HB.out
  obtain ⟨c0, c1, c2, c3, c4, f0, f1, f2, f3, f4, hbw⟩ := ringCells hblk1
  have hlt1 := his1.lt
  have hbB : ¬ B = b := by omega
  have his2 := is_set4 his1 gone
  have hb2 := hb1.setCell (p := ⟨B, 4, none⟩) (Nat.le_refl B) (.int .i64 (gone : Int))
  obtain ⟨ps1, first1, hr1, hL1⟩ := his1
  obtain ⟨o0, o1, o2, o3, o4, x0, x1, x2, x3, x4, _⟩ := ringCells hr1.blk
  have HI2 := Lib.hid his2
  clear hr1 his2 hblk1 hb1 hL1
  go_wp2_with fail
  generalize (w1.setCell ⟨B, 4, none⟩ (.int .i64 (gone : Int))) = W at *
  clear c0 c1 c2 c3 c4 f0 f1 f2 f3 f4 o0 o1 o2 o3 o4 x0 x1 x2 x3 x4
  go_loopg [19] n (fun gg s19 wr => ∃ (k : Nat) (pvo : Value), s19 = .int .i64 k ∧ k ≤ n ∧ n - k ≤ gg ∧ Hid (Is wr B pvo (rg.lastOf (L.take k) T) T (gone + ((L.take k).length - T))) ∧ Below B w wr)
  case atStart => exact ⟨0, _, rfl, Nat.zero_le _, by omega, Lib.hid (by simpa [rg.lastOf] using HI2.out), hb2⟩
  case round =>
    obtain ⟨k, pvo, rfl, hk, hgg, HIO, hbel⟩ := hrel
    by_cases hlt : k < n
    · have hblkr := (hbel.block b hb).trans HB.out
      have hownr := Kept.row (Kept.of_below (HBB.out ▸ hbel : Below w.heap.size w wr) (fun _ => False)) HO.out (fun _ _ h => h)
      have hszB : B ≤ wr.heap.size := by have := hbel.size; have := HBB.out; omega
      have hplt := HF.out.place_lt (i := k) (by omega)
      have hx : L.getD k (Value.int .i64 0) = ps.getD ((first + k) % most) (Value.int .i64 0) := by
        have := rg.things_getD (d := Value.int .i64 0) (ps := ps) (first := first) (most := most) hlt
        rwa [← HL.out] at this
      obtain ⟨y, hx2⟩ := HE.out _ (getD_mem (d := Value.int .i64 0) hplt)
      have hnx : L.take (k + 1) = L.take k ++ [Value.int .i64 y] := by rw [take_snoc L k (by rw [HN.out]; exact hlt) (Value.int .i64 0), hx, hx2]
      have hlk : (L.take k).length = k := by rw [List.length_take, HN.out]; omega
      obtain ⟨g, cap, rfl, hbg, hgw, hnc, hcm⟩ := own_some hownr (by omega)
      have hkr : wr.cell? ⟨g, (first + k) % most, none⟩ = some (Value.int .i64 y) := by rw [← hx2]; exact own_cell hownr hplt
      have hpl := fun j => place_any b (.slice (some ⟨g, 0, none⟩) ps.length cap) first n most gone k (wr.drewN j) hblkr (by omega) hm hf (by omega)
      have hpu := push_on B pvo (L.take k) T gone y wr HIO.out (by omega)
      obtain ⟨d0, d1, d2, d3, d4, e0, e1, e2, e3, e4, hbr⟩ := ringCells hblkr
      generalize (first + k) % most = P at *
      have hPi : ((P : Int) < (ps.length : Int)) := by omega
      have hio := HIO.out.own
      have HP := Lib.hid hpl; have HU := Lib.hid hpu; have HNX := Lib.hid hnx; have HLK := Lib.hid hlk; have HIW := Lib.hid hio
      clear hx hx2 hnx hpl hpu hblkr hownr hlk hio
      go_wp2_with fail
      go_region_with (first | (go_at_call 36; refine (HP.out _).mono ?_; rintro e w' ⟨rfl, nq2, rfl⟩) | (go_at_call 11; refine (HU.out _).mono ?_; rintro e w' ⟨v1, v2, rfl, hto⟩))
      all_goals
        have HTO := Lib.hid hto; clear hto
        clear d0 d1 d2 d3 d4 e0 e1 e2 e3 e4 hkr
        go_wp2_with fail
        go_roundg (n - (k + 1))
        case measure => omega
        case rel =>
          obtain ⟨pv', hi, hkp, hmv⟩ := HTO.out
          rw [← HNX.out] at hi
          refine ⟨k + 1, pv', by go_num, by omega, Nat.le_refl _, Lib.hid hi, hbel.trans (hkp.below hszB (fun j hj => ?_))⟩
          rcases hj with rfl | hj
          · exact Nat.le_refl _
          · have := HIW.out j hj; omega
    · obtain rfl : k = n := by omega
      have e : L.take k = L := List.take_of_length_le (by rw [HN.out]; exact Nat.le_refl _)
      have HIO2 := Lib.hid (show Is wr B pvo (rg.lastOf L T) T (gone + (k - T)) by have := HIO.out; rw [e, HN.out] at this; exact this)
      clear HIO e
      have hblkr := (hbel.block b hb).trans HB.out
      obtain ⟨c0, c1, c2, c3, c4, f0, f1, f2, f3, f4, hbw⟩ := ringCells hblkr
      obtain ⟨ps2, first2, hr2, hL2⟩ := HIO2.out
      obtain ⟨ao, ac, rfl⟩ := own_slice hr2.own
      generalize hG : gone + (k - T) = G at *
      obtain ⟨o0, o1, o2, o3, o4, x0, x1, x2, x3, x4, hlt2⟩ := ringCells hr2.blk
      have hfin : ∀ W2, W2 = ((((wr.setCell ⟨b, 0, none⟩ (.slice ao ps2.length ac)).setCell ⟨b, 1, none⟩ (.int .i64 (first2 : Int))).setCell ⟨b, 2, none⟩ (.int .i64 ((rg.lastOf L T).length : Int))).setCell ⟨b, 3, none⟩ (.int .i64 (T : Int))).setCell ⟨b, 4, none⟩ (.int .i64 (G : Int)) →
          RingTo 63 3 Fm (.int .i64 0) w W2 b pv (rg.lastOf L T) T G := by
        intro W2 hW2
        subst hW2
        refine ⟨_, ⟨ps2, first2, ⟨ring_set4 (ring_set3 (ring_set2 (ring_set1 (ring_set0 hblkr _) _) _) _) _, ?_, hr2.el, hr2.fit⟩, hL2⟩, ?_, ?_⟩
        · refine ownsRow_setCell_below (ownsRow_setCell_below (ownsRow_setCell_below (ownsRow_setCell_below (ownsRow_setCell_below (own_base hr2.own (by omega)) ?_ _) ?_ _) ?_ _) ?_ _) ?_ _ <;> exact Nat.lt_succ_self b
        · exact (((((Kept.of_below (HBB.out ▸ hbel : Below w.heap.size w wr) _).setCell (fun _ => .inl rfl) _).setCell (fun _ => .inl rfl) _).setCell (fun _ => .inl rfl) _).setCell (fun _ => .inl rfl) _).setCell (fun _ => .inl rfl) _
        · intro j hj
          have := (hr2.own.lt j hj).1
          have := HBB.out
          exact .inr (by omega)
      have HFIN := Lib.hid hfin; have HGG := Lib.hid hG
      clear hr2 hL2 hblkr hG hfin
      go_wp2_with fail
      go_end0
      exact ⟨rfl, by rw [HGG.out]; exact HFIN.out _ rfl⟩
end rI
end Go.Proofs.Ytaklkhjgdopbgaa
