/- Push, Pop and At of a ring of int. -/
import Derived.Test.YtaklkhjgdopbgaaRingOpsI
namespace Go.Proofs.Ytaklkhjgdopbgaa
namespace rI
open Go.RowKit

theorem add_any (b : Nat) (pv : Value) (L : List Value) (most gone : Nat) (z : Int) (w : World) (h : Is w b pv L most gone) (hlt : L.length < most) (k : Nat) :
    Calls Try.prog 35 #[.pointer (some ⟨b, 0, none⟩), (Value.int .i64 z)] (w.drewN k) fun e w' => e = .returned (.tuple #[]) ∧ RingTo 63 3 Fm (Value.int .i64 0) w w' b pv (L ++ [(Value.int .i64 z)]) most gone := by
  obtain ⟨ps, first, hr, hL⟩ := h
  by_cases hn : ps.length = L.length
  · refine (add_grow b pv ps first L.length most gone z (w.drewN k) (hr.drewN k) hn hlt).mono fun e w' ⟨he, pv', hr', hk, hm⟩ => ⟨he, pv', ⟨ps ++ [(Value.int .i64 z)], first, ?_, ?_⟩, hk.of_drewN, hm⟩
    · simpa using hr'
    · have := (rg.push_append (d := (Value.int .i64 0)) (Value.int .i64 z) hr.fit hn.symm hlt).1
      rw [hL]
      simpa [rg.length_things] using this.symm
  · have hn' : L.length < ps.length := by have := hr.fit.n_le; omega
    refine (add_set b pv ps first L.length most gone z (w.drewN k) (hr.drewN k) hn').mono fun e w' ⟨he, hr', hk⟩ => ⟨he, pv, ⟨ps.set ((first + L.length) % most) (Value.int .i64 z), first, ?_, ?_⟩, hk.of_drewN, Moved.same _ _⟩
    · simpa using hr'
    · have := (rg.push_set (d := (Value.int .i64 0)) (Value.int .i64 z) hr.fit hn').1
      rw [List.length_append, List.length_singleton, this, ← hL]

set_option maxHeartbeats 400000 in
theorem push_room (b : Nat) (pv : Value) (L : List Value) (most gone : Nat) (z : Int) (w : World) (h : Is w b pv L most gone) (hlt : L.length < most) :
    Calls Try.prog 11 #[.pointer (some ⟨b, 0, none⟩), (Value.int .i64 z)] w fun e w' => e = .returned (.tuple #[(Value.int .i64 0), .bool false]) ∧ RingTo 63 3 Fm (Value.int .i64 0) w w' b pv (L ++ [(Value.int .i64 z)]) most gone := by
  have hadd := add_any b pv L most gone z w h hlt
  obtain ⟨ps, first, hr, hL⟩ := h
  obtain ⟨c0, c1, c2, c3, c4, f0, f1, f2, f3, f4, hb⟩ := ringCells hr.blk
  have HA := Lib.hid hadd
  clear hr hL hadd
  have hlt' : ((L.length : Int) < (most : Int)) := by omega
  go_enter Try.func11, Try.ntmps11
  go_wp2_with fail
  go_quiet (fail)
  go_wp2_with fail
  refine (HA.out _).mono ?_
  rintro e w' ⟨rfl, hto⟩
  have HT := Lib.hid hto; clear hto
  go_wp2
  go_ret2
  exact ⟨rfl, HT.out⟩

set_option maxHeartbeats 400000 in
theorem push_none (b : Nat) (pv : Value) (L : List Value) (gone : Nat) (z : Int) (w : World) (h : Is w b pv L 0 gone) (hg : gone < 4611686018427387904) :
    Calls Try.prog 11 #[.pointer (some ⟨b, 0, none⟩), (Value.int .i64 z)] w fun e w' => e = .returned (.tuple #[(Value.int .i64 z), .bool true]) ∧ RingTo 63 3 Fm (Value.int .i64 0) w w' b pv L 0 (gone + 1) := by
  have hle := h.le.1
  obtain ⟨ps, first, hr, hL⟩ := h
  obtain ⟨c0, c1, c2, c3, c4, f0, f1, f2, f3, f4, hb⟩ := ringCells hr.blk
  have hto : ∀ k, RingTo 63 3 Fm (Value.int .i64 0) w ((w.drewN k).setCell ⟨b, 4, none⟩ (.int .i64 ((gone : Int) + 1))) b pv L 0 (gone + 1) := fun k =>
    ⟨pv, ⟨ps, first, ⟨by rw [show ((gone : Int) + 1) = ((gone + 1 : Nat) : Int) by omega]; exact ring_set4 (w := w.drewN k) hr.blk (gone + 1), ownsRow_setCell_below (w := w.drewN k) hr.own (Nat.lt_succ_self b) _, hr.el, hr.fit⟩, hL⟩, ((Kept.refl w _).drewN k).setCell (fun _ => .inl rfl) _, Moved.same _ _⟩
  have HT := Lib.hid hto
  clear hr hL hto
  have hlt' : ¬ ((L.length : Int) < ((0 : Nat) : Int)) := by omega
  have hd : decide ((L.length : Int) < ((0 : Nat) : Int)) = false := by simp
  go_enter Try.func11, Try.ntmps11
  go_wp2_with fail
  go_quiet (fail)
  go_wp2
  go_ret2
  exact ⟨rfl, HT.out _⟩

theorem getD_mem {l : List Value} {i : Nat} {d : Value} (h : i < l.length) : l.getD i d ∈ l := by simp [List.getD, h]

set_option maxHeartbeats 800000 in
theorem push_full (b : Nat) (pv : Value) (L : List Value) (most gone : Nat) (z : Int) (w : World) (h : Is w b pv L most gone) (hfull : L.length = most) (h0 : 0 < most) (hg : gone < 4611686018427387904) :
    Calls Try.prog 11 #[.pointer (some ⟨b, 0, none⟩), (Value.int .i64 z)] w fun e w' => e = .returned (.tuple #[L.headD (Value.int .i64 0), .bool true]) ∧ RingTo 63 3 Fm (Value.int .i64 0) w w' b pv (L.tail ++ [(Value.int .i64 z)]) most (gone + 1) := by
  obtain ⟨ps, first, hr, hL⟩ := h
  obtain ⟨hblk, hown, hel, hfit⟩ := hr
  have hl := hfit.l_le
  have hm := hfit.m_le
  have hpl := hfit.n_le
  have hlen : ps.length = most := by omega
  have hf : first < most := by have := hfit.fm; omega
  obtain ⟨hp1, hp2, hp3⟩ := rg.push_full (d := (Value.int .i64 0)) (Value.int .i64 z) hfit hfull h0
  rw [← hL] at hp1 hp3
  have hx : L.headD (Value.int .i64 0) = ps.getD first (Value.int .i64 0) := by rw [List.headD_eq_head?_getD, hp3]; rfl
  have hLe : (L.tail ++ [((Value.int .i64 z) : Value)]).length = L.length := by rw [← hp1, rg.length_things]
  obtain ⟨y, hx2⟩ := hel _ (getD_mem (d := (Value.int .i64 0)) (i := first) (by omega))
  rw [hx, hx2]
  obtain ⟨g, cap, rfl, hbg, hgw, hnc, hcm⟩ := own_some hown (by omega)
  obtain ⟨c0, c1, c2, c3, c4, f0, f1, f2, f3, f4, hb⟩ := ringCells hblk
  have hk : w.cell? ⟨g, first, none⟩ = some (Value.int .i64 y) := by rw [← hx2]; exact own_cell hown (by omega)
  have hfr : w.frozen? ⟨g, first, none⟩ = false := hown.frozenAt _
  -- behind the count of what is gone
  have hblk1 : ∀ k, ((w.drewN k).setCell ⟨b, 4, none⟩ (.int .i64 ((gone : Int) + 1))).heap[b]? = some (ringObj 63 (.slice (some ⟨g, 0, none⟩) ps.length cap) first L.length most (gone + 1)) := fun k => by
    rw [show ((gone : Int) + 1) = ((gone + 1 : Nat) : Int) by omega]; exact ring_set4 (w := w.drewN k) hblk (gone + 1)
  have hown1 : ∀ k, ((w.drewN k).setCell ⟨b, 4, none⟩ (.int .i64 ((gone : Int) + 1))).ownsRow (b + 1) 3 1 (.slice (some ⟨g, 0, none⟩) ps.length cap) ps.length ps := fun k => ownsRow_setCell_below (w := w.drewN k) hown (Nat.lt_succ_self b) _
  have hkept1 : ∀ k, Kept w ((w.drewN k).setCell ⟨b, 4, none⟩ (.int .i64 ((gone : Int) + 1))) (Tch b (.slice (some ⟨g, 0, none⟩) ps.length cap)) := fun k => ((Kept.refl w _).drewN k).setCell (fun _ => .inl rfl) _
  have H1 := Lib.hid hblk1; have H2 := Lib.hid hown1; have H3 := Lib.hid hkept1
  have H4 := Lib.hid hp1; have H5 := Lib.hid hp2; have H6 := Lib.hid hLe; have H7 := Lib.hid hel; have H8 := Lib.hid hlen; have HY := Lib.hid hx2; have H9 := Lib.hid hfull
  have hLm : (most : Int) ≤ (L.length : Int) := by omega
  have hm0 : ((most : Int) == 0) = false := by simp; omega
  have hd : decide ((L.length : Int) < (most : Int)) = false := by simp; omega
  have hml : most ≤ L.length := by omega
  clear hfit hL hx2 hx hp1 hp2 hp3 hLe hblk hown hblk1 hown1 hkept1 hel hfull hlen
  go_enter Try.func11, Try.ntmps11
  go_wp2_with fail
  go_quiet (fail)
  go_wp2
  have hb1 := H1.out nq; have ho1 := H2.out nq; have hk1 := H3.out nq
  generalize ((w.drewN nq).setCell ⟨b, 4, none⟩ (.int .i64 ((gone : Int) + 1))) = W at *
  clear c0 c1 c2 c3 c4 f0 f1 f2 f3 f4 hk hfr H1 H2 H3
  have hlt1 : first < ps.length := by have := H8.out; omega
  obtain ⟨c0, c1, c2, c3, c4, f0, f1, f2, f3, f4, hbW⟩ := ringCells hb1
  have hkW : W.cell? ⟨g, first, none⟩ = some (Value.int .i64 y) := by rw [← HY.out]; exact own_cell ho1 hlt1
  have hfrW : W.frozen? ⟨g, first, none⟩ = false := ho1.frozenAt _
  have hb2 : ∀ k, ((W.drewN k).setCell ⟨g, first, none⟩ (Value.int .i64 z)).heap[b]? = some (ringObj 63 (.slice (some ⟨g, 0, none⟩) ps.length cap) first L.length most (gone + 1)) := fun k => heap_set_other (W.drewN k) ⟨g, first, none⟩ (Value.int .i64 z) (show b ≠ g by omega) hb1
  have ho2 : ∀ k, ((W.drewN k).setCell ⟨g, first, none⟩ (Value.int .i64 z)).ownsRow (b + 1) 3 1 (.slice (some ⟨g, 0, none⟩) ps.length cap) ps.length (ps.set first (Value.int .i64 z)) := fun k => own_set (w := W.drewN k) (show (W.drewN k).ownsRow (b + 1) 3 1 (.slice (some ⟨g, 0, none⟩) ps.length cap) ps.length ps from ho1) first _
  have hk2 : ∀ k, Kept w ((W.drewN k).setCell ⟨g, first, none⟩ (Value.int .i64 z)) (Tch b (.slice (some ⟨g, 0, none⟩) ps.length cap)) := fun k => (hk1.drewN k).setCell (p := ⟨g, first, none⟩) (fun _ => .inr rfl) _
  have G1 := Lib.hid hb2; have G2 := Lib.hid ho2; have G3 := Lib.hid hk2
  clear hb1 ho1 hk1 hb2 ho2 hk2
  go_quiet (fail)
  go_wp2
  go_region
  have hb1 := G1.out (nq + 1); have ho1 := G2.out (nq + 1); have hk1 := G3.out (nq + 1)
  generalize ((W.drewN (nq + 1)).setCell ⟨g, first, none⟩ (Value.int .i64 z)) = X at *
  have hpl2 := place_any b (.slice (some ⟨g, 0, none⟩) ps.length cap) first L.length most (gone + 1) 1 X hb1 (by omega) hm (by omega) (by omega)
  have hto : ∀ k, RingTo 63 3 Fm (Value.int .i64 0) w ((X.drewN k).setCell ⟨b, 1, none⟩ (.int .i64 (((first + 1) % most : Nat) : Int))) b (.slice (some ⟨g, 0, none⟩) ps.length cap) (L.tail ++ [(Value.int .i64 z)]) most (gone + 1) := fun k => by
    refine ⟨_, ⟨ps.set first (Value.int .i64 z), (first + 1) % most, ⟨?_, ?_, fm_set H7.out (fm z), ?_⟩, ?_⟩, (hk1.drewN k).setCell (fun _ => .inl rfl) _, Moved.same _ _⟩
    · rw [H6.out]; exact ring_set1 (w := X.drewN k) hb1 _
    · rw [List.length_set]; exact ownsRow_setCell_below (w := X.drewN k) ho1 (Nat.lt_succ_self b) _
    · rw [H6.out]; exact H5.out
    · rw [H6.out]; exact H4.out.symm
  have HP := Lib.hid hpl2; have HT := Lib.hid hto
  clear c0 c1 c2 c3 c4 f0 f1 f2 f3 f4 hpl2 hto ho1 hk1 hkW hfrW
  obtain ⟨c0, c1, c2, c3, c4, f0, f1, f2, f3, f4, hbX⟩ := ringCells hb1
  clear hb1
  go_wp2_with fail
  refine HP.out.mono ?_
  rintro e w' ⟨rfl, nq3, rfl⟩
  go_wp2
  go_ret2
  exact ⟨rfl, HT.out _⟩

set_option maxHeartbeats 400000 in
theorem at_out (b : Nat) (pv : Value) (L : List Value) (most gone : Nat) (i : Int) (w : World) (h : Is w b pv L most gone) (hi : i < 0 ∨ (L.length : Int) ≤ i) :
    Calls Try.prog 17 #[.pointer (some ⟨b, 0, none⟩), .int .i64 i] w fun e w' => e = .returned (.tuple #[(Value.int .i64 0), .bool false]) ∧ w = w' := by
  obtain ⟨ps, first, hr, hL⟩ := h
  obtain ⟨c0, c1, c2, c3, c4, f0, f1, f2, f3, f4, hb⟩ := ringCells hr.blk
  clear hr hL
  by_cases h0 : i < 0
  · have hi2 : decide (i < 0) = true := by simpa using h0
    go_enter Try.func17, Try.ntmps17
    go_wp2
    go_ret2
    exact ⟨rfl, rfl⟩
  · have h1 : (L.length : Int) ≤ i := by omega
    have hi2 : decide (i < 0) = false := by simpa using h0
    go_enter Try.func17, Try.ntmps17
    go_wp2
    go_ret2
    exact ⟨rfl, rfl⟩

set_option maxHeartbeats 400000 in
theorem at_in (b : Nat) (pv : Value) (L : List Value) (most gone i : Nat) (w : World) (h : Is w b pv L most gone) (hi : i < L.length) :
    Calls Try.prog 17 #[.pointer (some ⟨b, 0, none⟩), .int .i64 (i : Int)] w fun e w' => e = .returned (.tuple #[L.getD i (Value.int .i64 0), .bool true]) ∧ ∃ nq, w' = w.drewN nq := by
  obtain ⟨ps, first, hr, hL⟩ := h
  obtain ⟨hblk, hown, hel, hfit⟩ := hr
  have hm := hfit.m_le
  have hl := hfit.l_le
  have hnl := hfit.n_le
  have hf : first ≤ 1000 := by have := hfit.fm; omega
  have hplt := hfit.place_lt (i := i) (by omega)
  have hx : L.getD i (Value.int .i64 0) = ps.getD ((first + i) % most) (Value.int .i64 0) := by
    have := rg.things_getD (d := (Value.int .i64 0)) (ps := ps) (first := first) (most := most) hi
    rwa [← hL] at this
  obtain ⟨y, hx2⟩ := hel _ (getD_mem (d := (Value.int .i64 0)) hplt)
  rw [hx, hx2]
  obtain ⟨g, cap, rfl, hbg, hgw, hnc, hcm⟩ := own_some hown (by omega)
  obtain ⟨c0, c1, c2, c3, c4, f0, f1, f2, f3, f4, hb⟩ := ringCells hblk
  have hpl := fun k => place_any b (.slice (some ⟨g, 0, none⟩) ps.length cap) first L.length most gone i (w.drewN k) hblk (by omega) hm hf (by omega)
  have hk : w.cell? ⟨g, (first + i) % most, none⟩ = some (Value.int .i64 y) := by rw [← hx2]; exact own_cell hown hplt
  generalize (first + i) % most = P at *
  have HL := Lib.hid hpl
  have hPi : ((P : Int) < (ps.length : Int)) := by omega
  have hiL : ((i : Int) < (L.length : Int)) := by omega
  clear hfit hel hown hpl hL hx hx2 hblk
  have hi2 : decide ((i : Int) < 0) = false := by simp
  go_enter Try.func17, Try.ntmps17
  go_wp2
  go_quiet ((go_at_call 36; exact Calls.quiet_of (HL.out _)))
  go_wp2
  go_ret2
  exact ⟨rfl, _, rfl⟩

set_option maxHeartbeats 400000 in
theorem pop_none (b : Nat) (pv : Value) (most gone : Nat) (w : World) (h : Is w b pv [] most gone) :
    Calls Try.prog 13 #[.pointer (some ⟨b, 0, none⟩)] w fun e w' => e = .returned (.tuple #[(Value.int .i64 0), .bool false]) ∧ w = w' := by
  obtain ⟨ps, first, hr, hL⟩ := h
  obtain ⟨c0, c1, c2, c3, c4, f0, f1, f2, f3, f4, hb⟩ := ringCells hr.blk
  clear hr hL
  simp only [List.length_nil] at *
  go_enter Try.func13, Try.ntmps13
  go_wp2
  go_ret2
  exact ⟨rfl, rfl⟩

set_option maxHeartbeats 800000 in
theorem pop_some (b : Nat) (pv : Value) (L : List Value) (x : Value) (most gone : Nat) (w : World) (h : Is w b pv (L ++ [x]) most gone) :
    Calls Try.prog 13 #[.pointer (some ⟨b, 0, none⟩)] w fun e w' => e = .returned (.tuple #[x, .bool true]) ∧ RingTo 63 3 Fm (Value.int .i64 0) w w' b pv L most gone := by
  obtain ⟨ps, first, hr, hL⟩ := h
  rw [List.length_append, List.length_singleton] at hr hL
  obtain ⟨hblk, hown, hel, hfit⟩ := hr
  have hm := hfit.m_le
  have hl := hfit.l_le
  have hnl := hfit.n_le
  have hf : first ≤ 1000 := by have := hfit.fm; omega
  obtain ⟨hp1, hp2, hplt⟩ := rg.pop_last (d := (Value.int .i64 0)) (Value.int .i64 0) hfit
  rw [← hL] at hp1
  obtain ⟨hLs, hxs⟩ : L = rg.things (Value.int .i64 0) (ps.set ((first + L.length) % most) (Value.int .i64 0)) first L.length most ∧ [x] = [ps.getD ((first + L.length) % most) (Value.int .i64 0)] := List.append_inj hp1 (by rw [rg.length_things])
  have hx : x = ps.getD ((first + L.length) % most) (Value.int .i64 0) := by simpa using hxs
  obtain ⟨y, hx2⟩ := hel _ (getD_mem (d := (Value.int .i64 0)) hplt)
  rw [hx, hx2]
  obtain ⟨g, cap, rfl, hbg, hgw, hnc, hcm⟩ := own_some hown (by omega)
  obtain ⟨c0, c1, c2, c3, c4, f0, f1, f2, f3, f4, hb⟩ := ringCells hblk
  have hk : w.cell? ⟨g, (first + L.length) % most, none⟩ = some (Value.int .i64 y) := by rw [← hx2]; exact own_cell hown hplt
  have hfr : w.frozen? ⟨g, (first + L.length) % most, none⟩ = false := hown.frozenAt _
  generalize hP : (first + L.length) % most = P at *
  have HP := Lib.hid hP; clear hP
  have hblk1 : (w.setCell ⟨b, 2, none⟩ (.int .i64 (L.length : Int))).heap[b]? = some (ringObj 63 (.slice (some ⟨g, 0, none⟩) ps.length cap) first L.length most gone) := ring_set2 hblk L.length
  have hown1 : (w.setCell ⟨b, 2, none⟩ (.int .i64 (L.length : Int))).ownsRow (b + 1) 3 1 (.slice (some ⟨g, 0, none⟩) ps.length cap) ps.length ps := ownsRow_setCell_below hown (Nat.lt_succ_self b) _
  have hkept1 : Kept w (w.setCell ⟨b, 2, none⟩ (.int .i64 (L.length : Int))) (Tch b (.slice (some ⟨g, 0, none⟩) ps.length cap)) := (Kept.refl w _).setCell (fun _ => .inl rfl) _
  have H1 := Lib.hid hblk1; have H2 := Lib.hid hown1; have H3 := Lib.hid hkept1; have H4 := Lib.hid hLs; have H5 := Lib.hid hp2; have H7 := Lib.hid hel; have HY := Lib.hid hx2
  have hPi : ((P : Int) < (ps.length : Int)) := by omega
  have hn0 : ((L.length : Int) + 1 == 0) = false := by simp; omega
  have ew : wrap64 ((L.length : Int) + 1 - 1) = (L.length : Int) := by rw [show (L.length : Int) + 1 - 1 = (L.length : Int) by omega]; exact IntWalk.wrap64_in _ ⟨by omega, by omega⟩
  rw [show ((L.length + 1 : Nat) : Int) = (L.length : Int) + 1 by omega] at c2
  clear hfit hel hown hL hx hx2 hblk hxs hp1 hp2 hLs hblk1 hown1 hkept1
  go_enter Try.func13, Try.ntmps13
  go_wp2
  have hb1 := H1.out; have ho1 := H2.out; have hk1 := H3.out
  generalize (w.setCell ⟨b, 2, none⟩ (.int .i64 (L.length : Int))) = W at *
  clear c0 c1 c2 c3 c4 f0 f1 f2 f3 f4 hk hfr H1 H2 H3
  obtain ⟨c0, c1, c2, c3, c4, f0, f1, f2, f3, f4, hbW⟩ := ringCells hb1
  have hkW : W.cell? ⟨g, P, none⟩ = some (Value.int .i64 y) := by rw [← HY.out]; exact own_cell ho1 hplt
  have hfrW : W.frozen? ⟨g, P, none⟩ = false := ho1.frozenAt _
  have hpl2 := fun k => place_any b (.slice (some ⟨g, 0, none⟩) ps.length cap) first L.length most gone L.length (W.drewN k) hb1 (by omega) hm (by omega) (by omega)
  rw [HP.out] at hpl2
  have hto : ∀ k, RingTo 63 3 Fm (Value.int .i64 0) w ((W.drewN k).setCell ⟨g, P, none⟩ (Value.int .i64 0)) b (.slice (some ⟨g, 0, none⟩) ps.length cap) L most gone := fun k => by
    refine ⟨_, ⟨ps.set P (Value.int .i64 0), first, ⟨?_, ?_, fm_set H7.out ⟨0, rfl⟩, H5.out⟩, H4.out⟩, (hk1.drewN k).setCell (p := ⟨g, P, none⟩) (fun _ => .inr rfl) _, Moved.same _ _⟩
    · exact heap_set_other (W.drewN k) ⟨g, P, none⟩ (Value.int .i64 0) (show b ≠ g by omega) hb1
    · rw [List.length_set]; exact own_set (w := W.drewN k) (show (W.drewN k).ownsRow (b + 1) 3 1 (.slice (some ⟨g, 0, none⟩) ps.length cap) ps.length ps from ho1) P _
  have HQ := Lib.hid hpl2; have HT := Lib.hid hto
  clear hb1 ho1 hk1 hpl2 hto
  go_quiet ((go_at_call 36; exact Calls.quiet_of (HQ.out _)))
  go_wp2
  go_ret2
  exact ⟨rfl, HT.out _⟩
end rI
end Go.Proofs.Ytaklkhjgdopbgaa
