/- Push, Pop and At of a ring of string. -/
import Derived.Test.YtaklkhjgdopbgaaRingOpsS
namespace Go.Proofs.Ytaklkhjgdopbgaa
namespace rS
open Go.RowKit

theorem add_any (b : Nat) (pv : Value) (L : List Value) (most gone : Nat) (z : ByteArray) (w : World) (h : Is w b pv L most gone) (hlt : L.length < most) (k : Nat) :
    Calls Try.prog 37 #[.pointer (some ⟨b, 0, none⟩), (Value.string z)] (w.drewN k) fun e w' => e = .returned (.tuple #[]) ∧ RingTo 68 9 Fm (Value.string ByteArray.empty) w w' b pv (L ++ [(Value.string z)]) most gone := by
  obtain ⟨ps, first, hr, hL⟩ := h
  by_cases hn : ps.length = L.length
  · refine (add_grow b pv ps first L.length most gone z (w.drewN k) (hr.drewN k) hn hlt).mono fun e w' ⟨he, pv', hr', hk, hm⟩ => ⟨he, pv', ⟨ps ++ [(Value.string z)], first, ?_, ?_⟩, hk.of_drewN, hm⟩
    · simpa using hr'
    · have := (rg.push_append (d := (Value.string ByteArray.empty)) (Value.string z) hr.fit hn.symm hlt).1
      rw [hL]
      simpa [rg.length_things] using this.symm
  · have hn' : L.length < ps.length := by have := hr.fit.n_le; omega
    refine (add_set b pv ps first L.length most gone z (w.drewN k) (hr.drewN k) hn').mono fun e w' ⟨he, hr', hk⟩ => ⟨he, pv, ⟨ps.set ((first + L.length) % most) (Value.string z), first, ?_, ?_⟩, hk.of_drewN, Moved.same _ _⟩
    · simpa using hr'
    · have := (rg.push_set (d := (Value.string ByteArray.empty)) (Value.string z) hr.fit hn').1
      rw [List.length_append, List.length_singleton, this, ← hL]

set_option maxHeartbeats 400000 in
theorem push_room (b : Nat) (pv : Value) (L : List Value) (most gone : Nat) (z : ByteArray) (w : World) (h : Is w b pv L most gone) (hlt : L.length < most) :
    Calls Try.prog 23 #[.pointer (some ⟨b, 0, none⟩), (Value.string z)] w fun e w' => e = .returned (.tuple #[(Value.string ByteArray.empty), .bool false]) ∧ RingTo 68 9 Fm (Value.string ByteArray.empty) w w' b pv (L ++ [(Value.string z)]) most gone := by
  have hadd := add_any b pv L most gone z w h hlt
  obtain ⟨ps, first, hr, hL⟩ := h
  obtain ⟨c0, c1, c2, c3, c4, f0, f1, f2, f3, f4, hb⟩ := ringCells hr.blk
  have HA := Lib.hid hadd
  clear hr hL hadd
  have hlt' : ((L.length : Int) < (most : Int)) := by omega
  go_enter Try.func23, Try.ntmps23
  go_wp2_with fail
  go_quiet (fail)
  go_wp2_with fail
  refine (HA.out _).mono ?_
  rintro e w' ⟨rfl, hto⟩
  have HT := Lib.hid hto; clear hto
  go_wp2
  go_ret2
  exact ⟨rfl, HT.out⟩

set_option maxHeartbeats 400000 in
theorem push_none (b : Nat) (pv : Value) (L : List Value) (gone : Nat) (z : ByteArray) (w : World) (h : Is w b pv L 0 gone) (hg : gone < 4611686018427387904) :
    Calls Try.prog 23 #[.pointer (some ⟨b, 0, none⟩), (Value.string z)] w fun e w' => e = .returned (.tuple #[(Value.string z), .bool true]) ∧ RingTo 68 9 Fm (Value.string ByteArray.empty) w w' b pv L 0 (gone + 1) := by
  have hle := h.le.1
  obtain ⟨ps, first, hr, hL⟩ := h
  obtain ⟨c0, c1, c2, c3, c4, f0, f1, f2, f3, f4, hb⟩ := ringCells hr.blk
  have hto : ∀ k, RingTo 68 9 Fm (Value.string ByteArray.empty) w ((w.drewN k).setCell ⟨b, 4, none⟩ (.int .i64 ((gone : Int) + 1))) b pv L 0 (gone + 1) := fun k =>
    ⟨pv, ⟨ps, first, ⟨by rw [show ((gone : Int) + 1) = ((gone + 1 : Nat) : Int) by omega]; exact ring_set4 (w := w.drewN k) hr.blk (gone + 1), ownsRow_setCell_below (w := w.drewN k) hr.own (Nat.lt_succ_self b) _, hr.el, hr.fit⟩, hL⟩, ((Kept.refl w _).drewN k).setCell (fun _ => .inl rfl) _, Moved.same _ _⟩
  have HT := Lib.hid hto
  clear hr hL hto
  have hlt' : ¬ ((L.length : Int) < ((0 : Nat) : Int)) := by omega
  have hd : decide ((L.length : Int) < ((0 : Nat) : Int)) = false := by simp
  go_enter Try.func23, Try.ntmps23
  go_wp2_with fail
  go_quiet (fail)
  go_wp2
  go_ret2
  exact ⟨rfl, HT.out _⟩

theorem getD_mem {l : List Value} {i : Nat} {d : Value} (h : i < l.length) : l.getD i d ∈ l := by simp [List.getD, h]

set_option maxHeartbeats 800000 in
theorem push_full (b : Nat) (pv : Value) (L : List Value) (most gone : Nat) (z : ByteArray) (w : World) (h : Is w b pv L most gone) (hfull : L.length = most) (h0 : 0 < most) (hg : gone < 4611686018427387904) :
    Calls Try.prog 23 #[.pointer (some ⟨b, 0, none⟩), (Value.string z)] w fun e w' => e = .returned (.tuple #[L.headD (Value.string ByteArray.empty), .bool true]) ∧ RingTo 68 9 Fm (Value.string ByteArray.empty) w w' b pv (L.tail ++ [(Value.string z)]) most (gone + 1) := by
  obtain ⟨ps, first, hr, hL⟩ := h
  obtain ⟨hblk, hown, hel, hfit⟩ := hr
  have hl := hfit.l_le
  have hm := hfit.m_le
  have hpl := hfit.n_le
  have hlen : ps.length = most := by omega
  have hf : first < most := by have := hfit.fm; omega
  obtain ⟨hp1, hp2, hp3⟩ := rg.push_full (d := (Value.string ByteArray.empty)) (Value.string z) hfit hfull h0
  rw [← hL] at hp1 hp3
  have hx : L.headD (Value.string ByteArray.empty) = ps.getD first (Value.string ByteArray.empty) := by rw [List.headD_eq_head?_getD, hp3]; rfl
  have hLe : (L.tail ++ [((Value.string z) : Value)]).length = L.length := by rw [← hp1, rg.length_things]
  obtain ⟨y, hx2⟩ := hel _ (getD_mem (d := (Value.string ByteArray.empty)) (i := first) (by omega))
  rw [hx, hx2]
  obtain ⟨g, cap, rfl, hbg, hgw, hnc, hcm⟩ := own_some hown (by omega)
  obtain ⟨c0, c1, c2, c3, c4, f0, f1, f2, f3, f4, hb⟩ := ringCells hblk
  have hk : w.cell? ⟨g, first, none⟩ = some (Value.string y) := by rw [← hx2]; exact own_cell hown (by omega)
  have hfr : w.frozen? ⟨g, first, none⟩ = false := hown.frozenAt _
  -- behind the count of what is gone
  have hblk1 : ∀ k, ((w.drewN k).setCell ⟨b, 4, none⟩ (.int .i64 ((gone : Int) + 1))).heap[b]? = some (ringObj 68 (.slice (some ⟨g, 0, none⟩) ps.length cap) first L.length most (gone + 1)) := fun k => by
    rw [show ((gone : Int) + 1) = ((gone + 1 : Nat) : Int) by omega]; exact ring_set4 (w := w.drewN k) hblk (gone + 1)
  have hown1 : ∀ k, ((w.drewN k).setCell ⟨b, 4, none⟩ (.int .i64 ((gone : Int) + 1))).ownsRow (b + 1) 9 1 (.slice (some ⟨g, 0, none⟩) ps.length cap) ps.length ps := fun k => ownsRow_setCell_below (w := w.drewN k) hown (Nat.lt_succ_self b) _
  have hkept1 : ∀ k, Kept w ((w.drewN k).setCell ⟨b, 4, none⟩ (.int .i64 ((gone : Int) + 1))) (Tch b (.slice (some ⟨g, 0, none⟩) ps.length cap)) := fun k => ((Kept.refl w _).drewN k).setCell (fun _ => .inl rfl) _
  have H1 := Lib.hid hblk1; have H2 := Lib.hid hown1; have H3 := Lib.hid hkept1
  have H4 := Lib.hid hp1; have H5 := Lib.hid hp2; have H6 := Lib.hid hLe; have H7 := Lib.hid hel; have H8 := Lib.hid hlen; have HY := Lib.hid hx2; have H9 := Lib.hid hfull
  have hLm : (most : Int) ≤ (L.length : Int) := by omega
  have hm0 : ((most : Int) == 0) = false := by simp; omega
  have hd : decide ((L.length : Int) < (most : Int)) = false := by simp; omega
  have hml : most ≤ L.length := by omega
  clear hfit hL hx2 hx hp1 hp2 hp3 hLe hblk hown hblk1 hown1 hkept1 hel hfull hlen
  go_enter Try.func23, Try.ntmps23
  go_wp2_with fail
  go_quiet (fail)
  go_wp2
  have hb1 := H1.out nq; have ho1 := H2.out nq; have hk1 := H3.out nq
  generalize ((w.drewN nq).setCell ⟨b, 4, none⟩ (.int .i64 ((gone : Int) + 1))) = W at *
  clear c0 c1 c2 c3 c4 f0 f1 f2 f3 f4 hk hfr H1 H2 H3
  have hlt1 : first < ps.length := by have := H8.out; omega
  obtain ⟨c0, c1, c2, c3, c4, f0, f1, f2, f3, f4, hbW⟩ := ringCells hb1
  have hkW : W.cell? ⟨g, first, none⟩ = some (Value.string y) := by rw [← HY.out]; exact own_cell ho1 hlt1
  have hfrW : W.frozen? ⟨g, first, none⟩ = false := ho1.frozenAt _
  have hb2 : ∀ k, ((W.drewN k).setCell ⟨g, first, none⟩ (Value.string z)).heap[b]? = some (ringObj 68 (.slice (some ⟨g, 0, none⟩) ps.length cap) first L.length most (gone + 1)) := fun k => heap_set_other (W.drewN k) ⟨g, first, none⟩ (Value.string z) (show b ≠ g by omega) hb1
  have ho2 : ∀ k, ((W.drewN k).setCell ⟨g, first, none⟩ (Value.string z)).ownsRow (b + 1) 9 1 (.slice (some ⟨g, 0, none⟩) ps.length cap) ps.length (ps.set first (Value.string z)) := fun k => own_set (w := W.drewN k) (show (W.drewN k).ownsRow (b + 1) 9 1 (.slice (some ⟨g, 0, none⟩) ps.length cap) ps.length ps from ho1) first _
  have hk2 : ∀ k, Kept w ((W.drewN k).setCell ⟨g, first, none⟩ (Value.string z)) (Tch b (.slice (some ⟨g, 0, none⟩) ps.length cap)) := fun k => (hk1.drewN k).setCell (p := ⟨g, first, none⟩) (fun _ => .inr rfl) _
  have G1 := Lib.hid hb2; have G2 := Lib.hid ho2; have G3 := Lib.hid hk2
  clear hb1 ho1 hk1 hb2 ho2 hk2
  go_quiet (fail)
  go_wp2
  go_region
  have hb1 := G1.out (nq + 1); have ho1 := G2.out (nq + 1); have hk1 := G3.out (nq + 1)
  generalize ((W.drewN (nq + 1)).setCell ⟨g, first, none⟩ (Value.string z)) = X at *
  have hpl2 := place_any b (.slice (some ⟨g, 0, none⟩) ps.length cap) first L.length most (gone + 1) 1 X hb1 (by omega) hm (by omega) (by omega)
  have hto : ∀ k, RingTo 68 9 Fm (Value.string ByteArray.empty) w ((X.drewN k).setCell ⟨b, 1, none⟩ (.int .i64 (((first + 1) % most : Nat) : Int))) b (.slice (some ⟨g, 0, none⟩) ps.length cap) (L.tail ++ [(Value.string z)]) most (gone + 1) := fun k => by
    refine ⟨_, ⟨ps.set first (Value.string z), (first + 1) % most, ⟨?_, ?_, fm_set H7.out (fm z), ?_⟩, ?_⟩, (hk1.drewN k).setCell (fun _ => .inl rfl) _, Moved.same _ _⟩
    · rw [H6.out]; exact ring_set1 (w := X.drewN k) hb1 _
    · rw [List.length_set]; exact ownsRow_setCell_below (w := X.drewN k) ho1 (Nat.lt_succ_self b) _
    · rw [H6.out]; exact H5.out
    · rw [H6.out]; exact H4.out.symm
  have HP := Lib.hid hpl2; have HT := Lib.hid hto
  clear c0 c1 c2 c3 c4 f0 f1 f2 f3 f4 hpl2 hto ho1 hk1 hkW hfrW
  obtain ⟨c0, c1, c2, c3, c4, f0, f1, f2, f3, f4, hbX⟩ := ringCells hb1
  clear hb1
  go_wp2_with fail
  refine HP.out.mono ?_
  rintro e w' ⟨rfl, nq3, rfl⟩
  go_wp2
  go_ret2
  exact ⟨rfl, HT.out _⟩

end rS
end Go.Proofs.Ytaklkhjgdopbgaa
