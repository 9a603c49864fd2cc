/- The document's bus: With. -/
import Derived.Test.YtgegphciaejkiaaBuRef
namespace Go.Proofs.Ytgegphciaejkiaa
open Go.RowKit
def rsN (T : Nat → RSl) : Nat → List Value
  | 0 => []
  | n + 1 => rsN T n ++ (T n).cells
theorem rsN_four (T : Nat → RSl) : rsN T 4 = rsC T := by simp [rsN, rsC]
theorem rsN_step (T : Nat → RSl) (n : Nat) : rsN T n ++ (T n).cells = rsN T (n + 1) := rfl
theorem rsN_len (T : Nat → RSl) : ∀ n, (rsN T n).length = n * 4
  | 0 => rfl
  | n + 1 => by
    rw [rsN, List.length_append, rsN_len T n]
    simp [RSl.cells]
    omega
structure RR (B : Nat) (W0 W : World) (V : Value) (n : Nat) (cs : List Value) : Prop where
  own : W.ownsRow B 39 4 V n cs
  bel : Below B W0 W
theorem RR.push {B : Nat} {W0 W W1 W' : World} {V V' : Value} {n n' : Nat} {l l' : List Value} (h : RR B W0 W V n l) (hB : B ≤ W.heap.size) (h1 : Below W.heap.size W W1) (hr : W'.ownsRow B 39 4 V' n' l') (hg : W1.grownBy W' V.ownBlock) : RR B W0 W' V' n' l' :=
  ⟨hr, (h.bel.trans (h1.mono hB)).trans ((Below.refl B W1).grown hg (Nat.le_trans hB h1.size) (fun k hk => (h.own.lt k hk).1))⟩
theorem rs_one (s : RSl) : ∀ u ∈ s.cells, u.oneCell' = true := by
  intro u hu
  simp only [RSl.cells, List.mem_cons, List.not_mem_nil, or_false] at hu
  rcases hu with rfl | rfl | rfl | rfl <;> rfl
theorem rs_new (w : World) (s : RSl) : RowIn (w.alloc (slO s)) (fun _ => True) (.slice (some ⟨w.heap.size, 0, none⟩) 1 1) 4 1 s.cells := by
  have h := heap_alloc_new w (slO s)
  refine ⟨_, 1, rfl, Nat.le_refl _, by decide, rfl, .inr ⟨w.heap.size, 0, rfl, trivial, heap_lt h, fun k v hv => ?_⟩⟩
  rw [Nat.zero_add, cell_of_heap h]
  simpa [RSl.cells] using hv
abbrev rbO (V : Value) : Obj := .cells #[V] 28
set_option maxRecDepth 100000 in
set_option maxHeartbeats 3200000 in
theorem rwith_any (V : Value) (R : Nat → RSl) (p : Int) (hp : 1 ≤ p ∧ p ≤ 4) (s : RSl) (w : World) (h : RB w V R) : Calls Try.prog 23 #[.agg #[V], .int .i64 p, s.val] w fun e w' => ∃ V', e = .returned (.agg #[V']) ∧ RB w' V' (fun j => if (j : Int) = p - 1 then s else R j) ∧ Below w.heap.size w w' := by
  obtain ⟨o, n, cap, rfl⟩ : ∃ o n cap, V = .slice o n cap := by
    obtain ⟨o, cap, e, -⟩ := h
    exact ⟨o, _, cap, e⟩
  obtain ⟨T, hT⟩ : ∃ T : Nat → RSl, (fun j : Nat => if (j : Int) = p - 1 then s else R j) = T := ⟨_, rfl⟩
  have HT : Hid (∀ j : Nat, T j = if (j : Int) = p - 1 then s else R j) := Lib.hid (fun j => by rw [← hT])
  rw [hT]
  clear hT
  have hw0 := Below.refl w.heap.size w
  have a1 := heap_alloc_new w (rbO (.slice o n cap))
  have b1 := below_one w (rbO (.slice o n cap))
  have a2 := heap_alloc_new (w.alloc (rbO (.slice o n cap))) (slO s)
  have b2 := below_one (w.alloc (rbO (.slice o n cap))) (slO s)
  have a3 := heap_alloc_new ((w.alloc (rbO (.slice o n cap))).alloc (slO s)) (rbO (.slice none 0 0))
  have b3 := below_one ((w.alloc (rbO (.slice o n cap))).alloc (slO s)) (rbO (.slice none 0 0))
  rw [World.size_alloc] at a2
  rw [World.size_alloc, World.size_alloc] at a3
  have a1' := (b3.block _ (by simp; omega)).trans ((b2.block _ (heap_lt a1)).trans a1)
  have a2' := (b3.block _ (heap_lt a2)).trans a2
  have bb := b1.trans ((b2.trans (b3.mono b2.size)).mono b1.size)
  have HB := Lib.hid (And.intro a1' (And.intro a2' (And.intro a3 (And.intro bb (RowIn.below h bb)))))
  have hsz : (((w.alloc (rbO (.slice o n cap))).alloc (slO s)).alloc (rbO (.slice none 0 0))).heap.size = w.heap.size + 3 := by simp
  clear a1 a2 a3 a1' a2' b1 b2 b3 bb h hw0
  go_enter Try.func23, Try.ntmps23
  go_upto_region 1 with fail
  obtain ⟨W, hW⟩ : ∃ W, ((w.alloc (rbO (.slice o n cap))).alloc (slO s)).alloc (rbO (.slice none 0 0)) = W := ⟨_, rfl⟩
  rw [hW] at HB hsz
  change Code.wp _ _ _ _ (((w.alloc (rbO (.slice o n cap))).alloc (slO s)).alloc (rbO (.slice none 0 0)))
  rw [hW]
  clear hW
  have HR0 : Hid (RR (w.heap.size + 3) W (W.alloc (.cells #[] 39)) (.slice (some ⟨w.heap.size + 3, 0, none⟩) 0 0) 0 (rsN T 0)) := Lib.hid (by
    have := (⟨World.ownsRow_lit W #[] 0 (Nat.le_refl _) (by unfold maxLen; omega) rfl, below_one W _⟩ : RR W.heap.size W (W.alloc (.cells #[] 39)) (.slice (some ⟨W.heap.size, 0, none⟩) 0 0) 0 (rsN T 0))
    rwa [hsz] at this)
  have HBs : Hid (w.heap.size + 3 ≤ W.heap.size) := Lib.hid (by omega)
  have HBe : Hid (W.heap.size ≤ w.heap.size + 3) := Lib.hid (by omega)
  go_upto_region 3 with fail
  go_loopg [7, 8] 4 (fun gg s7 s8 wr => ∃ (j : Nat) (ao : Option Addr) (ac : Nat), s8 = .int .i64 j ∧ s7 = .slice ao j ac ∧ j ≤ 4 ∧ 4 - j ≤ gg ∧ Hid (RR (w.heap.size + 3) W wr (.slice ao j ac) j (rsN T j)))
  case atStart => exact ⟨0, _, 0, rfl, rfl, Nat.zero_le _, Nat.le_refl _, HR0⟩
  case round =>
    obtain ⟨j, ao, ac, rfl, rfl, hj, hgg, HA⟩ := hrel
    clear HR0
    have hbw : Below W.heap.size W wr := HA.out.bel.mono HBe.out
    have k1 := (hbw.block _ (heap_lt HB.out.1)).trans HB.out.1
    have k2 := (hbw.block _ (heap_lt HB.out.2.1)).trans HB.out.2.1
    have k3 := (hbw.block _ (heap_lt HB.out.2.2.1)).trans HB.out.2.2.1
    have HK := Lib.hid (And.intro k1 (And.intro k2 (And.intro k3 (And.intro (HB.out.2.2.2.1.trans (hbw.mono HB.out.2.2.2.1.size)) (RowIn.below HB.out.2.2.2.2 hbw)))))
    clear k1 k2 k3 hbw
    obtain ⟨rfl, hcap, b, off, rfl, hlb, hcc⟩ := RB.at_ HK.out.2.2.2.2
    have y0 : wr.cell? ⟨w.heap.size, 0, none⟩ = some (.slice (some ⟨b, off, none⟩) 4 cap) := (cell_of_heap HK.out.1).trans rfl
    have hy := heap_lt HK.out.1
    by_cases hj4 : j < 4
    · have hj4' : (j : Int) < 4 := by omega
      obtain ⟨d0, d1, d2, d3⟩ := hcc j hj4
      clear hcc
      have hTj := HT.out j
      by_cases hjp : (j : Int) = p - 1
      · rw [if_pos hjp] at hTj
        have e0 : wr.cell? ⟨w.heap.size + 1, 0, none⟩ = some (.bool s.on) := (cell_of_heap HK.out.2.1).trans rfl
        have e1 : wr.cell? ⟨w.heap.size + 1, 1, none⟩ = some s.ks := (cell_of_heap HK.out.2.1).trans rfl
        have e2 : wr.cell? ⟨w.heap.size + 1, 2, none⟩ = some s.qu := (cell_of_heap HK.out.2.1).trans rfl
        have e3 : wr.cell? ⟨w.heap.size + 1, 3, none⟩ = some (.int .i64 s.dr) := (cell_of_heap HK.out.2.1).trans rfl
        have hy2 := heap_lt HK.out.2.1
        have HO := Lib.hid (And.intro (row_below HA.out.own (below_one wr (slO s))) (Nat.le_trans HA.out.bel.size (Nat.le_refl _)))
        have HNW := Lib.hid (rs_new wr s)
        have hst : Hid (rsN T j ++ s.cells = rsN T (j + 1)) := Lib.hid (by rw [rsN, hTj])
        have hB : Hid (w.heap.size + 3 ≤ (wr.alloc (slO s)).heap.size) := Lib.hid (by have := HA.out.bel.size; have := hsz; simp; omega)
        clear hsz
        go_wp2_with (at_builtin; go_loud (refine wpList_rows 26 39 4 64 Try.underlying26 infoRSl rfl (by decide) rfl _ _ rfl (w.heap.size + 3) (.slice ao j ac) j (rsN T j) rfl HO.out.1 hB.out ⟨wr.heap.size, 0, none⟩ 1 1 (fun _ => True) s.cells rfl HNW.out (by omega) (rs_one s) (by omega) (by omega) (j + 1) rfl (rsN T (j + 1)) hst.out ?_))
        intro V' w5 q1 q2
        have H5 : Hid (RR (w.heap.size + 3) W w5 V' (j + 1) (rsN T (j + 1))) := Lib.hid (HA.out.push (Nat.le_trans HBs.out HA.out.bel.size) (below_one wr (slO s)) q1 q2)
        obtain ⟨ao', ac', rfl⟩ := own_slice q1
        clear q1 q2
        go_wp2_with fail
        go_roundg (4 - (j + 1))
        case measure => omega
        case rel => exact ⟨j + 1, ao', ac', (by first | rfl | (simp; done) | (simp; omega)), rfl, by omega, Nat.le_refl _, H5⟩
      · rw [if_neg hjp] at hTj
        obtain ⟨r, hr⟩ : ∃ r, R j = r := ⟨_, rfl⟩
        rw [hr] at d0 d1 d2 d3 hTj
        have HO := Lib.hid (And.intro (row_below HA.out.own (below_one wr (slO r))) (Nat.le_trans HA.out.bel.size (Nat.le_refl _)))
        have HNW := Lib.hid (rs_new wr r)
        have hst : Hid (rsN T j ++ r.cells = rsN T (j + 1)) := Lib.hid (by rw [rsN, hTj])
        have hB : Hid (w.heap.size + 3 ≤ (wr.alloc (slO r)).heap.size) := Lib.hid (by have := HA.out.bel.size; have := hsz; simp; omega)
        clear hsz
        go_wp2_with (at_builtin; go_loud (refine wpList_rows 26 39 4 64 Try.underlying26 infoRSl rfl (by decide) rfl _ _ rfl (w.heap.size + 3) (.slice ao j ac) j (rsN T j) rfl HO.out.1 hB.out ⟨wr.heap.size, 0, none⟩ 1 1 (fun _ => True) r.cells rfl HNW.out (by omega) (rs_one r) (by omega) (by omega) (j + 1) rfl (rsN T (j + 1)) hst.out ?_))
        intro V' w5 q1 q2
        have H5 : Hid (RR (w.heap.size + 3) W w5 V' (j + 1) (rsN T (j + 1))) := Lib.hid (HA.out.push (Nat.le_trans HBs.out HA.out.bel.size) (below_one wr (slO r)) q1 q2)
        obtain ⟨ao', ac', rfl⟩ := own_slice q1
        clear q1 q2
        go_wp2_with fail
        go_roundg (4 - (j + 1))
        case measure => omega
        case rel => exact ⟨j + 1, ao', ac', (by first | rfl | (simp; done) | (simp; omega)), rfl, by omega, Nat.le_refl _, H5⟩
    · obtain rfl : j = 4 := by omega
      clear hj4 hgg hj hcc
      have z0 : wr.cell? ⟨w.heap.size + 1 + 1, 0, none⟩ = some (.slice none 0 0) := (cell_of_heap HK.out.2.2.1).trans rfl
      have fz := thaw (k := 0) HK.out.2.2.1
      have hz := heap_lt HK.out.2.2.1
      have HF : Hid ((wr.setCell ⟨w.heap.size + 1 + 1, 0, none⟩ (.slice ao 4 ac)).heap[w.heap.size + 1 + 1]? = some (rbO (.slice ao 4 ac))) := Lib.hid (heap_setCell_same wr _ 0 _ _ _ HK.out.2.2.1)
      have HZ : Hid (RB (wr.setCell ⟨w.heap.size + 1 + 1, 0, none⟩ (.slice ao 4 ac)) (.slice ao 4 ac) T ∧ Below w.heap.size w (wr.setCell ⟨w.heap.size + 1 + 1, 0, none⟩ (.slice ao 4 ac))) := Lib.hid (by
        have hfar := fun k (hk : k ≠ w.heap.size + 1 + 1) => Below.heap_setCell wr ⟨w.heap.size + 1 + 1, 0, none⟩ (.slice ao 4 ac) k hk
        have hrow := RowIn.of_own HA.out.own (by rw [rsN_len]) (fun k => k ≠ w.heap.size + 1 + 1) (fun g hg e => by have := (HA.out.own.lt g hg).1; omega)
        rw [rsN_four] at hrow
        have hb := HK.out.2.2.2.1
        exact ⟨RowIn.keep hrow (fun k hk _ => hfar k hk) (by simp) (fun _ _ _ => trivial), ⟨hb.os, hb.tape, hb.output, by simpa using hb.size, fun k hk => (hfar k (by omega)).trans (hb.block k hk)⟩⟩)
      go_wp2_with fail
      refine bodyPost_ret (results_cell_row rfl _ _ (w.heap.size + 1 + 1) 28 _ (0, 0) _ rfl HF.out Try.underlying28 rfl (by kernel_rfl)) rfl ?_
      exact ⟨_, rfl, HZ.out.1, HZ.out.2⟩
end Go.Proofs.Ytgegphciaejkiaa
