/- does: Take. -/
import Derived.Test.YtgegphciaejkiaaBuDoes
namespace Go.Proofs.Ytgegphciaejkiaa
open Go.RowKit
set_option maxRecDepth 100000 in
set_option maxHeartbeats 3200000 in
theorem does6_any (q : Nat) (S : Nat → bu.Slot) (V : Nat → Value) (o : Option Addr) (n cap : Nat) (x : bu.Op) (w : World) (h : BuAt w q S V) (hm : RowIn w (fun k => ¬ Own q V k) (.slice o n cap) 4 4 (rsC fun _ => RSl.zero)) (hk : x.kind = 6) (hn : ∀ i, i < 4 → (S i).queue.length ≤ 16) : Calls Try.prog 10 #[.pointer (some ⟨q, 0, none⟩), .agg #[.slice o n cap], opV x] w fun e w' => ∃ v b, e = .returned (.tuple #[v, .bool b]) ∧ BuR q V w w' (bu.takeR S x.p).2 := by
  have HKI := Lib.hid hk
  clear hk
  obtain ⟨RES, hRE⟩ : ∃ R, (bu.takeR S x.p).2 = R := ⟨_, rfl⟩
  rw [hRE]
  have HRE := Lib.hid hRE
  clear hRE
  have a1 := heap_alloc_new w (rbO (.slice o n cap))
  have b1 := below_one w (rbO (.slice o n cap))
  have a2 := heap_alloc_new (w.alloc (rbO (.slice o n cap))) (opO x)
  have b2 := below_one (w.alloc (rbO (.slice o n cap))) (opO x)
  have a3 := heap_alloc_new ((w.alloc (rbO (.slice o n cap))).alloc (opO x)) (rbO (.slice none 0 0))
  have b3 := below_one ((w.alloc (rbO (.slice o n cap))).alloc (opO x)) (rbO (.slice none 0 0))
  rw [World.size_alloc] at a2
  rw [World.size_alloc, World.size_alloc] at a3
  have a1' := (b3.block _ (by simp; omega)).trans ((b2.block _ (heap_lt a1)).trans a1)
  have a2' := (b3.block _ (heap_lt a2)).trans a2
  have bb := b1.trans ((b2.trans (b3.mono b2.size)).mono b1.size)
  have HB := Lib.hid (And.intro a1' (And.intro a2' (And.intro a3 (And.intro bb (RowIn.below hm bb)))))
  have HH := Lib.hid h
  have hsz : (((w.alloc (rbO (.slice o n cap))).alloc (opO x)).alloc (rbO (.slice none 0 0))).heap.size = w.heap.size + 3 := by simp
  clear a1 a2 a3 a1' a2' b1 b2 b3 bb hm h
  go_enter Try.func10, Try.ntmps10
  go_upto_region 1 with fail
  obtain ⟨W, hW⟩ : ∃ W, ((w.alloc (rbO (.slice o n cap))).alloc (opO x)).alloc (rbO (.slice none 0 0)) = W := ⟨_, rfl⟩
  rw [hW] at HB hsz
  change Code.wp _ _ _ _ (((w.alloc (rbO (.slice o n cap))).alloc (opO x)).alloc (rbO (.slice none 0 0)))
  rw [hW]
  clear hW
  have c0 : W.cell? ⟨w.heap.size, 0, none⟩ = some (.slice o n cap) := (cell_of_heap HB.out.1).trans rfl
  have c1 : W.cell? ⟨w.heap.size + 1, 1, none⟩ = some (.int .i64 x.p) := (cell_of_heap HB.out.2.1).trans rfl
  have l0 := heap_lt HB.out.1
  have l1 := heap_lt HB.out.2.1
  have HG := Lib.hid (rget_any (.slice o n cap) (fun _ => RSl.zero) x.p W (RowIn.wide HB.out.2.2.2.2 (fun _ _ _ => trivial)))
  rw [show rget (fun _ => RSl.zero) x.p = RSl.zero by unfold rget; split <;> rfl] at HG
  go_wp2_with fail
  refine HG.out.mono ?_
  rintro e w4 ⟨rfl, hb4⟩
  have hb5 := hb4.trans ((below_one w4 (slO RSl.zero)).mono hb4.size)
  have k1 := (hb5.block _ (heap_lt HB.out.1)).trans HB.out.1
  have k2 := (hb5.block _ (heap_lt HB.out.2.1)).trans HB.out.2.1
  have k3 := (hb5.block _ (heap_lt HB.out.2.2.1)).trans HB.out.2.2.1
  have hn8 := heap_alloc_new w4 (slO RSl.zero)
  have hs4 := hb4.size
  have HK := Lib.hid (And.intro k1 (And.intro k2 (And.intro k3 (And.intro (HB.out.2.2.2.1.trans (hb5.mono HB.out.2.2.2.1.size)) (And.intro (RowIn.below HB.out.2.2.2.2 hb5) hn8)))))
  go_upto_region 2 with fail
  obtain ⟨W5, hW⟩ : ∃ W, w4.alloc (slO RSl.zero) = W := ⟨_, rfl⟩
  rw [hW] at HK
  change Code.wp _ _ _ _ (w4.alloc (slO RSl.zero))
  rw [hW]
  have hs5 : w.heap.size + 3 < W5.heap.size := by rw [← hW, World.size_alloc]; omega
  have hs8 : w.heap.size + 3 ≤ w4.heap.size := by omega
  clear hW k1 k2 k3 hn8 hb4 hb5 c0 c1 l0 l1 HG HB hsz hs4
  generalize w4.heap.size = b8 at *
  have c0 : W5.cell? ⟨w.heap.size, 0, none⟩ = some (.slice o n cap) := (cell_of_heap HK.out.1).trans rfl
  have x0 : W5.cell? ⟨w.heap.size + 1, 0, none⟩ = some (.int .i64 x.kind) := (cell_of_heap HK.out.2.1).trans rfl
  have x1 : W5.cell? ⟨w.heap.size + 1, 1, none⟩ = some (.int .i64 x.p) := (cell_of_heap HK.out.2.1).trans rfl
  have o0 : W5.cell? ⟨b8, 0, none⟩ = some (.bool false) := (cell_of_heap HK.out.2.2.2.2.2).trans rfl
  have l0 := heap_lt HK.out.1
  have l1 := heap_lt HK.out.2.1
  have l8 := heap_lt HK.out.2.2.2.2.2
  have HLT := Lib.hid (fun y (hy : Own q V y) => (HH.out.own_lt hy).2)
  rw [HKI.out] at x0
  obtain ⟨TR, hTR⟩ : ∃ R, bu.takeR S x.p = R := ⟨_, rfl⟩
  have HC := Lib.hid (takeP_any q S V x.p W5 (HH.out.below HK.out.2.2.2.1) hn)
  rw [hTR] at HRE HC
  clear hn hTR
  go_wp2_with fail
  refine HC.out.mono ?_
  rintro e w6 ⟨rfl, rk⟩
  have r := rk.toR
  clear rk
  have HE := Lib.hid (fun (w7 : World) (h7 : Below w6.heap.size w6 w7) X => does_end HH.out HK.out.2.2.2.1 r h7 (w.heap.size + 1 + 1) (by omega) (by omega) X)
  have k1 := box_stays HLT.out r (Nat.le_refl _) HK.out.1
  have k2 := box_stays HLT.out r (by omega) HK.out.2.1
  have k3 := box_stays HLT.out r (by omega) HK.out.2.2.1
  have k8 := box_stays HLT.out r (by omega) HK.out.2.2.2.2.2
  obtain ⟨T1, T2⟩ := TR
  cases T1 with
  | none =>
    dsimp only [Option.getD, Option.isSome]
    have hb7 := below_one w6 (evO bu.evZ)
    have hn9 := heap_alloc_new w6 (evO bu.evZ)
    have HK7 := Lib.hid (And.intro ((hb7.block _ (heap_lt k1)).trans k1) (And.intro ((hb7.block _ (heap_lt k3)).trans k3) (And.intro ((hb7.block _ (heap_lt k8)).trans k8) (And.intro hn9 hb7))))
    clear c0 l0 l1 l8 o0 x0 x1 k1 k2 k3 k8 hb7 hn9
    go_upto_region 43 with fail
    obtain ⟨W7, hW⟩ : ∃ W, w6.alloc (evO bu.evZ) = W := ⟨_, rfl⟩
    rw [hW] at HK7
    change Code.wp _ _ _ _ (w6.alloc (evO bu.evZ))
    rw [hW]
    have hs9 : w.heap.size + 3 < w6.heap.size := by
      obtain ⟨_, -, fr, -⟩ := id r
      have := fr.size
      omega
    clear hW r
    have HE7 := Lib.hid (HE.out W7.drew (HK7.out.2.2.2.2.trans ((below_dN (Below.refl _ _) 1 : Below W7.heap.size W7 W7.drew).mono HK7.out.2.2.2.2.size)))
    clear HE
    generalize w6.heap.size = b9 at *
    have c0 : W7.cell? ⟨w.heap.size, 0, none⟩ = some (.slice o n cap) := (cell_of_heap HK7.out.1).trans rfl
    have l0 := heap_lt HK7.out.1
    have z0 : W7.cell? ⟨w.heap.size + 1 + 1, 0, none⟩ = some (.slice none 0 0) := (cell_of_heap HK7.out.2.1).trans rfl
    have fz := thaw (k := 0) HK7.out.2.1
    have lz := heap_lt HK7.out.2.1
    have q2 : W7.cell? ⟨b8, 2, none⟩ = some (.slice none 0 0) := (cell_of_heap HK7.out.2.2.1).trans rfl
    have l8 := heap_lt HK7.out.2.2.1
    have y0 : W7.cell? ⟨b9, 0, none⟩ = some (.int .i64 0) := (cell_of_heap HK7.out.2.2.2.1).trans rfl
    have y1 : W7.cell? ⟨b9, 1, none⟩ = some (.int .i64 0) := (cell_of_heap HK7.out.2.2.2.1).trans rfl
    have y2 : W7.cell? ⟨b9, 2, none⟩ = some (.int .i64 0) := (cell_of_heap HK7.out.2.2.2.1).trans rfl
    have y3 : W7.cell? ⟨b9, 3, none⟩ = some (.string ⟨#[]⟩) := (cell_of_heap HK7.out.2.2.2.1).trans rfl
    have l9 := heap_lt HK7.out.2.2.2.1
    have HF := Lib.hid (fun (X : Value) => (heap_setCell_same W7.drew _ 0 _ _ _ HK7.out.2.1 : (W7.drew.setCell ⟨w.heap.size + 1 + 1, 0, none⟩ X).heap[w.heap.size + 1 + 1]? = some (rbO X)))
    go_upto_region 44 with fail
    clear q2 l8
    have n1 : b9 ≠ w.heap.size + 1 + 1 := by omega
    have n2 : w.heap.size ≠ w.heap.size + 1 + 1 := by omega
    go_region
    all_goals go_wp2_with fail
    all_goals
      refine bodyPost_ret (results_row_tmp rfl _ _ (w.heap.size + 1 + 1) 28 _ (0, 0) _ rfl (HF.out _) Try.underlying28 rfl (by kernel_rfl)) rfl ?_
      exact ⟨⟨_, by first | exact .inl rfl | exact .inr rfl⟩, by rw [← HRE.out]; exact HE7.out _⟩
  | some ev =>
    dsimp only [Option.getD, Option.isSome]
    have hb7 := below_one w6 (evO ev)
    have hn9 := heap_alloc_new w6 (evO ev)
    have HK7 := Lib.hid (And.intro ((hb7.block _ (heap_lt k1)).trans k1) (And.intro ((hb7.block _ (heap_lt k3)).trans k3) (And.intro ((hb7.block _ (heap_lt k8)).trans k8) (And.intro hn9 hb7))))
    clear c0 l0 l1 l8 o0 x0 x1 k1 k2 k3 k8 hb7 hn9
    go_upto_region 43 with fail
    obtain ⟨W7, hW⟩ : ∃ W, w6.alloc (evO ev) = W := ⟨_, rfl⟩
    rw [hW] at HK7
    change Code.wp _ _ _ _ (w6.alloc (evO ev))
    rw [hW]
    have hs9 : w.heap.size + 3 < w6.heap.size := by
      obtain ⟨_, -, fr, -⟩ := id r
      have := fr.size
      omega
    clear hW r
    have HE7 := Lib.hid (HE.out W7.drew (HK7.out.2.2.2.2.trans ((below_dN (Below.refl _ _) 1 : Below W7.heap.size W7 W7.drew).mono HK7.out.2.2.2.2.size)))
    clear HE
    generalize w6.heap.size = b9 at *
    have c0 : W7.cell? ⟨w.heap.size, 0, none⟩ = some (.slice o n cap) := (cell_of_heap HK7.out.1).trans rfl
    have l0 := heap_lt HK7.out.1
    have z0 : W7.cell? ⟨w.heap.size + 1 + 1, 0, none⟩ = some (.slice none 0 0) := (cell_of_heap HK7.out.2.1).trans rfl
    have fz := thaw (k := 0) HK7.out.2.1
    have lz := heap_lt HK7.out.2.1
    have q2 : W7.cell? ⟨b8, 2, none⟩ = some (.slice none 0 0) := (cell_of_heap HK7.out.2.2.1).trans rfl
    have l8 := heap_lt HK7.out.2.2.1
    have y0 : W7.cell? ⟨b9, 0, none⟩ = some (.int .i64 (ev : bu.Ev).kind) := (cell_of_heap HK7.out.2.2.2.1).trans rfl
    have y1 : W7.cell? ⟨b9, 1, none⟩ = some (.int .i64 (ev : bu.Ev).a) := (cell_of_heap HK7.out.2.2.2.1).trans rfl
    have y2 : W7.cell? ⟨b9, 2, none⟩ = some (.int .i64 (ev : bu.Ev).b) := (cell_of_heap HK7.out.2.2.2.1).trans rfl
    have y3 : W7.cell? ⟨b9, 3, none⟩ = some (.string (ev : bu.Ev).text) := (cell_of_heap HK7.out.2.2.2.1).trans rfl
    have l9 := heap_lt HK7.out.2.2.2.1
    have HF := Lib.hid (fun (X : Value) => (heap_setCell_same W7.drew _ 0 _ _ _ HK7.out.2.1 : (W7.drew.setCell ⟨w.heap.size + 1 + 1, 0, none⟩ X).heap[w.heap.size + 1 + 1]? = some (rbO X)))
    go_upto_region 44 with fail
    clear q2 l8
    have n1 : b9 ≠ w.heap.size + 1 + 1 := by omega
    have n2 : w.heap.size ≠ w.heap.size + 1 + 1 := by omega
    go_region
    all_goals go_wp2_with fail
    all_goals
      refine bodyPost_ret (results_row_tmp rfl _ _ (w.heap.size + 1 + 1) 28 _ (0, 0) _ rfl (HF.out _) Try.underlying28 rfl (by kernel_rfl)) rfl ?_
      exact ⟨⟨_, by first | exact .inl rfl | exact .inr rfl⟩, by rw [← HRE.out]; exact HE7.out _⟩
end Go.Proofs.Ytgegphciaejkiaa
