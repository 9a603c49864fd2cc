/- read: calls 1, 5. -/
import Derived.Test.YtbmcmcdgdhabaaaDoorCpReadB
namespace Go.Proofs.YtbmcmcdgdhabaaaDoor
open Go.RowKit
set_option maxRecDepth 100000 in
set_option maxHeartbeats 3200000 in
theorem read1_any (D : Nat → Prop) (V : Value) (a0 a1 a2 : Int) (w : World) (h : NsIn w D V [a0, a1, a2]) :
    Calls Tryd.prog 16 #[.int .i64 1, V] w fun e w' => ReadAns w w' e (cp.read 1 [a0, a1, a2]) := by
  obtain ⟨o, cap, rfl, hle, hm, -⟩ := id h
  have HG := Lib.hid (GB.start w 1)
  have HH := Lib.hid (fun (W : World) (hb : Below w.heap.size w W) => RowIn.below h hb)
  obtain ⟨b, off, rfl, hb0, -⟩ := NsIn.cell h 0 (by simp)
  have hz0 : ¬ b = w.heap.size := by omega
  have hz1 : ¬ b = w.heap.size + 1 := by omega
  have hz2 : ¬ w.heap.size = b := by omega
  have hz3 : ¬ w.heap.size + 1 = b := by omega
  have HRD : Hid (cp.read 1 [a0, a1, a2] = ⟨⟨1, 0, 0, 0, 0, 0, a0, a1, a2⟩, 0, 0, S5.sg.right ⟨a0, a1, a2⟩⟩) := Lib.hid rfl
  generalize cp.read 1 [a0, a1, a2] = R0 at *
  clear h
  go_enter Tryd.func16, Tryd.ntmps16
  go_upto_region 8 with fail
  generalize (w.alloc (callO ⟨1, 0, 0, 0, 0, 0, 0, 0, 0⟩ (.slice none 0 0))).alloc (partO 0 0) = w2 at *
  obtain ⟨b', off', e0, hlb, c0⟩ := NsIn.cell (HH.out w2 HG.out.bel) 0 (by simp)
  obtain ⟨rfl, rfl⟩ : b = b' ∧ off = off' := by injection e0 with e0; injection e0 with e1 e2; exact ⟨e1, e2⟩
  clear e0 hlb
  obtain ⟨b', off', e1, hlb, c1⟩ := NsIn.cell (HH.out w2 HG.out.bel) 1 (by simp)
  obtain ⟨rfl, rfl⟩ : b = b' ∧ off = off' := by injection e1 with e1; injection e1 with e1 e2; exact ⟨e1, e2⟩
  clear e1 hlb
  obtain ⟨b', off', e2, hlb, c2⟩ := NsIn.cell (HH.out w2 HG.out.bel) 2 (by simp)
  obtain ⟨rfl, rfl⟩ : b = b' ∧ off = off' := by injection e2 with e2; injection e2 with e1 e2; exact ⟨e1, e2⟩
  clear e2
  dsimp only [List.getElem_cons_zero, List.getElem_cons_succ, Nat.add_zero] at c0 c1 c2
  have x6 : w2.cell? ⟨w.heap.size, 6, none⟩ = some (.int .i64 (0)) := (cell_of_heap HG.out.b0).trans rfl
  have f6 := thaw (k := 6) HG.out.b0
  have x7 : w2.cell? ⟨w.heap.size, 7, none⟩ = some (.int .i64 (0)) := (cell_of_heap HG.out.b0).trans rfl
  have f7 := thaw (k := 7) HG.out.b0
  have x8 : w2.cell? ⟨w.heap.size, 8, none⟩ = some (.int .i64 (0)) := (cell_of_heap HG.out.b0).trans rfl
  have f8 := thaw (k := 8) HG.out.b0
  have hl0 := heap_lt HG.out.b0
  have hl1 := heap_lt HG.out.b1
  go_cut [6] from 43 to 53 (fun s6 wx => s6 = .bool false ∧ Hid (GB w wx (cellsC ⟨1, 0, 0, 0, 0, 0, a0, a1, a2⟩) #[.int .i64 (0), .int .i64 (0)]))
  case first =>
    go_region_with fail
    all_goals
      go_wp2_with fail
      go_meet
      exact ⟨rfl, Lib.hid (GB.drew (((HG.out.set0 rfl).set0 rfl).set0 rfl))⟩
  case rest =>
  obtain ⟨rfl, HG3⟩ := hcut
  clear c0 c1 c2 hlb x6 f6 x7 f7 x8 f8 hl0 hl1 HG
  generalize wc = w3 at *
  obtain ⟨b', off', e0, hlb, c0⟩ := NsIn.cell (HH.out w3 HG3.out.bel) 0 (by simp)
  obtain ⟨rfl, rfl⟩ : b = b' ∧ off = off' := by injection e0 with e0; injection e0 with e1 e2; exact ⟨e1, e2⟩
  clear e0 hlb
  obtain ⟨b', off', e1, hlb, c1⟩ := NsIn.cell (HH.out w3 HG3.out.bel) 1 (by simp)
  obtain ⟨rfl, rfl⟩ : b = b' ∧ off = off' := by injection e1 with e1; injection e1 with e1 e2; exact ⟨e1, e2⟩
  clear e1 hlb
  obtain ⟨b', off', e2, hlb, c2⟩ := NsIn.cell (HH.out w3 HG3.out.bel) 2 (by simp)
  obtain ⟨rfl, rfl⟩ : b = b' ∧ off = off' := by injection e2 with e2; injection e2 with e1 e2; exact ⟨e1, e2⟩
  clear e2
  dsimp only [List.getElem_cons_zero, List.getElem_cons_succ, Nat.add_zero] at c0 c1 c2
  have x6 : w3.cell? ⟨w.heap.size, 6, none⟩ = some (.int .i64 (a0)) := (cell_of_heap HG3.out.b0).trans rfl
  have x7 : w3.cell? ⟨w.heap.size, 7, none⟩ = some (.int .i64 (a1)) := (cell_of_heap HG3.out.b0).trans rfl
  have x8 : w3.cell? ⟨w.heap.size, 8, none⟩ = some (.int .i64 (a2)) := (cell_of_heap HG3.out.b0).trans rfl
  have hl0 := heap_lt HG3.out.b0
  have hl1 := heap_lt HG3.out.b1
  go_wp2_with fail
  refine (S5.right_any a0 a1 a2 _).mono ?_
  rintro e w4 ⟨rfl, hb4⟩
  have HG4 := Lib.hid (HG3.out.next hb4)
  clear hb4
  generalize S5.sg.right ⟨a0, a1, a2⟩ = p0 at *
  go_upto_region 27 with fail
  have y0 : w4.cell? ⟨w.heap.size, 0, none⟩ = some (.int .i64 (1)) := (cell_of_heap HG4.out.b0).trans rfl
  have y1 : w4.cell? ⟨w.heap.size, 1, none⟩ = some (.int .i64 (0)) := (cell_of_heap HG4.out.b0).trans rfl
  have y2 : w4.cell? ⟨w.heap.size, 2, none⟩ = some (.int .i64 (0)) := (cell_of_heap HG4.out.b0).trans rfl
  have y3 : w4.cell? ⟨w.heap.size, 3, none⟩ = some (.int .i64 (0)) := (cell_of_heap HG4.out.b0).trans rfl
  have y4 : w4.cell? ⟨w.heap.size, 4, none⟩ = some (.int .i64 (0)) := (cell_of_heap HG4.out.b0).trans rfl
  have y5 : w4.cell? ⟨w.heap.size, 5, none⟩ = some (.int .i32 (0)) := (cell_of_heap HG4.out.b0).trans rfl
  have y6 : w4.cell? ⟨w.heap.size, 6, none⟩ = some (.int .i64 (a0)) := (cell_of_heap HG4.out.b0).trans rfl
  have y7 : w4.cell? ⟨w.heap.size, 7, none⟩ = some (.int .i64 (a1)) := (cell_of_heap HG4.out.b0).trans rfl
  have y8 : w4.cell? ⟨w.heap.size, 8, none⟩ = some (.int .i64 (a2)) := (cell_of_heap HG4.out.b0).trans rfl
  have y9 : w4.cell? ⟨w.heap.size, 9, none⟩ = some (.slice none 0 0) := (cell_of_heap HG4.out.b0).trans rfl
  have z0 : w4.cell? ⟨w.heap.size + 1, 0, none⟩ = some (.int .i64 (0)) := (cell_of_heap HG4.out.b1).trans rfl
  have z1 : w4.cell? ⟨w.heap.size + 1, 1, none⟩ = some (.int .i64 (0)) := (cell_of_heap HG4.out.b1).trans rfl
  have g0 := thaw (k := 0) HG4.out.b0
  have g1 := thaw (k := 1) HG4.out.b0
  have g2 := thaw (k := 2) HG4.out.b0
  have g3 := thaw (k := 3) HG4.out.b0
  have g4 := thaw (k := 4) HG4.out.b0
  have g5 := thaw (k := 5) HG4.out.b0
  have g6 := thaw (k := 6) HG4.out.b0
  have g7 := thaw (k := 7) HG4.out.b0
  have g8 := thaw (k := 8) HG4.out.b0
  have g9 := thaw (k := 9) HG4.out.b0
  have k0 := thaw (k := 0) HG4.out.b1
  have k1 := thaw (k := 1) HG4.out.b1
  have hl0 := heap_lt HG4.out.b0
  have hl1 := heap_lt HG4.out.b1
  have HF := Lib.hid (GB.all (c := ⟨1, 0, 0, 0, 0, 0, a0, a1, a2⟩) (x := 0) (l := 0) HG4.out)
  go_region_with fail
  all_goals
    go_wp2_with fail
    refine bodyPost_ret (results_cct rfl _ _ w.heap.size (w.heap.size + 1) 28 45 _ _ (0, 0) (0, 0) _ _ rfl HF.out.b0 Tryd.underlying28 rfl (by kernel_rfl) rfl HF.out.b1 Tryd.underlying45 rfl (by kernel_rfl)) rfl ?_
    rw [HRD.out]
    exact ⟨rfl, HF.out.bel⟩

set_option maxRecDepth 100000 in
set_option maxHeartbeats 3200000 in
theorem read5_any (D : Nat → Prop) (V : Value) (a0 a1 a2 : Int) (w : World) (h : NsIn w D V [a0, a1, a2]) :
    Calls Tryd.prog 16 #[.int .i64 5, V] w fun e w' => ReadAns w w' e (cp.read 5 [a0, a1, a2]) := by
  obtain ⟨o, cap, rfl, hle, hm, -⟩ := id h
  have HG := Lib.hid (GB.start w 5)
  have HH := Lib.hid (fun (W : World) (hb : Below w.heap.size w W) => RowIn.below h hb)
  obtain ⟨b, off, rfl, hb0, -⟩ := NsIn.cell h 0 (by simp)
  have hz0 : ¬ b = w.heap.size := by omega
  have hz1 : ¬ b = w.heap.size + 1 := by omega
  have hz2 : ¬ w.heap.size = b := by omega
  have hz3 : ¬ w.heap.size + 1 = b := by omega
  have HRD : Hid (cp.read 5 [a0, a1, a2] = ⟨⟨5, a0, 0, 0, 0, 0, 0, 0, 0⟩, a1, a2, cp.isPane a0 && cp.short a2⟩) := Lib.hid rfl
  generalize cp.read 5 [a0, a1, a2] = R0 at *
  clear h
  go_enter Tryd.func16, Tryd.ntmps16
  go_upto_region 15 with fail
  generalize (w.alloc (callO ⟨5, 0, 0, 0, 0, 0, 0, 0, 0⟩ (.slice none 0 0))).alloc (partO 0 0) = w2 at *
  obtain ⟨b', off', e0, hlb, c0⟩ := NsIn.cell (HH.out w2 HG.out.bel) 0 (by simp)
  obtain ⟨rfl, rfl⟩ : b = b' ∧ off = off' := by injection e0 with e0; injection e0 with e1 e2; exact ⟨e1, e2⟩
  clear e0 hlb
  obtain ⟨b', off', e1, hlb, c1⟩ := NsIn.cell (HH.out w2 HG.out.bel) 1 (by simp)
  obtain ⟨rfl, rfl⟩ : b = b' ∧ off = off' := by injection e1 with e1; injection e1 with e1 e2; exact ⟨e1, e2⟩
  clear e1 hlb
  obtain ⟨b', off', e2, hlb, c2⟩ := NsIn.cell (HH.out w2 HG.out.bel) 2 (by simp)
  obtain ⟨rfl, rfl⟩ : b = b' ∧ off = off' := by injection e2 with e2; injection e2 with e1 e2; exact ⟨e1, e2⟩
  clear e2
  dsimp only [List.getElem_cons_zero, List.getElem_cons_succ, Nat.add_zero] at c0 c1 c2
  have x1 : w2.cell? ⟨w.heap.size, 1, none⟩ = some (.int .i64 (0)) := (cell_of_heap HG.out.b0).trans rfl
  have f1 := thaw (k := 1) HG.out.b0
  have w0 : w2.cell? ⟨w.heap.size + 1, 0, none⟩ = some (.int .i64 (0)) := (cell_of_heap HG.out.b1).trans rfl
  have v0 := thaw (k := 0) HG.out.b1
  have w1 : w2.cell? ⟨w.heap.size + 1, 1, none⟩ = some (.int .i64 (0)) := (cell_of_heap HG.out.b1).trans rfl
  have v1 := thaw (k := 1) HG.out.b1
  have hl0 := heap_lt HG.out.b0
  have hl1 := heap_lt HG.out.b1
  go_cut [6] from 70 to 80 (fun s6 wx => s6 = .bool false ∧ Hid (GB w wx (cellsC ⟨5, a0, 0, 0, 0, 0, 0, 0, 0⟩) #[.int .i64 (a1), .int .i64 (a2)]))
  case first =>
    go_region_with fail
    all_goals
      go_wp2_with fail
      go_meet
      exact ⟨rfl, Lib.hid (GB.drew (((HG.out.set0 rfl).set1 rfl).set1 rfl))⟩
  case rest =>
  obtain ⟨rfl, HG3⟩ := hcut
  clear c0 c1 c2 hlb x1 f1 w0 v0 w1 v1 hl0 hl1 HG
  generalize wc = w3 at *
  obtain ⟨b', off', e0, hlb, c0⟩ := NsIn.cell (HH.out w3 HG3.out.bel) 0 (by simp)
  obtain ⟨rfl, rfl⟩ : b = b' ∧ off = off' := by injection e0 with e0; injection e0 with e1 e2; exact ⟨e1, e2⟩
  clear e0 hlb
  obtain ⟨b', off', e1, hlb, c1⟩ := NsIn.cell (HH.out w3 HG3.out.bel) 1 (by simp)
  obtain ⟨rfl, rfl⟩ : b = b' ∧ off = off' := by injection e1 with e1; injection e1 with e1 e2; exact ⟨e1, e2⟩
  clear e1 hlb
  obtain ⟨b', off', e2, hlb, c2⟩ := NsIn.cell (HH.out w3 HG3.out.bel) 2 (by simp)
  obtain ⟨rfl, rfl⟩ : b = b' ∧ off = off' := by injection e2 with e2; injection e2 with e1 e2; exact ⟨e1, e2⟩
  clear e2
  dsimp only [List.getElem_cons_zero, List.getElem_cons_succ, Nat.add_zero] at c0 c1 c2
  have w0 : w3.cell? ⟨w.heap.size + 1, 0, none⟩ = some (.int .i64 (a1)) := (cell_of_heap HG3.out.b1).trans rfl
  have w1 : w3.cell? ⟨w.heap.size + 1, 1, none⟩ = some (.int .i64 (a2)) := (cell_of_heap HG3.out.b1).trans rfl
  have hl0 := heap_lt HG3.out.b0
  have hl1 := heap_lt HG3.out.b1
  go_wp2_with fail
  refine (pane_any a0 _).mono ?_
  rintro e wS ⟨rfl, hw⟩
  replace hw := hw.symm
  subst hw
  generalize cp.isPane a0 = p0 at *
  cases p0
  case false =>
    go_upto_region 27 with fail
    have y0 : w3.cell? ⟨w.heap.size, 0, none⟩ = some (.int .i64 (5)) := (cell_of_heap HG3.out.b0).trans rfl
    have y1 : w3.cell? ⟨w.heap.size, 1, none⟩ = some (.int .i64 (a0)) := (cell_of_heap HG3.out.b0).trans rfl
    have y2 : w3.cell? ⟨w.heap.size, 2, none⟩ = some (.int .i64 (0)) := (cell_of_heap HG3.out.b0).trans rfl
    have y3 : w3.cell? ⟨w.heap.size, 3, none⟩ = some (.int .i64 (0)) := (cell_of_heap HG3.out.b0).trans rfl
    have y4 : w3.cell? ⟨w.heap.size, 4, none⟩ = some (.int .i64 (0)) := (cell_of_heap HG3.out.b0).trans rfl
    have y5 : w3.cell? ⟨w.heap.size, 5, none⟩ = some (.int .i32 (0)) := (cell_of_heap HG3.out.b0).trans rfl
    have y6 : w3.cell? ⟨w.heap.size, 6, none⟩ = some (.int .i64 (0)) := (cell_of_heap HG3.out.b0).trans rfl
    have y7 : w3.cell? ⟨w.heap.size, 7, none⟩ = some (.int .i64 (0)) := (cell_of_heap HG3.out.b0).trans rfl
    have y8 : w3.cell? ⟨w.heap.size, 8, none⟩ = some (.int .i64 (0)) := (cell_of_heap HG3.out.b0).trans rfl
    have y9 : w3.cell? ⟨w.heap.size, 9, none⟩ = some (.slice none 0 0) := (cell_of_heap HG3.out.b0).trans rfl
    have z0 : w3.cell? ⟨w.heap.size + 1, 0, none⟩ = some (.int .i64 (a1)) := (cell_of_heap HG3.out.b1).trans rfl
    have z1 : w3.cell? ⟨w.heap.size + 1, 1, none⟩ = some (.int .i64 (a2)) := (cell_of_heap HG3.out.b1).trans rfl
    have g0 := thaw (k := 0) HG3.out.b0
    have g1 := thaw (k := 1) HG3.out.b0
    have g2 := thaw (k := 2) HG3.out.b0
    have g3 := thaw (k := 3) HG3.out.b0
    have g4 := thaw (k := 4) HG3.out.b0
    have g5 := thaw (k := 5) HG3.out.b0
    have g6 := thaw (k := 6) HG3.out.b0
    have g7 := thaw (k := 7) HG3.out.b0
    have g8 := thaw (k := 8) HG3.out.b0
    have g9 := thaw (k := 9) HG3.out.b0
    have k0 := thaw (k := 0) HG3.out.b1
    have k1 := thaw (k := 1) HG3.out.b1
    have hl0 := heap_lt HG3.out.b0
    have hl1 := heap_lt HG3.out.b1
    have HF := Lib.hid (GB.all (c := ⟨5, a0, 0, 0, 0, 0, 0, 0, 0⟩) (x := a1) (l := a2) HG3.out)
    go_region_with fail
    all_goals
      go_wp2_with fail
      refine bodyPost_ret (results_cct rfl _ _ w.heap.size (w.heap.size + 1) 28 45 _ _ (0, 0) (0, 0) _ _ rfl HF.out.b0 Tryd.underlying28 rfl (by kernel_rfl) rfl HF.out.b1 Tryd.underlying45 rfl (by kernel_rfl)) rfl ?_
      rw [HRD.out]
      exact ⟨rfl, HF.out.bel⟩
  case true =>
  go_wp2_with fail
  refine (short_any a1 a2 _).mono ?_
  rintro e w4 ⟨rfl, hb4⟩
  have HG4 := Lib.hid (HG3.out.next hb4)
  clear hb4
  generalize cp.short a2 = p1 at *
  go_upto_region 27 with fail
  have y0 : w4.cell? ⟨w.heap.size, 0, none⟩ = some (.int .i64 (5)) := (cell_of_heap HG4.out.b0).trans rfl
  have y1 : w4.cell? ⟨w.heap.size, 1, none⟩ = some (.int .i64 (a0)) := (cell_of_heap HG4.out.b0).trans rfl
  have y2 : w4.cell? ⟨w.heap.size, 2, none⟩ = some (.int .i64 (0)) := (cell_of_heap HG4.out.b0).trans rfl
  have y3 : w4.cell? ⟨w.heap.size, 3, none⟩ = some (.int .i64 (0)) := (cell_of_heap HG4.out.b0).trans rfl
  have y4 : w4.cell? ⟨w.heap.size, 4, none⟩ = some (.int .i64 (0)) := (cell_of_heap HG4.out.b0).trans rfl
  have y5 : w4.cell? ⟨w.heap.size, 5, none⟩ = some (.int .i32 (0)) := (cell_of_heap HG4.out.b0).trans rfl
  have y6 : w4.cell? ⟨w.heap.size, 6, none⟩ = some (.int .i64 (0)) := (cell_of_heap HG4.out.b0).trans rfl
  have y7 : w4.cell? ⟨w.heap.size, 7, none⟩ = some (.int .i64 (0)) := (cell_of_heap HG4.out.b0).trans rfl
  have y8 : w4.cell? ⟨w.heap.size, 8, none⟩ = some (.int .i64 (0)) := (cell_of_heap HG4.out.b0).trans rfl
  have y9 : w4.cell? ⟨w.heap.size, 9, none⟩ = some (.slice none 0 0) := (cell_of_heap HG4.out.b0).trans rfl
  have z0 : w4.cell? ⟨w.heap.size + 1, 0, none⟩ = some (.int .i64 (a1)) := (cell_of_heap HG4.out.b1).trans rfl
  have z1 : w4.cell? ⟨w.heap.size + 1, 1, none⟩ = some (.int .i64 (a2)) := (cell_of_heap HG4.out.b1).trans rfl
  have g0 := thaw (k := 0) HG4.out.b0
  have g1 := thaw (k := 1) HG4.out.b0
  have g2 := thaw (k := 2) HG4.out.b0
  have g3 := thaw (k := 3) HG4.out.b0
  have g4 := thaw (k := 4) HG4.out.b0
  have g5 := thaw (k := 5) HG4.out.b0
  have g6 := thaw (k := 6) HG4.out.b0
  have g7 := thaw (k := 7) HG4.out.b0
  have g8 := thaw (k := 8) HG4.out.b0
  have g9 := thaw (k := 9) HG4.out.b0
  have k0 := thaw (k := 0) HG4.out.b1
  have k1 := thaw (k := 1) HG4.out.b1
  have hl0 := heap_lt HG4.out.b0
  have hl1 := heap_lt HG4.out.b1
  have HF := Lib.hid (GB.all (c := ⟨5, a0, 0, 0, 0, 0, 0, 0, 0⟩) (x := a1) (l := a2) HG4.out)
  go_region_with fail
  all_goals
    go_wp2_with fail
    refine bodyPost_ret (results_cct rfl _ _ w.heap.size (w.heap.size + 1) 28 45 _ _ (0, 0) (0, 0) _ _ rfl HF.out.b0 Tryd.underlying28 rfl (by kernel_rfl) rfl HF.out.b1 Tryd.underlying45 rfl (by kernel_rfl)) rfl ?_
    rw [HRD.out]
    exact ⟨rfl, HF.out.bel⟩

end Go.Proofs.YtbmcmcdgdhabaaaDoor
