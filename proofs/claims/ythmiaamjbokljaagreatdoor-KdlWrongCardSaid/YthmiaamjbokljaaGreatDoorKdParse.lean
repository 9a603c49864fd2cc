/- Parse: the contracts of list, node and kids at every fuel; Parse as kd.parse says. -/
import Derived.Test.YthmiaamjbokljaaGreatDoorKdList
import Derived.Test.YthmiaamjbokljaaGreatDoorKdLim
namespace Go.Proofs.YthmiaamjbokljaaGreatDoor
open Go.RowKit
theorem all_ct (f : Nat) : ListC f ∧ NodeCt f ∧ KidsCt f := by
  induction f using Nat.strongRecOn with
  | ind f ih =>
    have hL : ListC f := list_ct f fun f' hf => (ih f' hf).2.1
    refine ⟨hL, ?_, ?_⟩
    · cases f with
      | zero => intro p e d s o cap w _ _ _ hf _; omega
      | succ f => exact node_ct f (ih f (Nat.lt_succ_self f)).2.2
    · cases f with
      | zero => intro p q e d nm VA VP s o cap w _ _ _ _ _ hf _; omega
      | succ f => exact kids_ct f (ih f (Nat.lt_succ_self f)).1
set_option maxRecDepth 100000 in
set_option maxHeartbeats 800000 in
/-- Tokens, of texts however long -/
theorem tokens_all (s : List UInt8) (w : World) (ht : TT w) :
    Calls Tryz.prog 18 #[str s] w fun e w' => ∃ V, e = .returned (.tuple #[V, .agg #[.int .i64 (tk.tokens s).2.1, .int .i64 (tk.tokens s).2.2]]) ∧ w'.ownsRow w.heap.size 82 4 V (tk.tokens s).1.length (tokC (tk.tokens s).1) ∧ Below w.heap.size w w' := by
  by_cases hl : s.length ≤ 1048576
  · exact tokens_any s w ht hl
  · have hsz := str_size s
    have hT : tk.tokens s = ([], 2, 0) := by unfold tk.tokens; rw [if_pos (by omega)]
    rw [hT]
    have hli : (4096 : Int) < (s.length : Int) := by omega
    have hg := heap_alloc_new w (.cells #[.int .i64 2, .int .i64 0] 30)
    have HF := Lib.hid (And.intro hg (below_one w (.cells #[.int .i64 2, .int .i64 0] 30)))
    clear hg hT hl
    go_enter Tryz.func18, Tryz.ntmps18
    go_wp2_with fail
    refine bodyPost_ret (results_tmp_row rfl _ _ w.heap.size 30 _ (0, 0) _ rfl HF.out.1 Tryz.underlying30 rfl (by kernel_rfl)) rfl ?_
    exact ⟨_, rfl, World.ownsRow_nil _ _ _ _, HF.out.2⟩
theorem Fr.below_of {p : Nat} {w w' : World} (h : Fr (· = p) w w') (B : Nat) (hB : B ≤ w.heap.size) (hp : B ≤ p) : Below B w w' :=
  h.to_below B hB fun k hk e => by have : k = p := e; omega
set_option maxRecDepth 100000 in
set_option maxHeartbeats 3200000 in
theorem kparse_any (s : List UInt8) (w : World) (ht : TT w) :
    Calls Tryz.prog 11 #[str s] w fun ev w' => ∃ V, ev = .returned (.tuple #[V, .agg #[.int .i64 (kd.parse s).2.1, .int .i64 (kd.parse s).2.2]]) ∧ NodesIn w' (Up w.heap.size) V (kd.parse s).1 ∧ Below w.heap.size w w' := by
  have hsz := str_size s
  have h3 := ht.lt
  have hb0 := below_one w (.cells #[.int .i64 0, .int .i64 0] 30)
  have HT := Lib.hid (tokens_all s (w.alloc (.cells #[.int .i64 0, .int .i64 0] 30)) (ht.below hb0 h3))
  rw [World.size_alloc] at HT
  have HFI := Lib.hid (tk.tokens_fine s)
  have HPD : Hid (kd.parse s = if (tk.tokens s).2.1 ≠ 0 then ([], (tk.tokens s).2.1, (tk.tokens s).2.2) else match kd.list s.length (3 * (tk.tokens s).1.length + 4) 0 { toks := (tk.tokens s).1 } [] with
    | .ok ns _ => (ns, 0, 0)
    | .bad c x _ => ([], c, x)) := Lib.hid rfl
  have HB0 := Lib.hid hb0
  have HF0 := Lib.hid (heap_alloc_new w (.cells #[.int .i64 0, .int .i64 0] 30))
  generalize kd.parse s = P at *
  rcases hTK : tk.tokens s with ⟨tl, tc, tx⟩
  rw [hTK] at HT HFI HPD
  dsimp only at HT HFI HPD
  obtain ⟨n, hn⟩ : ∃ n, s.length = n := ⟨_, rfl⟩
  rw [hn] at hsz HPD
  clear ht hb0 hTK hn
  generalize hw0 : w.alloc (.cells #[.int .i64 0, .int .i64 0] 30) = w0 at *
  have hs0 : w0.heap.size = w.heap.size + 1 := by rw [← hw0]; simp
  clear hs0
  go_enter Tryz.func11, Tryz.ntmps11
  go_wp2_with fail
  clear hw0
  refine HT.out.mono ?_
  rintro ev w1 ⟨V, rfl, hrow, hb1⟩
  obtain ⟨ao, ac, rfl⟩ := own_slice hrow
  have hlo : ∀ a, ao = some a → a.block < w1.heap.size := fun a ha => by
    subst ha
    rcases hrow.2 with ⟨e, _⟩ | ⟨g, cap, cur, e, hB, hg, _⟩
    · cases e
    · obtain ⟨e1, -, -⟩ := Value.slice.inj e
      obtain rfl := Option.some.inj e1
      exact heap_lt hg
  have hf1 := (hb1.block w.heap.size (Nat.lt_succ_self _)).trans HF0.out
  have hB1 := HB0.out.trans (hb1.mono (Nat.le_succ _))
  have hb2 := below_one w1 (.cells #[.int .i64 tc, .int .i64 tx] 30)
  have hf2 := (hb2.block _ (heap_lt hf1)).trans hf1
  have hT2 := heap_alloc_new w1 (.cells #[.int .i64 tc, .int .i64 tx] 30)
  have hB2 := hB1.trans (hb2.mono hB1.size)
  have HROW := Lib.hid (TkIn.row (row_below hrow hb2))
  have hm1 : w.heap.size < w1.heap.size := heap_lt hf1
  have HLO := Lib.hid hlo
  have HF2 := Lib.hid hf2
  have HB2 := Lib.hid hB2
  clear hrow hb1 hb2 hf1 hB1 HT hlo hB2
  go_upto_region 2 with fail
  have hsz2 : w1.heap.size < (w1.alloc (.cells #[.int .i64 tc, .int .i64 tx] 30)).heap.size := by simp
  generalize w1.alloc (.cells #[.int .i64 tc, .int .i64 tx] 30) = w2 at *
  generalize w1.heap.size = g5 at *
  obtain ⟨q0, q1, _, _, hqu⟩ := fault_cells hT2
  obtain ⟨d0, d1, e0, e1, hfu⟩ := fault_cells hf2
  clear hT2 hf2
  by_cases hc : tc = 0
  case neg =>
    have hci : ((tc : Int) == 0) = false := by simp; omega
    have HE : Hid (P = ([], tc, tx)) := Lib.hid (by rw [HPD.out, if_pos hc])
    have HD := Lib.hid (And.intro (row_drew (setFault_at HF2.out tc tx)) ((HB2.out.setCell (show w.heap.size ≤ (⟨w.heap.size, 0, none⟩ : Addr).block from Nat.le_refl _) (.int .i64 tc)).setCell (show w.heap.size ≤ (⟨w.heap.size, 1, none⟩ : Addr).block from Nat.le_refl _) (.int .i64 tx)).drew)
    clear HPD hc
    go_wp2_with fail
    go_region
    all_goals go_wp2_with fail
    all_goals
      refine bodyPost_ret (results_tmp_row rfl _ _ w.heap.size 30 _ (0, 0) _ rfl HD.out.1 Tryz.underlying30 rfl (by kernel_rfl)) rfl ?_
      rw [HE.out]
      exact ⟨_, rfl, ⟨[], RowIn.nil _ _ _, by unfold NodesC; rfl⟩, HD.out.2⟩
  case pos =>
    subst hc
    obtain ⟨L, hL⟩ : ∃ L, kd.list n (3 * tl.length + 4) 0 { toks := tl } [] = L := ⟨_, rfl⟩
    have hPD := HPD.out
    rw [if_neg (by simp), hL] at hPD
    clear HPD
    have HPD := Lib.hid hPD
    have hb3 := below_one w2 (.cells #[.slice ao tl.length ac, .int .i64 n, .int .i64 0] 63)
    have hPR : PrAt (w2.alloc (.cells #[.slice ao tl.length ac, .int .i64 n, .int .i64 0] 63)) w2.heap.size n { toks := tl } ao ac := ⟨heap_alloc_new _ _, HROW.out.below hb3, fun a ha => Nat.lt_trans (HLO.out a ha) hsz2⟩
    have HLC := Lib.hid ((all_ct (3 * tl.length + 4)).1 w2.heap.size n 0 { toks := tl } ao ac _ hPR ⟨by have := HFI.out.2; dsimp only; omega, fun t ht => by have := (HFI.out.1 t ht).2; omega⟩ (Nat.zero_le _) (by dsimp only; omega) (Nat.zero_le _))
    rw [hL, show ((0 : Nat) : Int) = 0 from rfl] at HLC
    have HF3 := Lib.hid ((hb3.block _ hfu).trans HF2.out)
    have HB3 := Lib.hid (HB2.out.trans (hb3.mono HB2.out.size))
    clear hb3 hPR hL hPD d0 d1 e0 e1 HFI HLO HROW
    go_wp2_with fail
    have hw3 : w2.heap.size < (w2.alloc (.cells #[.slice ao tl.length ac, .int .i64 n, .int .i64 0] 63)).heap.size := by simp
    generalize w2.alloc (.cells #[.slice ao tl.length ac, .int .i64 n, .int .i64 0] 63) = w3 at *
    refine HLC.out.mono ?_
    intro ev w4 hev
    cases hLc : L with
    | bad c x y =>
      rw [hLc] at hev
      obtain ⟨rfl, hfr, hcc⟩ := hev
      have hf4 := (hfr.block w.heap.size (heap_lt HF3.out) (show ¬ w.heap.size = w2.heap.size by omega)).trans HF3.out
      have hB4 := HB3.out.trans (hfr.below_of w.heap.size HB3.out.size (by omega))
      have HE : Hid (P = ([], c, x)) := Lib.hid (by rw [HPD.out, hLc])
      have HD := Lib.hid (And.intro (setFault_at hf4 c x) ((hB4.setCell (show w.heap.size ≤ (⟨w.heap.size, 0, none⟩ : Addr).block from Nat.le_refl _) (.int .i64 c)).setCell (show w.heap.size ≤ (⟨w.heap.size, 1, none⟩ : Addr).block from Nat.le_refl _) (.int .i64 x)))
      obtain ⟨d0, d1, e0, e1, hfu4⟩ := fault_cells hf4
      clear hf4 hB4 hfr hcc HPD hLc HLC
      go_wp2_with fail
      refine bodyPost_ret (results_tmp_row rfl _ _ w.heap.size 30 _ (0, 0) _ rfl HD.out.1 Tryz.underlying30 rfl (by kernel_rfl)) rfl ?_
      rw [HE.out]
      exact ⟨_, rfl, ⟨[], RowIn.nil _ _ _, by unfold NodesC; rfl⟩, HD.out.2⟩
    | ok N s1 =>
      rw [hLc] at hev
      obtain ⟨V, rfl, hfr, -, hN⟩ := hev
      have hf4 := (hfr.block w.heap.size (heap_lt HF3.out) (show ¬ w.heap.size = w2.heap.size by omega)).trans HF3.out
      have hB4 := HB3.out.trans (hfr.below_of w.heap.size HB3.out.size (by omega))
      have HE : Hid (P = (N, 0, 0)) := Lib.hid (by rw [HPD.out, hLc])
      have HD := Lib.hid (And.intro (setFault_at hf4 0 0) ((hB4.setCell (show w.heap.size ≤ (⟨w.heap.size, 0, none⟩ : Addr).block from Nat.le_refl _) (.int .i64 0)).setCell (show w.heap.size ≤ (⟨w.heap.size, 1, none⟩ : Addr).block from Nat.le_refl _) (.int .i64 0)))
      have HNN := Lib.hid (((hN.set ⟨w.heap.size, 0, none⟩ (.int .i64 0) (show ¬ w3.heap.size ≤ w.heap.size by omega)).set ⟨w.heap.size, 1, none⟩ (.int .i64 0) (show ¬ w3.heap.size ≤ w.heap.size by omega)).wider (D' := Up w.heap.size) (fun k hk => by have : w3.heap.size ≤ k := hk; show w.heap.size ≤ k; omega))
      obtain ⟨oV, cV, rfl⟩ := hN.slice
      obtain ⟨d0, d1, e0, e1, hfu4⟩ := fault_cells hf4
      clear hf4 hB4 hfr HPD hLc HLC hN
      go_wp2_with fail
      refine bodyPost_ret (results_tmp_row rfl _ _ w.heap.size 30 _ (0, 0) _ rfl HD.out.1 Tryz.underlying30 rfl (by kernel_rfl)) rfl ?_
      rw [HE.out]
      exact ⟨_, rfl, HNN.out, HD.out.2⟩
end Go.Proofs.YthmiaamjbokljaaGreatDoor
