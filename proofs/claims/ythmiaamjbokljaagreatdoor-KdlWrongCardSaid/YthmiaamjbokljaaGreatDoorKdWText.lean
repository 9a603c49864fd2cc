/- The writer: Text. -/
import Derived.Test.YthmiaamjbokljaaGreatDoorKdWNodes
namespace Go.Proofs.YthmiaamjbokljaaGreatDoor
open Go.RowKit
theorem kd.gather_app : ∀ (f : Nat) (ns : List kd.Node) (d : Nat) (all : List (kd.Node × Nat)), ∃ t, kd.gather f ns d all = all ++ t
  | 0, _, _, all => ⟨[], by simp [kd.gather]⟩
  | f + 1, ns, d, all => by
    unfold kd.gather
    induction ns generalizing all with
    | nil => exact ⟨[], by simp⟩
    | cons n r ih =>
      rw [List.foldl_cons]
      split
      · exact ih all
      · obtain ⟨t1, h1⟩ := kd.gather_app f n.kids (d + 1) (all ++ [(n, d)])
        obtain ⟨t2, h2⟩ := ih (kd.gather f n.kids (d + 1) (all ++ [(n, d)]))
        exact ⟨[(n, d)] ++ t1 ++ t2, by rw [h2, h1]; simp⟩
theorem kd.gather_step (f : Nat) (ns : List kd.Node) (d : Nat) (all : List (kd.Node × Nat)) : kd.gather (f + 1) ns d all = ns.foldl (fun all n => if 12 < d ∨ 300 < all.length then all else kd.gather f n.kids (d + 1) (all ++ [(n, d)])) all := rfl
theorem kd.gather_fits : ∀ (f : Nat) (ns : List kd.Node) (d : Nat) (all : List (kd.Node × Nat)), f + d = 14 → d ≤ 12 → (kd.gather f ns d all).length ≤ 300 → (∀ p ∈ kd.gather f ns d all, kd.tooDeep p = false) → kd.Fits f ns
  | 0, _, _, _, h, hd, _, _ => by omega
  | f + 1, ns, d, all, hf, hd, hl, hp => by
    unfold kd.Fits
    rw [kd.gather_step] at hl hp
    induction ns generalizing all with
    | nil => intro n hn; cases hn
    | cons n r ih =>
      rw [List.foldl_cons] at hl hp
      obtain ⟨t, ht⟩ := kd.gather_app (f + 1) r d (if 12 < d ∨ 300 < all.length then all else kd.gather f n.kids (d + 1) (all ++ [(n, d)]))
      rw [kd.gather_step] at ht
      have hal : ¬ (12 < d ∨ 300 < all.length) := by
        rintro (h | h)
        · omega
        · rw [if_pos (Or.inr h)] at ht
          rw [if_pos (Or.inr h), ht, List.length_append] at hl
          omega
      intro m hm
      rcases List.mem_cons.1 hm with rfl | hm
      · rw [if_neg hal] at ht hl hp
        rw [ht] at hl hp
        obtain ⟨t2, h2⟩ := kd.gather_app f m.kids (d + 1) (all ++ [(m, d)])
        by_cases h12 : d = 12
        · left
          have := hp (m, d) (by rw [h2]; simp)
          subst h12
          simpa [kd.tooDeep] using this
        · right
          rw [List.length_append] at hl
          exact kd.gather_fits f m.kids (d + 1) (all ++ [(m, d)]) (by omega) (by omega) (by omega) (fun p hpp => hp p (List.mem_append_left _ hpp))
      · exact ih _ hl hp m hm
theorem kd.fits_of (ns : List kd.Node) (h : kd.wrong (kd.gather 14 ns 0 []) = 0) : kd.Fits 14 ns := by
  unfold kd.wrong at h
  split at h
  · cases h
  · rename_i h3
    split at h
    · cases h
    · rename_i h4
      refine kd.gather_fits 14 ns 0 [] rfl (by omega) (by omega) (fun p hp => ?_)
      cases hx : kd.tooDeep p with
      | false => rfl
      | true => exact absurd (List.any_eq_true.2 ⟨p, hp, hx⟩) h4
theorem strCells_byC (t : List UInt8) : Lib.strCells ⟨t.toArray⟩ = byC t := by
  simp [Lib.strCells, byC]
abbrev wrO : Obj := .cells #[.slice none 0 0, .bool false] 53
theorem wr_new (w : World) : WrAt (w.alloc wrO) w.heap.size [] :=
  ⟨.slice none 0 0, [], false, heap_alloc_new _ _, World.ownsRow_nil _ _ _ _, by simp, fun _ => rfl, fun h => by cases h⟩
theorem Tw.base {w w' : World} (h : Tw w.heap.size (w.alloc wrO) w') : Below w.heap.size w w' := (below_one w wrO).trans h.bel
set_option maxRecDepth 100000 in
set_option maxHeartbeats 3200000 in
theorem text_any (o : Option Addr) (n cap : Nat) (ns : List kd.Node) (D : Nat → Prop) (w : World) (hk : KT w) (h : NodesIn w D (.slice o n cap) ns) (hB : kd.NodesB 14 ns) (hW : kd.NodesW 14 ns) :
    Calls Tryz.prog 9 #[.slice o n cap] w fun ev w' => ev = .returned (.tuple #[str (kd.text ns).1, .int .i64 (kd.text ns).2]) ∧ Below w.heap.size w w' := by
  have HG := Lib.hid (gather_any o n cap ns D w h)
  have HBD := Lib.hid (kd.gather_bd 14 ns 0 [] hB (by intro p hp; cases hp))
  have HFT := Lib.hid (kd.fits_of ns)
  have HN := Lib.hid h
  have HK := Lib.hid hk
  have HW := Lib.hid hW
  have HD : Hid (kd.text ns = if kd.wrong (kd.gather 14 ns 0 []) ≠ 0 then ([], kd.wrong (kd.gather 14 ns 0 [])) else if 4096 < (kd.nodesT 14 ns []).length then ([], 2) else (kd.nodesT 14 ns [], 0)) := Lib.hid rfl
  generalize kd.text ns = R at *
  generalize kd.gather 14 ns 0 [] = L at *
  clear h hk hB hW
  go_enter Tryz.func9, Tryz.ntmps9
  go_wp2_with fail
  refine HG.out.mono ?_
  rintro ev w1 ⟨V, cs, rfl, hrow, hpl, hb1⟩
  obtain ⟨o1, c1, rfl, hpi⟩ := PlIn.row hrow hpl HBD.out
  have HWR := Lib.hid (wrong_any o1 L.length c1 L w1 hpi)
  have HB1 := Lib.hid hb1
  clear hrow hpl hb1 hpi HG
  go_wp2_with fail
  refine HWR.out.mono ?_
  rintro ev w2 ⟨rfl, hb2⟩
  have HB2 := Lib.hid (HB1.out.trans (hb2.mono HB1.out.size))
  clear hb2 HWR HB1
  generalize kd.wrong L = K at *
  by_cases h0 : K = 0
  case neg =>
    have HE : Hid (R = ([], K)) := Lib.hid (by rw [HD.out, if_pos h0])
    have hz : ((K : Int) != 0) = true := by simpa using h0
    go_wp2_with fail
    go_ret2
    exact ⟨by rw [HE.out]; rfl, HB2.out⟩
  case pos =>
    subst h0
    rw [show ((0 : Nat) : Int) = 0 from rfl]
    have HFI := Lib.hid (HFT.out rfl)
    have HE : Hid (R = if 4096 < (kd.nodesT 14 ns []).length then ([], 2) else (kd.nodesT 14 ns [], 0)) := Lib.hid HD.out
    clear HD HFT
    have hw12 := HB2.out.size
    have HWN := Lib.hid (wnodes_all 14 w2.heap.size [] ns o n cap [] D w (w2.alloc wrO) ((HK.out.below HB2.out HK.out.lt).below (below_one w2 wrO) (Nat.le_trans HK.out.lt hw12)) (wr_new w2) HN.out (HB2.out.trans ((below_one w2 wrO).mono hw12)) hw12 (Nat.le_trans HK.out.lt hw12) HFI.out HW.out (by simp))
    rw [List.nil_append] at HWN
    go_wp2_with fail
    refine HWN.out.mono ?_
    rintro ev w3 ⟨rfl, hw3, ht3⟩
    have HT := Lib.hid (HB2.out.trans (ht3.base.mono hw12))
    clear ht3 HWN HB2 HFI HN HK HW HBD
    obtain ⟨V, t, l, hb, hrow, ht, hl0, hl1⟩ := hw3.ex
    have c0 : w3.cell? ⟨w2.heap.size, 0, none⟩ = some V := (cell_of_heap hb).trans rfl
    have c1 : w3.cell? ⟨w2.heap.size, 1, none⟩ = some (.bool l) := (cell_of_heap hb).trans rfl
    clear hb hw3
    generalize w2.heap.size = p at *
    cases l
    case true =>
      have HE2 : Hid (R = ([], 2)) := Lib.hid (by rw [HE.out, if_pos (hl1 rfl)])
      clear hl0 hl1
      go_wp2_with fail
      go_ret2
      exact ⟨by rw [HE2.out]; rfl, HT.out⟩
    case false =>
      have HE2 : Hid (R = (t, 0)) := Lib.hid (by rw [HE.out, ← hl0 rfl, if_neg (by omega)])
      rw [strCells_byC] at hrow
      have hcv := conv_own hrow
      have HV : Hid (w3.ownsRow (p + 1) 5 1 V t.length (byC t)) := Lib.hid hrow
      clear hl0 hl1 hrow
      go_wp2_with fail
      go_ret2
      exact ⟨by rw [HE2.out]; rfl, HT.out⟩
end Go.Proofs.YthmiaamjbokljaaGreatDoor
