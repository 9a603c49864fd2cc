/- The writer: nodes. Text. -/
import Derived.Test.YthmiaamjbokljaaGreatDoorKdWParts
namespace Go.Proofs.YthmiaamjbokljaaGreatDoor
open Go.RowKit
/-- nodes that lie at most so deep -/
def kd.Fits : Nat → List kd.Node → Prop
  | 0, _ => False
  | f + 1, ns => ∀ n ∈ ns, n.kids = [] ∨ kd.Fits f n.kids
/-- bounds of nodes that are written -/
def kd.NodesW : Nat → List kd.Node → Prop
  | 0, _ => True
  | f + 1, ns => ∀ n ∈ ns, kd.NodeW1 n ∧ kd.NodesW f n.kids
theorem kd.NodeW1.b {n : kd.Node} (h : kd.NodeW1 n) : kd.NodeB1 n := ⟨Nat.le_trans h.1 (by decide), fun v hv => (h.2.1 v hv).1, fun x hx => ⟨Nat.le_trans (h.2.2 x hx).1 (by decide), (h.2.2 x hx).2.1⟩⟩
abbrev step4 : List UInt8 := [32, 32, 32, 32]
def kd.lineT (f : Nat) (ahead : List UInt8) (n : kd.Node) : List UInt8 := ahead ++ kd.nameT n.name ++ kd.argsT n.args ++ kd.propsT n.props ++ (if n.kids.length = 0 then [] else [32, 123, 10] ++ kd.nodesT f n.kids (ahead ++ step4) ++ ahead ++ [125]) ++ [10]
theorem nodesT_step (f : Nat) (ns : List kd.Node) (ahead : List UInt8) (k : Nat) (h : k < ns.length) (full : List UInt8) : full ++ kd.nodesT (f + 1) (ns.take k) ahead ++ kd.lineT f ahead ns[k] = full ++ kd.nodesT (f + 1) (ns.take (k + 1)) ahead := by
  have e : ∀ l, kd.nodesT (f + 1) l ahead = l.flatMap (kd.lineT f ahead) := fun l => rfl
  rw [e, e, List.take_add_one, List.getElem?_eq_getElem h, Option.toList_some, List.flatMap_append, List.flatMap_singleton, List.append_assoc]
theorem cat4 (a : List UInt8) : (ByteArray.mk a.toArray ++ ByteArray.mk #[32, 32, 32, 32]) = ByteArray.mk (a ++ step4).toArray := by
  rw [show (#[32, 32, 32, 32] : Array UInt8) = step4.toArray from rfl, ByteArray.mk_append_mk]
def WN (f : Nat) : Prop := ∀ (p : Nat) (full : List UInt8) (ns : List kd.Node) (o : Option Addr) (n cap : Nat) (ahead : List UInt8) (D : Nat → Prop) (w0 w : World), KT w → WrAt w p full → NodesIn w0 D (.slice o n cap) ns → Below w0.heap.size w0 w → w0.heap.size ≤ p → 3 + 1 ≤ p → kd.Fits f ns → kd.NodesW f ns → ahead.length + 4 * f ≤ 1000 →
  Calls Tryz.prog 15 #[.pointer (some ⟨p, 0, none⟩), .slice o n cap, str ahead] w fun ev w' => ev = .returned (.tuple #[]) ∧ WrAt w' p (full ++ kd.nodesT f ns ahead) ∧ Tw p w w'
set_option maxRecDepth 100000 in
set_option maxHeartbeats 6400000 in
theorem wnodes_ct (f : Nat) (ih : WN f) : WN (f + 1) := by
  intro p full ns o n cap ahead D w0 w hk h hns hb0 hw0 hgp hfit hnw hah
  obtain ⟨rfl, hle, hm⟩ := hns.shape
  have hp := h.lt
  obtain ⟨X, hX⟩ : ∃ X, full ++ kd.nodesT (f + 1) ns ahead = X := ⟨_, rfl⟩
  rw [hX]
  have HX := Lib.hid hX
  have HNS := Lib.hid hns
  have HB0 := Lib.hid hb0
  have HKT := Lib.hid hk
  have HFIT := Lib.hid hfit
  have HNW := Lib.hid hnw
  have HIH := Lib.hid ih
  have H0 : Hid (WrAt w p (full ++ kd.nodesT (f + 1) (ns.take 0) ahead)) := Lib.hid (by
    rw [show kd.nodesT (f + 1) (ns.take 0) ahead = [] from rfl, List.append_nil]; exact h)
  have hcat := cat4 ahead
  have HCAT := Lib.hid hcat
  clear hcat hX hns hb0 hk hfit hnw ih h
  go_enter Tryz.func15, Tryz.ntmps15
  go_wp2_with fail
  go_loopg [10] ns.length (fun gg s10 wr => ∃ k : Nat, s10 = .int .i64 k ∧ k ≤ ns.length ∧ ns.length - k ≤ gg ∧ Hid (WrAt wr p (full ++ kd.nodesT (f + 1) (ns.take k) ahead) ∧ Tw p w wr))
  case atStart => exact ⟨0, rfl, Nat.zero_le _, by omega, Lib.hid ⟨H0.out, Tw.refl p w⟩⟩
  case round =>
    clear H0
    obtain ⟨k, rfl, hkl, hgg, HA⟩ := hrel
    by_cases hlt : k < ns.length
    case neg =>
      have hki : ¬ (k : Int) < (ns.length : Int) := by omega
      have HE : Hid (WrAt wr p X) := Lib.hid (by
        have := HA.out.1
        rwa [List.take_of_length_le (by omega), HX.out] at this)
      go_wp2_with fail
      go_end0
      exact ⟨rfl, HE.out, HA.out.2⟩
    case pos =>
      have hki : (k : Int) < (ns.length : Int) := by omega
      have hbw := HB0.out.trans (HA.out.2.bel.mono hw0)
      obtain ⟨b, off, c0, c1, c2, c3, rfl, hb, hD, hn, e0, e1, e2, e3⟩ := (HNS.out.below hbw).node hlt
      obtain ⟨b', off', c0', c1', c2', c3', ea, hb', hD', hn0, e0', e1', e2', e3'⟩ := HNS.out.node hlt
      obtain ⟨rfl, rfl⟩ : b = b' ∧ off = off' := by injection ea with ea; injection ea with h1 h2; exact ⟨h1, h2⟩
      obtain ⟨rfl, rfl, rfl, rfl⟩ : c0 = c0' ∧ c1 = c1' ∧ c2 = c2' ∧ c3 = c3' := by
        have hh := hbw.block b hb'
        refine ⟨?_, ?_, ?_, ?_⟩
        · exact Option.some.inj (e0.symm.trans ((cell_of_eq hh _).trans e0'))
        · exact Option.some.inj (e1.symm.trans ((cell_of_eq hh _).trans e1'))
        · exact Option.some.inj (e2.symm.trans ((cell_of_eq hh _).trans e2'))
        · exact Option.some.inj (e3.symm.trans ((cell_of_eq hh _).trans e3'))
      have hst := nodesT_step f ns ahead k hlt full
      have hw1 := HNW.out _ (List.getElem_mem hlt)
      have hf1 := HFIT.out _ (List.getElem_mem hlt)
      generalize ns[k] = nd at *
      obtain ⟨nm, a1, a2, a3, b1, b2, b3, q1, q2, q3, rfl, rfl, rfl, rfl⟩ := hn0.shape
      have HN0 := Lib.hid hn0
      have HST := Lib.hid hst
      have HW1 := Lib.hid hw1
      have HF1 := Lib.hid hf1
      have H4 := Lib.hid (hn0.four' hw1.1.b)
      obtain rfl : nm = nd.name := by
        have := H4.out.nm
        simpa [str] using this
      have hkl3 : q2 = nd.kids.length := by
        obtain ⟨ok, ck, e⟩ := H4.out.ks
        injection e
      subst hkl3
      have hb2 := below_one wr (nodeO (str nd.name) (.slice a1 a2 a3) (.slice b1 b2 b3) (.slice q1 nd.kids.length q3))
      have hpw := HA.out.1.lt
      have H2 := Lib.hid (And.intro (HA.out.1.below hb2) (And.intro (HA.out.2.then hb2 (Nat.le_of_lt hpw)) (heap_alloc_new wr (nodeO (str nd.name) (.slice a1 a2 a3) (.slice b1 b2 b3) (.slice q1 nd.kids.length q3)))))
      clear hst hw1 hf1 hn0 hn hb2 HA ea e0' e1' e2' e3' hbw
      go_upto_region 3 with fail
      generalize wr.alloc (nodeO (str nd.name) (.slice a1 a2 a3) (.slice b1 b2 b3) (.slice q1 nd.kids.length q3)) = w2 at *
      generalize hg7 : wr.heap.size = g7 at *
      have hpg : p < g7 := hpw
      clear hg7 e0 e1 e2 e3
      have HP := Lib.hid (put_any p _ ahead w2 H2.out.1 (by omega))
      go_wp2_with fail
      refine HP.out.mono ?_
      rintro ev w3 ⟨rfl, hw3, ht3⟩
      have H3 := Lib.hid (And.intro (H2.out.2.1.trans ht3) (ht3.keep g7 _ H2.out.2.2 (by omega) (type_node _ _ _ _)))
      have HNM := Lib.hid (name_any p _ nd.name w3 (HKT.out.below H3.out.1.bel hgp) hw3 HW1.out.1.1)
      obtain ⟨y0, y1, y2, y3, _, _, _, _, _⟩ := node_cells H3.out.2
      clear hw3 ht3 HP H2
      go_wp2_with fail
      refine HNM.out.mono ?_
      rintro ev w4 ⟨rfl, hw4, ht4⟩
      have H5 := Lib.hid (And.intro (H3.out.1.trans ht4) (ht4.keep g7 _ H3.out.2 (by omega) (type_node _ _ _ _)))
      have HPA := Lib.hid (wparts_any p _ nd _ _ _ _ w0 w4 (HKT.out.below H5.out.1.bel hgp) hw4 H4.out (HB0.out.trans (H5.out.1.bel.mono hw0)) hw0 hgp HW1.out.1)
      clear y0 y1 y2 y3 hw4 ht4 HNM H3
      obtain ⟨y0, y1, y2, y3, _, _, _, _, _⟩ := node_cells H5.out.2
      go_wp2_with fail
      refine HPA.out.mono ?_
      rintro ev w5 ⟨rfl, hw5, ht5⟩
      have H6 := Lib.hid (And.intro hw5 (And.intro (H5.out.1.trans ht5) (ht5.keep g7 _ H5.out.2 (by omega) (type_node _ _ _ _))))
      clear y0 y1 y2 y3 hw5 ht5 HPA H5
      obtain ⟨y0, y1, y2, y3, _, _, _, _, _⟩ := node_cells H6.out.2.2
      by_cases hk0 : nd.kids.length = 0
      case pos =>
        have hki2 : ¬ (0 : Int) < (nd.kids.length : Int) := by omega
        have HL : Hid (kd.lineT f ahead nd = ahead ++ kd.nameT nd.name ++ kd.argsT nd.args ++ kd.propsT nd.props ++ [10]) := Lib.hid (by unfold kd.lineT; rw [if_pos hk0, List.append_nil])
        have HP := Lib.hid (put_any p _ [10] w5 H6.out.1 (by simp))
        go_wp2_with fail
        refine HP.out.mono ?_
        rintro ev w6 ⟨rfl, hw6, ht6⟩
        have H7 := Lib.hid (And.intro hw6 (H6.out.2.1.trans ht6))
        clear y0 y1 y2 y3 hw6 ht6 HP H6
        go_wp2_with fail
        go_roundg (ns.length - (k + 1))
        case measure => omega
        case rel =>
          refine ⟨k + 1, by go_num, by omega, Nat.le_refl _, Lib.hid ⟨?_, H7.out.2⟩⟩
          rw [← HST.out, HL.out]
          simpa only [List.append_assoc] using H7.out.1
      case neg =>
        have hki2 : (0 : Int) < (nd.kids.length : Int) := by omega
        have HL : Hid (kd.lineT f ahead nd = ahead ++ kd.nameT nd.name ++ kd.argsT nd.args ++ kd.propsT nd.props ++ ([32, 123, 10] ++ kd.nodesT f nd.kids (ahead ++ step4) ++ ahead ++ [125]) ++ [10]) := Lib.hid (by unfold kd.lineT; rw [if_neg hk0])
        have HP := Lib.hid (put_any p _ [32, 123, 10] w5 H6.out.1 (by simp))
        go_wp2_with fail
        refine HP.out.mono ?_
        rintro ev w6 ⟨rfl, hw6, ht6⟩
        have H7 := Lib.hid (And.intro (H6.out.2.1.trans ht6) (ht6.keep g7 _ H6.out.2.2 (by omega) (type_node _ _ _ _)))
        have HF2 : Hid (kd.Fits f nd.kids) := Lib.hid (HF1.out.resolve_left (fun e => hk0 (by rw [e]; rfl)))
        have HI := Lib.hid (HIH.out p _ nd.kids q1 nd.kids.length q3 (ahead ++ step4) D w0 w6 (HKT.out.below H7.out.1.bel hgp) hw6 HN0.out.kids (HB0.out.trans (H7.out.1.bel.mono hw0)) hw0 hgp HF2.out HW1.out.2 (by simp; omega))
        clear y0 y1 y2 y3 hw6 ht6 HP H6
        have hcat := HCAT.out
        obtain ⟨y0, y1, y2, y3, _, _, _, _, _⟩ := node_cells H7.out.2
        go_wp2_with fail
        refine HI.out.mono ?_
        rintro ev w7 ⟨rfl, hw7, ht7⟩
        have H8 := Lib.hid (H7.out.1.trans ht7)
        have HP := Lib.hid (put_any p _ ahead w7 hw7 (by omega))
        clear y0 y1 y2 y3 hw7 ht7 HI H7 hcat
        go_wp2_with fail
        refine HP.out.mono ?_
        rintro ev w8 ⟨rfl, hw8, ht8⟩
        have H9 := Lib.hid (H8.out.trans ht8)
        have HP1 := Lib.hid (put_any p _ [125] w8 hw8 (by simp))
        clear hw8 ht8 HP H8
        go_wp2_with fail
        refine HP1.out.mono ?_
        rintro ev w9 ⟨rfl, hw9, ht9⟩
        have H10 := Lib.hid (H9.out.trans ht9)
        have HP2 := Lib.hid (put_any p _ [10] w9 hw9 (by simp))
        clear hw9 ht9 HP1 H9
        go_wp2_with fail
        refine HP2.out.mono ?_
        rintro ev w10 ⟨rfl, hw10, ht10⟩
        have H11 := Lib.hid (And.intro hw10 (H10.out.trans ht10))
        clear hw10 ht10 HP2 H10
        go_wp2_with fail
        go_roundg (ns.length - (k + 1))
        case measure => omega
        case rel =>
          refine ⟨k + 1, by go_num, by omega, Nat.le_refl _, Lib.hid ⟨?_, H11.out.2⟩⟩
          rw [← HST.out, HL.out]
          simpa only [List.append_assoc] using H11.out.1
theorem wnodes_all : (f : Nat) → WN f
  | 0 => fun _ _ _ _ _ _ _ _ _ _ _ _ _ _ _ _ hf => absurd hf (by intro h; exact h)
  | f + 1 => wnodes_ct f (wnodes_all f)
end Go.Proofs.YthmiaamjbokljaaGreatDoor
