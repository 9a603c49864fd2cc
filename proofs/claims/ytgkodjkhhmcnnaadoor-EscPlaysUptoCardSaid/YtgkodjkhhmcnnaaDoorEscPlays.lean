/- The walk of EscPlays. -/
import Derived.Test.YtgkodjkhhmcnnaaDoorEscRefFeed4
import Derived.Test.YtgkodjkhhmcnnaaDoorGlPieces
import Derived.Test.YtgkodjkhhmcnnaaDoorEscTwo
namespace Go.Proofs.YtgkodjkhhmcnnaaDoor
open Go.RowKit
set_option maxRecDepth 100000 in
set_option maxHeartbeats 1600000 in
theorem refIdle_any (v : Value) (t : rf.St) (w : World) (h : StW w v t) :
    Calls Tryd.prog 10 #[v] w fun e w' => e = .returned (.bool (rf.idle t)) ∧ Below w.heap.size w w' := by
  obtain ⟨wo, wn, wq, go, gn, gc, rfl, hw8, hg8⟩ := h
  have hwl := hw8.b.size
  have hmw : wq ≤ 9223372036854775807 := hw8.b.max
  have hlw := hw8.b.le
  clear hw8 hg8
  have HB := Lib.hid (below_one w (.cells #[.int .i64 t.inn, .slice wo wn wq, .slice go gn gc, .int .u8 t.sign] 36))
  have HE : Hid (rf.idle t = (decide (t.inn = 0) && decide (wn = 0))) := Lib.hid (by unfold rf.idle; rw [hwl, Bool.decide_and])
  clear hwl
  by_cases h0 : t.inn = 0
  · have i0 : ((t.inn : Int) == 0) = true := by simp; omega
    by_cases h1 : wn = 0
    · have i1 : ((wn : Int) == 0) = true := by simp; omega
      rw [show rf.idle t = true by rw [HE.out, h0, h1]; rfl]
      clear h0 h1 HE
      go_enter Tryd.func10, Tryd.ntmps10
      go_wp2_with fail
      go_ret
      exact ⟨rfl, HB.out⟩
    · have i1 : ((wn : Int) == 0) = false := by simp; omega
      rw [show rf.idle t = false by rw [HE.out, decide_eq_false h1, Bool.and_false]]
      clear h0 h1 HE
      go_enter Tryd.func10, Tryd.ntmps10
      go_wp2_with fail
      go_ret
      exact ⟨rfl, HB.out⟩
  · have i0 : ((t.inn : Int) == 0) = false := by simp; omega
    rw [show rf.idle t = false by rw [HE.out, decide_eq_false h0, Bool.false_and]]
    clear h0 HE
    go_enter Tryd.func10, Tryd.ntmps10
    go_wp2_with fail
    go_ret
    exact ⟨rfl, HB.out⟩
theorem B8.keptT {w w' : World} {o : Option Addr} {n c p : Nat} {l : List UInt8} {cs : Array Value} {T : TypeId} {fr : Nat × Nat} (h : B8 w o n c l) (hk : Kept w w' (· = p)) (hp : w.heap[p]? = some (.cells cs T fr)) (hT : 5 ≠ T) : B8 w' o n c l := by
  have hne : n ≠ 0 → ∀ a, o = some a → a.block ≠ p := fun h0 a ha e => by
    obtain ⟨cs', fr', e'⟩ := h.t h0 a ha
    rw [e, hp] at e'
    exact hT (Obj.cells.inj (Option.some.inj e')).2.1.symm
  refine ⟨?_, fun h0 a ha => ?_⟩
  · by_cases h0 : n = 0
    · exact ⟨h.b.len, h.b.le, h.b.max, .inl h0⟩
    · exact h.b.same (fun k hk' off hoff => hk.block k hk' (hne h0 _ hoff)) hk.size
  · obtain ⟨cs', fr', e'⟩ := h.t h0 a ha
    exact ⟨cs', fr', hk.same e' (hne h0 a ha)⟩
/-- the program's parser in p, the document's state beside it -/
structure EP (w wr : World) (p : Nat) (e : es.St) (t : rf.St) (wo : Option Addr) (wn wq : Nat) (go : Option Addr) (gn gc : Nat) : Prop where
  op : OP w wr p e
  st : wr.heap[p + 1]? = some (.cells #[.int .i64 t.inn, .slice wo wn wq, .slice go gn gc, .int .u8 t.sign] 36 (0, 0))
  b1 : B8 wr wo wn wq t.wait
  b2 : B8 wr go gn gc t.got
  like : rf.R e t
  wt : t.wait.length ≤ 3
theorem EP.below {w wr w' : World} {p : Nat} {e : es.St} {t : rf.St} {wo : Option Addr} {wn wq : Nat} {go : Option Addr} {gn gc : Nat} (h : EP w wr p e t wo wn wq go gn gc) (hb : Below wr.heap.size wr w') : EP w w' p e t wo wn wq go gn gc :=
  ⟨h.op.step hb, (hb.block _ (Array.getElem?_eq_some_iff.1 h.st).1).trans h.st, h.b1.below hb, h.b2.below hb, h.like, h.wt⟩
/-- while numbers of acts are written over: all but numbers of B1 and more is as it was -/
structure SP (W wr : World) (B1 : Nat) : Prop where
  os : wr.os = W.os
  tape : wr.tape = W.tape
  output : wr.output = W.output
  size : wr.heap.size = W.heap.size
  kept : ∀ (k : Nat) (ob : Obj), W.heap[k]? = some ob → ((∀ c, ob ≠ Obj.cells c 3 (0, 0)) ∨ k < B1) → wr.heap[k]? = some ob
  ints : ∀ (k : Nat) (c : Array Value), W.heap[k]? = some (.cells c 3 (0, 0)) → ∃ c', wr.heap[k]? = some (.cells c' 3 (0, 0)) ∧ c'.size = c.size
theorem SP.refl (W : World) (B1 : Nat) : SP W W B1 := ⟨rfl, rfl, rfl, rfl, fun _ _ h _ => h, fun _ c h => ⟨c, h, rfl⟩⟩
theorem SP.store {W wr : World} {B1 b i : Nat} {c : Array Value} (h : SP W wr B1) (hb : B1 ≤ b) (hc : W.heap[b]? = some (.cells c 3 (0, 0))) (v : Value) : SP W (wr.setCell ⟨b, i, none⟩ v) B1 := by
  obtain ⟨c', h1, h2⟩ := h.ints b c hc
  have hs := heap_setCell_same wr b i _ _ v h1
  refine ⟨h.os, h.tape, h.output, by simpa using h.size, fun k ob hk hor => ?_, fun k cc hk => ?_⟩
  · have hne : k ≠ b := fun e => by
      subst e
      rw [hc] at hk
      cases hk
      rcases hor with h3 | h3
      · exact h3 c rfl
      · omega
    exact heap_set_other wr ⟨b, i, none⟩ v hne (h.kept k ob hk hor)
  · by_cases e : k = b
    · subst e
      rw [hc] at hk
      cases hk
      exact ⟨_, hs, by simpa using h2⟩
    · obtain ⟨c2, h3, h4⟩ := h.ints k cc hk
      exact ⟨c2, heap_set_other wr ⟨b, i, none⟩ v e h3, h4⟩
theorem SP.below {W wr : World} {B1 B : Nat} (h : SP W wr B1) (hB : B ≤ B1) (hW : B ≤ W.heap.size) : Below B W wr :=
  ⟨h.os, h.tape, h.output, by rw [h.size]; exact Nat.le_refl _, fun k hk => by
    have hl : k < W.heap.size := by omega
    rw [Array.getElem?_eq_getElem hl]
    exact h.kept k _ (Array.getElem?_eq_getElem hl) (.inr (by omega))⟩
theorem SP.b8 {W wr : World} {B1 : Nat} {o : Option Addr} {n c : Nat} {l : List UInt8} (h : SP W wr B1) (hb : B8 W o n c l) : B8 wr o n c l := by
  have ht : n ≠ 0 → ∀ a, o = some a → wr.heap[a.block]? = W.heap[a.block]? := fun h0 a ha => by
    obtain ⟨cs', fr', e'⟩ := hb.t h0 a ha
    rw [e']
    exact h.kept _ _ e' (.inl (fun c e => absurd (Obj.cells.inj e).2.1 (by decide)))
  refine ⟨?_, fun h0 a ha => ?_⟩
  · by_cases h0 : n = 0
    · exact ⟨hb.b.len, hb.b.le, hb.b.max, .inl h0⟩
    · exact hb.b.same (fun k hk' off hoff => ht h0 _ hoff) (by rw [h.size]; exact Nat.le_refl _)
  · obtain ⟨cs', fr', e'⟩ := hb.t h0 a ha
    exact ⟨cs', fr', (ht h0 a ha).trans e'⟩
theorem SP.ep {w W wr : World} {B1 p : Nat} {e : es.St} {t : rf.St} {wo : Option Addr} {wn wq : Nat} {go : Option Addr} {gn gc : Nat} (h : SP W wr B1) (hx : EP w W p e t wo wn wq go gn gc) (hp : p + 1 < B1) (hB : B1 ≤ W.heap.size) (ht : UTabs w) : EP w wr p e t wo wn wq go gn gc := by
  have hb := h.below (Nat.le_refl B1) hB
  have hbw : Below w.heap.size w wr := hx.op.bel.trans (hb.mono (by have := hx.op.le; omega))
  obtain ⟨c, h1⟩ := hx.op.ps.at_
  exact ⟨⟨⟨⟨c, h1.below hb (by omega)⟩, hx.op.ps.good, ht.step hbw⟩, hbw, hx.op.le⟩, (hb.block _ hp).trans hx.st, h.b8 hx.b1, h.b8 hx.b2, hx.like, hx.wt⟩
/-- an act's number, as it may be written over -/
theorem SP.num {W wr : World} {B1 : Nat} {a : es.Act} {po : Option Addr} {pc k : Nat} (h : SP W wr B1) (ha : Act1 W B1 a po pc) (hk : k < a.params.length) : ∃ b off u, po = some ⟨b, off, none⟩ ∧ wr.cell? ⟨b, off + k, none⟩ = some u ∧ wr.frozen? ⟨b, off + k, none⟩ = false ∧ SP W (wr.setCell ⟨b, off + k, none⟩ (.int .i64 77)) B1 := by
  obtain ⟨b, off, rfl, hb, hc⟩ := ha.nums.cell hk
  obtain ⟨hB, c, hcb⟩ := ha.own (by omega) _ rfl
  obtain ⟨c', h1, h2⟩ := h.ints b c hcb
  have hlt : off + k < c.size := by
    have h3 := cell_of_heap (k := off + k) hcb
    rw [hc] at h3
    exact (Array.getElem?_eq_some_iff.1 h3.symm).1
  have h4 := cell_of_heap (k := off + k) h1
  rw [Array.getElem?_eq_getElem (by omega : off + k < c'.size)] at h4
  exact ⟨b, off, _, rfl, h4, by simp [World.frozen?, h1], h.store hB hcb _⟩
set_option maxRecDepth 100000 in
set_option maxHeartbeats 3200000 in
theorem plays_any (o : Option Addr) (n cap : Nat) (w : World) (ht : UTabs w ∧ PTab w) (hx : PiecesIn w o n cap) :
    Calls Tryd.prog 3 #[.slice o n cap] w fun e w' => e = .returned (.bool true) ∧ Below w.heap.size w w' := by
  have HA := Lib.hid (alive_any w ht.1 ht.2)
  have hmx : cap ≤ 9223372036854775807 := hx.max
  have hle := hx.le
  have hfw := hx.few
  have HX := Lib.hid hx; have HT := Lib.hid ht.1
  clear hx ht
  go_enter Tryd.func3, Tryd.ntmps3
  go_wp2_with fail
  refine HA.out.mono ?_
  rintro e w1 ⟨rfl, hb1⟩
  have HOP := Lib.hid (OP.start hb1 (HT.out.step hb1))
  clear HA hb1
  have HST : Hid (((w1.alloc (.cells Tryd.zeroCells33 33)).alloc (.cells #[.int .i64 0, .slice none 0 0, .slice none 0 0, .int .u8 0] 36)).heap[w1.heap.size + 1]? = some (.cells #[.int .i64 0, .slice none 0 0, .slice none 0 0, .int .u8 0] 36 (0, 0))) := Lib.hid (heap_alloc2_new w1 _ _)
  have HP0 : Hid (∃ e t wo wn wq go gn gc, EP w ((w1.alloc (.cells Tryd.zeroCells33 33)).alloc (.cells #[.int .i64 0, .slice none 0 0, .slice none 0 0, .int .u8 0] 36)) w1.heap.size e t wo wn wq go gn gc ∧ t.got.length ≤ 0 * 1048576) := Lib.hid ⟨{}, {}, _, _, _, _, _, _, ⟨HOP.out.step (below_one _ _), HST.out, B8.nil _, B8.nil _, rf.R.zero, by decide⟩, by decide⟩
  clear HST HOP
  go_wp2_with fail
  generalize hW : (w1.alloc (.cells Tryd.zeroCells33 33)).alloc (.cells #[.int .i64 0, .slice none 0 0, .slice none 0 0, .int .u8 0] 36) = wa at *
  clear hW
  generalize w1.heap.size = p at *
  go_loopg [17] n (fun gg s17 wr => ∃ k : Nat, s17 = .int .i64 k ∧ k ≤ n ∧ n - k ≤ gg ∧ Hid (∃ e t wo wn wq go gn gc, EP w wr p e t wo wn wq go gn gc ∧ t.got.length ≤ k * 1048576))
  case atStart => exact ⟨0, rfl, Nat.zero_le _, by omega, HP0⟩
  case round =>
    clear HP0
    obtain ⟨k, rfl, hk, hgg, HF⟩ := hrel
    obtain ⟨e, t, wo, wn, wq, go, gn, gc, hF, hgl⟩ := HF.out
    clear HF
    have HE := Lib.hid hF
    by_cases hlt : k < n
    · obtain ⟨b, off, a, m, c, l, rfl, hb, k0, hbt, hm⟩ := HX.out.at_ k hlt
      have k1 : wr.cell? ⟨b, off + k, none⟩ = some (.slice a m c) := (hF.op.bel.cell (p := ⟨b, off + k, none⟩) hb).trans k0
      have hpw : p + 1 < wr.heap.size := (Array.getElem?_eq_some_iff.1 hF.st).1
      have hpl : w.heap.size ≤ p := hF.op.le
      have HFD := Lib.hid (feed_arg p e a m c l w wr hF.op.ps hbt hF.op.bel hF.op.le (by omega))
      have HBT := Lib.hid hbt
      have hmc : m ≤ c := hbt.le
      have hcm : c ≤ 9223372036854775807 := hbt.max
      have HG0 : Hid (t.got.length + m ≤ 1099511627776) := Lib.hid (by omega)
      have HG1 : Hid (t.got.length + m ≤ (k + 1) * 1048576) := Lib.hid (by omega)
      have HLM : Hid (l.length = m) := Lib.hid hbt.size
      clear hF hbt k0 hb hgl
      go_wp2_with fail
      refine HFD.out.mono ?_
      rintro e2 w2 ⟨ro, rc, rfl, hA, hP, hK⟩
      obtain ⟨F, hFe⟩ : ∃ F, es.feed e l = F := ⟨_, rfl⟩
      rw [hFe] at hA hP ⊢
      have hO2 := HE.out.op.fed hP hK
      obtain ⟨pc0, hpc⟩ := HE.out.op.ps.at_
      have hst2 := hK.same HE.out.st (show p + 1 ≠ p by omega)
      have h81 := HE.out.b1.keptT hK hpc.at_ (by decide)
      have h82 := HE.out.b2.keptT hK hpc.at_ (by decide)
      have HFE := Lib.hid hFe
      have HA := Lib.hid hA; have HO2 := Lib.hid hO2; have HST2 := Lib.hid hst2
      have HS4 := Lib.hid (refFeed4_any _ t a m c l w2 ⟨wo, wn, wq, go, gn, gc, rfl, h81, h82⟩ (HBT.out.below hO2.bel) (by omega) HE.out.wt HG0.out)
      have hw2 : wr.heap.size ≤ w2.heap.size := hK.size
      have hr := hst2
      have sd0 : w2.cell? ⟨p + 1, 0, none⟩ = some (.int .i64 t.inn) := (cell_of_heap hr).trans rfl
      have sd1 : w2.cell? ⟨p + 1, 1, none⟩ = some (.slice wo wn wq) := (cell_of_heap hr).trans rfl
      have sd2 : w2.cell? ⟨p + 1, 2, none⟩ = some (.slice go gn gc) := (cell_of_heap hr).trans rfl
      have sd3 : w2.cell? ⟨p + 1, 3, none⟩ = some (.int .u8 t.sign) := (cell_of_heap hr).trans rfl
      clear hr hA hP hK hFe hO2 hst2 h81 h82 hpc HFD
      go_wp2_with fail
      refine HS4.out.mono ?_
      rintro e3 w3 ⟨v3, V, he3, hst3, hA3, hB3⟩
      subst he3
      obtain ⟨G, hG⟩ : ∃ G, rf.feed t l = G := ⟨_, rfl⟩
      rw [hG] at hst3 hA3
      obtain ⟨zo, zn, zq, uo, un, uc, rfl, hz1, hz2⟩ := hst3
      have hsm := rf.feed_small l t HE.out.wt
      have hlk := rf.feed_like l e t HE.out.like
      rw [hG] at hsm hlk
      rw [HFE.out] at hlk
      obtain ⟨hFG, hR⟩ := hlk
      have hw3 : w2.heap.size ≤ w3.heap.size := hB3.size
      have hl3 : p + 1 < w3.heap.size := by omega
      have hst3 := (hB3.block _ (by omega)).trans HST2.out
      have hq := hst3
      have qd0 : w3.cell? ⟨p + 1, 0, none⟩ = some (.int .i64 t.inn) := (cell_of_heap hq).trans rfl
      have qe0 : w3.frozen? ⟨p + 1, 0, none⟩ = false := by simp [World.frozen?, hq]
      have qd1 : w3.cell? ⟨p + 1, 1, none⟩ = some (.slice wo wn wq) := (cell_of_heap hq).trans rfl
      have qe1 : w3.frozen? ⟨p + 1, 1, none⟩ = false := by simp [World.frozen?, hq]
      have qd2 : w3.cell? ⟨p + 1, 2, none⟩ = some (.slice go gn gc) := (cell_of_heap hq).trans rfl
      have qe2 : w3.frozen? ⟨p + 1, 2, none⟩ = false := by simp [World.frozen?, hq]
      have qd3 : w3.cell? ⟨p + 1, 3, none⟩ = some (.int .u8 t.sign) := (cell_of_heap hq).trans rfl
      have qe3 : w3.frozen? ⟨p + 1, 3, none⟩ = false := by simp [World.frozen?, hq]
      obtain ⟨hg4, hk4⟩ := store4 hst3 (.int .i64 G.1.inn) (.slice zo zn zq) (.slice uo un uc) (.int .u8 G.1.sign)
      have hba := below_one ((((w3.setCell ⟨p + 1, 0, none⟩ (.int .i64 G.1.inn)).setCell ⟨p + 1, 1, none⟩ (.slice zo zn zq)).setCell ⟨p + 1, 2, none⟩ (.slice uo un uc)).setCell ⟨p + 1, 3, none⟩ (.int .u8 G.1.sign)) (.cells #[.int .i64 G.1.inn, .slice zo zn zq, .slice uo un uc, .int .u8 G.1.sign] 36)
      have hO3 := HO2.out.step hB3
      have hb4 : Below w.heap.size w ((((w3.setCell ⟨p + 1, 0, none⟩ (.int .i64 G.1.inn)).setCell ⟨p + 1, 1, none⟩ (.slice zo zn zq)).setCell ⟨p + 1, 2, none⟩ (.slice uo un uc)).setCell ⟨p + 1, 3, none⟩ (.int .u8 G.1.sign)) := hO3.bel.trans (hk4.below hO3.bel.size (fun i hi => by omega))
      have HEP : Hid (EP w (((((w3.setCell ⟨p + 1, 0, none⟩ (.int .i64 G.1.inn)).setCell ⟨p + 1, 1, none⟩ (.slice zo zn zq)).setCell ⟨p + 1, 2, none⟩ (.slice uo un uc)).setCell ⟨p + 1, 3, none⟩ (.int .u8 G.1.sign)).alloc (.cells #[.int .i64 G.1.inn, .slice zo zn zq, .slice uo un uc, .int .u8 G.1.sign] 36)) p F.1 G.1 zo zn zq uo un uc) := Lib.hid ⟨OP.step ⟨hO3.ps.kept hk4 (by omega) (HT.out.step hb4), hb4, hpl⟩ hba, (hba.block _ (by simp; omega)).trans hg4, (hz1.kept hk4 hst3).below hba, (hz2.kept hk4 hst3).below hba, hR, hsm.1⟩
      have HGT : Hid (ActsAt (((((w3.setCell ⟨p + 1, 0, none⟩ (.int .i64 G.1.inn)).setCell ⟨p + 1, 1, none⟩ (.slice zo zn zq)).setCell ⟨p + 1, 2, none⟩ (.slice uo un uc)).setCell ⟨p + 1, 3, none⟩ (.int .u8 G.1.sign)).alloc (.cells #[.int .i64 G.1.inn, .slice zo zn zq, .slice uo un uc, .int .u8 G.1.sign] 36)) wr.heap.size (.slice ro F.2.length rc) F.2) := Lib.hid (((HA.out.below hB3).keptP hk4 hpw).below hba)
      have HWT : Hid (ActsAt (((((w3.setCell ⟨p + 1, 0, none⟩ (.int .i64 G.1.inn)).setCell ⟨p + 1, 1, none⟩ (.slice zo zn zq)).setCell ⟨p + 1, 2, none⟩ (.slice uo un uc)).setCell ⟨p + 1, 3, none⟩ (.int .u8 G.1.sign)).alloc (.cells #[.int .i64 G.1.inn, .slice zo zn zq, .slice uo un uc, .int .u8 G.1.sign] 36)) wr.heap.size V F.2) := Lib.hid (by rw [hFG]; exact ((hA3.base_le hw2).keptP hk4 hpw).below hba)
      have HG2 : Hid (G.1.got.length ≤ (k + 1) * 1048576) := Lib.hid (by have := hsm.2.1; have := HG1.out; have := HLM.out; omega)
      have HS10 : Hid (wr.heap.size ≤ (((((w3.setCell ⟨p + 1, 0, none⟩ (.int .i64 G.1.inn)).setCell ⟨p + 1, 1, none⟩ (.slice zo zn zq)).setCell ⟨p + 1, 2, none⟩ (.slice uo un uc)).setCell ⟨p + 1, 3, none⟩ (.int .u8 G.1.sign)).alloc (.cells #[.int .i64 G.1.inn, .slice zo zn zq, .slice uo un uc, .int .u8 G.1.sign] 36)).heap.size) := Lib.hid (Nat.le_trans (Nat.le_trans hw2 hw3) (Nat.le_trans hk4.size hba.size))
      clear hG hz1 hz2 hsm hFG hR hst3 hq hg4 hk4 hba hO3 hb4 hA3 hB3 HS4 HST2 HO2 HFE HG0 HG1 HLM HBT sd0 sd1 sd2 sd3 k1
      go_upto_region 11 with fail
      generalize (((((w3.setCell ⟨p + 1, 0, none⟩ (.int .i64 G.1.inn)).setCell ⟨p + 1, 1, none⟩ (.slice zo zn zq)).setCell ⟨p + 1, 2, none⟩ (.slice uo un uc)).setCell ⟨p + 1, 3, none⟩ (.int .u8 G.1.sign)).alloc (.cells #[.int .i64 G.1.inn, .slice zo zn zq, .slice uo un uc, .int .u8 G.1.sign] 36)) = w10 at *
      obtain ⟨qo, qc, hV, hwin, _⟩ := HWT.out.in_
      obtain ⟨ro', rc', hr', hgin, _⟩ := HGT.out.in_
      obtain ⟨rfl, -, rfl⟩ := Value.slice.inj hr'
      subst hV
      have HSAME : Hid (∀ X, Below w10.heap.size w10 X → Calls Tryd.prog 8 #[.slice ro F.2.length rc, .slice qo F.2.length qc] X fun e w' => e = .returned (.bool true) ∧ Below X.heap.size X w') := Lib.hid (fun X hX => same_acts ro rc F.2 qo qc F.2.length X (hgin.below hX) (hwin.below hX))
      have HID1 : Hid (∀ X, Below w10.heap.size w10 X → Calls Tryd.prog 9 #[.pointer (some ⟨p, 0, none⟩)] X fun e w' => e = .returned (.bool (rf.idle G.1)) ∧ X = w') := Lib.hid (fun X hX => by
        have := (HEP.out.op.ps.below hX).idle
        rwa [rf.idle_like _ _ HEP.out.like] at this)
      have HID2 : Hid (∀ X, Below w10.heap.size w10 X → Calls Tryd.prog 10 #[.agg #[.int .i64 G.1.inn, .slice zo zn zq, .slice uo un uc, .int .u8 G.1.sign]] X fun e w' => e = .returned (.bool (rf.idle G.1)) ∧ Below X.heap.size X w') := Lib.hid (fun X hX => refIdle_any _ G.1 X ⟨_, _, _, _, _, _, rfl, HEP.out.b1.below hX, HEP.out.b2.below hX⟩)
      have HCELL : Hid (∀ X, Below w10.heap.size w10 X → X.heap[p + 1]? = some (.cells #[.int .i64 G.1.inn, .slice zo zn zq, .slice uo un uc, .int .u8 G.1.sign] 36 (0, 0))) := Lib.hid (fun X hX => (hX.block _ (Array.getElem?_eq_some_iff.1 HEP.out.st).1).trans HEP.out.st)
      generalize hid : rf.idle G.1 = idl at *
      clear hwin hgin hr' hid
      go_cut [39] from 18 to 63 (fun s39 wx => s39 = .bool false ∧ Hid (Below w10.heap.size w10 wx))
      case first =>
        go_region_with (first
          | (go_at_call 8
             refine (HSAME.out _ (by first | exact below_dN (Below.refl _ _) 1 | assumption)).mono ?_
             rintro e w11 ⟨rfl, hb11⟩
             have hbw11 : Below w10.heap.size w10 w11 := (below_dN (Below.refl _ _) 1).trans hb11
             have hr := HCELL.out w11 hbw11
             have sd0 : w11.cell? ⟨p + 1, 0, none⟩ = some (.int .i64 G.1.inn) := (cell_of_heap hr).trans rfl
             have sd1 : w11.cell? ⟨p + 1, 1, none⟩ = some (.slice zo zn zq) := (cell_of_heap hr).trans rfl
             have sd2 : w11.cell? ⟨p + 1, 2, none⟩ = some (.slice uo un uc) := (cell_of_heap hr).trans rfl
             have sd3 : w11.cell? ⟨p + 1, 3, none⟩ = some (.int .u8 G.1.sign) := (cell_of_heap hr).trans rfl)
          | (go_at_call 9
             refine (HID1.out _ (by assumption)).mono ?_
             rintro e w12 ⟨rfl, rfl⟩)
          | (go_at_call 10
             refine (HID2.out _ (by assumption)).mono ?_
             rintro e w13 ⟨rfl, hb13⟩
             have hbw13 : Below w10.heap.size w10 w13 := Below.trans (by assumption) (hb13.mono (Below.size (by assumption)))))
        all_goals
          go_wp2_with fail
          go_meet
          exact ⟨rfl, Lib.hid (by assumption)⟩
      case rest =>
      obtain ⟨rfl, HBX⟩ := hcut
      have HEX := Lib.hid (HEP.out.below HBX.out)
      have HAX := Lib.hid (HGT.out.below HBX.out)
      have hsx : wr.heap.size ≤ wc.heap.size := Nat.le_trans HS10.out HBX.out.size
      clear HSAME HID1 HID2 HCELL HEP HGT HWT HBX HS10 HA HE
      generalize wr.heap.size = B1 at *
      have hrc : F.2.length ≤ rc ∧ rc ≤ 9223372036854775807 := by
        obtain ⟨o2, c2, e2, hin2, _⟩ := HAX.out.in_
        obtain ⟨_, _, e3⟩ := Value.slice.inj e2
        have h3 := hin2.le; have h4 : c2 ≤ 9223372036854775807 := hin2.max
        omega
      obtain ⟨hrc1, hrc2⟩ := hrc
      generalize hM : F.2.length = M at *
      have HM := Lib.hid hM
      clear hM
      generalize wc = wS at *
      generalize wr = wo1 at *
      go_wp2_with fail
      go_loopg [42] M (fun gg s42 wq => ∃ i : Nat, s42 = .int .i64 i ∧ i ≤ M ∧ M - i ≤ gg ∧ Hid (SP wS wq B1))
      case atStart => exact ⟨0, rfl, Nat.zero_le _, by omega, Lib.hid (SP.refl _ _)⟩
      case round =>
        obtain ⟨i, rfl, hi, hig, HSP⟩ := hrel
        by_cases hiM : i < M
        · obtain ⟨g2, cap2, po, pc, hgV, hg3, hg4, hg5, hg6, hg7, hg8⟩ := HAX.out.at_ (k := i) (by rw [HM.out]; exact hiM)
          obtain ⟨_, _, cg, hcg⟩ := HAX.out.own_act (k := g2) (by rw [hgV]; rfl)
          obtain ⟨rfl, -, rfl⟩ := Value.slice.inj hgV
          have HCG := Lib.hid hcg
          generalize F.2.getD i es.act0 = act at *
          have hc5 : wS.cell? ⟨g2, i * 7 + 5, none⟩ = some (.slice po act.params.length pc) := hg7 5 (by omega)
          have HC5 : Hid (∀ X, SP wS X B1 → X.cell? ⟨g2, i * 7 + 5, none⟩ = some (.slice po act.params.length pc)) := Lib.hid (fun X hX => (World.cell?_of_block (a := ⟨g2, i * 7 + 5, none⟩) ((hX.kept g2 _ HCG.out (.inl (fun c e => absurd (Obj.cells.inj e).2.1 (by decide)))).trans HCG.out.symm)).trans hc5)
          have HA1 := Lib.hid hg8
          have hpl1 : act.params.length ≤ pc := hg8.nums.le
          have hpl2 : pc ≤ 9223372036854775807 := hg8.nums.max
          have hcq := HC5.out _ HSP.out
          clear hg3 hg4 hg7 hg8 hc5 hcg hgV
          generalize hN : act.params.length = N at *
          have HN := Lib.hid hN
          clear hN
          go_wp2_with fail
          generalize wr = wo2 at *
          clear hcq
          go_loopg [51] N (fun gg s51 wq => ∃ j : Nat, s51 = .int .i64 j ∧ j ≤ N ∧ N - j ≤ gg ∧ Hid (SP wS wq B1))
          case atStart => exact ⟨0, rfl, Nat.zero_le _, by omega, HSP⟩
          case round =>
            clear HSP
            obtain ⟨j, rfl, hj, hjg, HSQ⟩ := hrel
            have hcq := HC5.out _ HSQ.out
            by_cases hjN : j < N
            · obtain ⟨b5, off5, u5, rfl, hd, hf, hst⟩ := HSQ.out.num HA1.out (k := j) (by rw [HN.out]; exact hjN)
              have HST := Lib.hid hst
              have hjN1 : (j : Int) < (N : Int) := by omega
              clear hst
              go_wp2_with fail
              go_roundg (N - (j + 1))
              case measure => omega
              case rel => exact ⟨j + 1, by go_num, by omega, Nat.le_refl _, HST⟩
            · obtain rfl : j = N := by omega
              go_wp2_with fail
              go_roundg (M - (i + 1))
              case measure => omega
              case rel => exact ⟨i + 1, by go_num, by omega, Nat.le_refl _, HSQ⟩
        · obtain rfl : i = M := by omega
          have HEND := Lib.hid (HSP.out.ep HEX.out hpw hsx HT.out)
          go_wp2_with fail
          go_roundg (n - (k + 1))
          case measure => omega
          case rel => exact ⟨k + 1, by go_num, by omega, Nat.le_refl _, Lib.hid ⟨_, _, _, _, _, _, _, _, HEND.out, HG2.out⟩⟩
    · obtain rfl : k = n := by omega
      have HBE := Lib.hid hF.op.bel
      clear hF
      go_wp2_with fail
      go_ret
      exact ⟨rfl, HBE.out⟩
end Go.Proofs.YtgkodjkhhmcnnaaDoor
