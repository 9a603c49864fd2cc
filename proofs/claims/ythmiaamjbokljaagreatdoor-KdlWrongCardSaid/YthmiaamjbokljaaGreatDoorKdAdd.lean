/- gather: its own function, and it. -/
import Derived.Test.YthmiaamjbokljaaGreatDoorKdGather
namespace Go.Proofs.YthmiaamjbokljaaGreatDoor
open Go.RowKit
abbrev kd.gF (f depth : Nat) (all : List (kd.Node × Nat)) (n : kd.Node) : List (kd.Node × Nat) := if 12 < depth ∨ 300 < all.length then all else kd.gather f n.kids (depth + 1) (all ++ [(n, depth)])
theorem kd.gF_stop (f depth : Nat) (all : List (kd.Node × Nat)) (h : 12 < depth ∨ 300 < all.length) : ∀ ns : List kd.Node, ns.foldl (kd.gF f depth) all = all
  | [] => rfl
  | n :: r => by rw [List.foldl_cons, show kd.gF f depth all n = all from if_pos h]; exact kd.gF_stop f depth all h r
theorem kd.gather_le : ∀ (f : Nat) (ns : List kd.Node) (depth : Nat) (all : List (kd.Node × Nat)), all.length ≤ 301 → (kd.gather f ns depth all).length ≤ 301
  | 0, _, _, _, h => h
  | f + 1, ns, depth, all, h => by
    unfold kd.gather
    induction ns generalizing all with
    | nil => exact h
    | cons n r ih =>
      rw [List.foldl_cons]
      refine ih _ ?_
      split
      · exact h
      · exact kd.gather_le f _ _ _ (by rw [List.length_append, List.length_singleton]; omega)
abbrev addV (ba bf : Nat) : Value := .func (.func 25) #[] #[.pointer (some ⟨ba, 0, none⟩), .pointer (some ⟨bf, 0, none⟩)]
structure GAt (w : World) (B ba bf : Nat) (all : List (kd.Node × Nat)) (V : Value) : Prop where
  box : w.heap[ba]? = some (.cells #[V] 49 (0, 0))
  fn : w.heap[bf]? = some (.cells #[addV ba bf] 70 (0, 0))
  row : ∃ cs, w.ownsRow B 68 5 V all.length cs ∧ PlC w (· < B) all cs
  ba_ : B ≤ ba
  bf_ : B ≤ bf
theorem GAt.below {w w' : World} {B ba bf : Nat} {all : List (kd.Node × Nat)} {V : Value} (h : GAt w B ba bf all V) (hb : Below w.heap.size w w') : GAt w' B ba bf all V := by
  obtain ⟨cs, h1, h2⟩ := h.row
  exact ⟨(hb.block _ (heap_lt h.box)).trans h.box, (hb.block _ (heap_lt h.fn)).trans h.fn, ⟨cs, row_below h1 hb, PlC.keep (fun k _ hk => hb.block k hk) hb.size (fun _ hk _ => hk) _ _ h2⟩, h.ba_, h.bf_⟩
/-- behind an append to the row, and the store of where it lies now -/
theorem GAt.put {w w' : World} {B ba bf : Nat} {all : List (kd.Node × Nat)} {V V' : Value} (h : GAt w B ba bf all V) {n : kd.Node} {d : Nat} {c0 c1 c2 c3 : Value} (hn : NodeC w (· < B) n [c0, c1, c2, c3]) (hBw : B ≤ w.heap.size)
    (hr : ∀ cs, w.ownsRow B 68 5 V all.length cs → w'.ownsRow B 68 5 V' (all.length + 1) (cs ++ [c0, c1, c2, c3, .int .i64 d])) (hg : w.grownBy w' V.ownBlock) : GAt (w'.setCell ⟨ba, 0, none⟩ V') B ba bf (all ++ [(n, d)]) V' ∧ w'.heap[ba]? = some (.cells #[V] 49 (0, 0)) ∧ (∀ k o, w.heap[k]? = some o → (∀ cur, o ≠ Obj.cells cur 68 (0, 0)) → k ≠ ba → (w'.setCell ⟨ba, 0, none⟩ V').heap[k]? = some o) ∧ Below B w (w'.setCell ⟨ba, 0, none⟩ V') := by
  obtain ⟨cs, h1, h2⟩ := h.row
  have hty : ∀ k o, w.heap[k]? = some o → (∀ cur, o ≠ Obj.cells cur 68 (0, 0)) → w'.heap[k]? = some o := fun k o hk ho => (hg.block k (heap_lt hk) (fun e => by
    obtain ⟨cur, hc⟩ := own_type h1 e.symm
    rw [hk] at hc
    exact ho cur (Option.some.inj hc))).trans hk
  have hbox := hty ba _ h.box (fun cur e => by injection e with _ e2; exact absurd e2 (by decide))
  have hfn := hty bf _ h.fn (fun cur e => by injection e with _ e2; exact absurd e2 (by decide))
  have hlow : ∀ k, k < B → w'.heap[k]? = w.heap[k]? := fun k hk => hg.block k (by omega) (fun e => by have := (h1.lt k e.symm).1; omega)
  have hne : bf ≠ ba := by
    rintro rfl
    have := h.fn.symm.trans h.box
    injection this with this
    injection this with _ e2
    exact absurd e2 (by decide)
  have hba := h.ba_
  have hset : ∀ k, k ≠ ba → (w'.setCell ⟨ba, 0, none⟩ V').heap[k]? = w'.heap[k]? := fun k hk => Below.heap_setCell w' ⟨ba, 0, none⟩ V' k hk
  have hlow2 : ∀ k, k < B → k < w.heap.size → (w'.setCell ⟨ba, 0, none⟩ V').heap[k]? = w.heap[k]? := fun k hk _ => (hset k (by omega)).trans (hlow k hk)
  have hsz : w.heap.size ≤ (w'.setCell ⟨ba, 0, none⟩ V').heap.size := by simpa using hg.size
  refine ⟨⟨heap_setCell_same w' ba 0 _ _ V' hbox, (hset bf hne).trans hfn, ⟨cs ++ [c0, c1, c2, c3, .int .i64 d], ?_, PlC.snoc (NodeC.keep hlow2 hsz (fun _ hk _ => hk) _ _ hn) _ _ (PlC.keep hlow2 hsz (fun _ hk _ => hk) _ _ h2)⟩, h.ba_, h.bf_⟩, hbox, fun k o hk ho hkb => (hset k hkb).trans (hty k o hk ho), hg.os, hg.tape, hg.output, hsz, fun k hk => hlow2 k hk (by omega)⟩
  rw [List.length_append, List.length_singleton]
  refine own_keep (hr cs h1) (fun g cur _ _ _ hc => hset g ?_)
  rintro rfl
  rw [hbox] at hc
  injection hc with hc
  injection hc with _ e2
  exact absurd e2 (by decide)
theorem run_app_pl (w : World) (B : Nat) (V : Value) (n : Nat) (hBw : B ≤ w.heap.size) (g0 d : Nat) (c0 c1 c2 c3 : Value) (h1 : c0.oneCell' = true ∧ c1.oneCell' = true ∧ c2.oneCell' = true ∧ c3.oneCell' = true) (hg : w.heap[g0]? = some (plO c0 c1 c2 c3 d)) (hn : n ≤ 301) (hsome : ∃ cs, w.ownsRow B 68 5 V n cs) (ty : TypeId) :
    ∃ V' w', (Builtin.append_ #[49, 49] ty #[V, .slice (some ⟨g0, 0, none⟩) 1 1]).run Tryz.prog w = .ok V' w' ∧ (∀ cs, w.ownsRow B 68 5 V n cs → w'.ownsRow B 68 5 V' (n + 1) (cs ++ [c0, c1, c2, c3, .int .i64 d])) ∧ w.grownBy w' V.ownBlock := by
  obtain ⟨i0, hi, hz0, hz1, hz2⟩ := info_parts infoPl
  have hone : ∀ u ∈ [c0, c1, c2, c3, Value.int .i64 d], u.oneCell' = true := by
    intro u hu
    simp at hu
    rcases hu with rfl | rfl | rfl | rfl | rfl
    · exact h1.1
    · exact h1.2.1
    · exact h1.2.2.1
    · exact h1.2.2.2
    · rfl
  have hnews : ∀ j u, [c0, c1, c2, c3, Value.int .i64 d][j]? = some u → w.cell? ((⟨g0, 0, none⟩ : Addr).add j) = some u := fun j u hu => by rw [addr_b0, cell_of_heap hg]; simpa using hu
  obtain ⟨cs, hown⟩ := hsome
  obtain ⟨V', w', hrun, r1, r2, r3⟩ := run_append_own (P := Tryz.prog) w B 49 ty 68 i0 _ 5 96 Tryz.underlying49 hi hz0 hz1 hz2 rfl (by omega) V n cs hown ⟨g0, 0, none⟩ 1 1 [c0, c1, c2, c3, .int .i64 d] rfl hnews hone (by unfold maxLen; omega) (by omega) hBw
  refine ⟨V', w', hrun, fun cs' hown' => ?_, r2⟩
  obtain ⟨V2, w2, hrun2, q1, q2, q3⟩ := run_append_own (P := Tryz.prog) w B 49 ty 68 i0 _ 5 96 Tryz.underlying49 hi hz0 hz1 hz2 rfl (by omega) V n cs' hown' ⟨g0, 0, none⟩ 1 1 [c0, c1, c2, c3, .int .i64 d] rfl hnews hone (by unfold maxLen; omega) (by omega) hBw
  rw [hrun] at hrun2
  injection hrun2 with e1 e2
  subst e1 e2
  exact q1
theorem wpList_app_pl {w : World} {ops : Array Oper} {rest : List Oper} {o : Oper} {a : Act} {Q : Exit → Act → World → Prop} (hgd : o.guard = none) (s x : Operand)
    (ho : o.op = .call { callee := .builtin .append, args := #[s, x], argTypes := #[49, 49] }) (B : Nat) (V : Value) (n : Nat) (hs : a.eval s = V) (hBw : B ≤ w.heap.size)
    (g0 d : Nat) (c0 c1 c2 c3 : Value) (hx : a.eval x = .slice (some ⟨g0, 0, none⟩) 1 1) (h1 : c0.oneCell' = true ∧ c1.oneCell' = true ∧ c2.oneCell' = true ∧ c3.oneCell' = true) (hg : w.heap[g0]? = some (plO c0 c1 c2 c3 d)) (hn : n ≤ 301) (hsome : ∃ cs, w.ownsRow B 68 5 V n cs)
    (h : ∀ V' w', (∀ cs, w.ownsRow B 68 5 V n cs → w'.ownsRow B 68 5 V' (n + 1) (cs ++ [c0, c1, c2, c3, .int .i64 d])) → w.grownBy w' V.ownBlock → wpList Tryz.prog ops Q rest (a.put o.dst V') w') :
    wpList Tryz.prog ops Q (o :: rest) a w := by
  refine wpList_plain hgd fun K hK => ?_
  obtain ⟨V', w', hr, h2, h3⟩ := run_app_pl w B V n hBw g0 d c0 c1 c2 c3 h1 hg hn hsome o.type
  unfold Oper.wp execOp
  simp only [ho, resolve, invoke, builtin, Sem.run_bind, Sem.run_pure, Result.andThen_ok, List.map_toArray, List.map_cons, List.map_nil, hs, hx, hr]
  exact hK _ _ (h V' w' h2 h3)
/-- the contract of gather's own function, at a fuel -/
def AddC (f : Nat) : Prop := ∀ (o : Option Addr) (n cap : Nat) (ns : List kd.Node) (depth B ba bf : Nat) (all : List (kd.Node × Nat)) (V : Value) (w : World), NodesIn w (· < B) (.slice o n cap) ns → GAt w B ba bf all V → B ≤ w.heap.size → depth ≤ 13 → 14 ≤ depth + f → all.length ≤ 301 →
  Calls Tryz.prog 25 #[.slice o n cap, .int .i64 depth, .pointer (some ⟨ba, 0, none⟩), .pointer (some ⟨bf, 0, none⟩)] w fun ev w' => ev = .returned (.tuple #[]) ∧ (∃ V', GAt w' B ba bf (kd.gather f ns depth all) V') ∧ Below B w w'
set_option maxRecDepth 100000 in
set_option maxHeartbeats 3200000 in
theorem add_ct (f : Nat) (ih : AddC f) : AddC (f + 1) := by
  intro o n cap ns depth B ba bf all V w hns hga hBw hd hf hal
  obtain ⟨R, hR⟩ : ∃ R, kd.gather (f + 1) ns depth all = R := ⟨_, rfl⟩
  rw [hR]
  have hR0 : R = (ns.drop 0).foldl (kd.gF f depth) all := by rw [← hR]; rfl
  obtain ⟨rfl, hle, hm⟩ := hns.shape
  have HNS := Lib.hid hns
  have HIH := Lib.hid ih
  have H0 := Lib.hid (And.intro hga (And.intro hR0 hal))
  clear hns hga hR hR0 ih hal
  go_enter Tryz.func25, Tryz.ntmps25
  go_wp2_with fail
  go_loopg [10] ns.length (fun gg s10 wr => ∃ (k : Nat) (all : List (kd.Node × Nat)) (V : Value), s10 = .int .i64 k ∧ k ≤ ns.length ∧ ns.length - k ≤ gg ∧ Hid (GAt wr B ba bf all V ∧ R = (ns.drop k).foldl (kd.gF f depth) all ∧ all.length ≤ 301 ∧ Below B w wr))
  case atStart => exact ⟨0, all, V, rfl, Nat.zero_le _, by omega, Lib.hid ⟨H0.out.1, H0.out.2.1, H0.out.2.2, (Below.refl w.heap.size w).mono hBw⟩⟩
  case round =>
    clear H0
    obtain ⟨k, all, V, rfl, hk, hgg, HA⟩ := hrel
    by_cases hlt : k < ns.length
    case neg =>
      have HE : Hid (R = all) := Lib.hid (by rw [HA.out.2.1, List.drop_eq_nil_of_le (by omega)]; rfl)
      have hki : ¬ (k : Int) < (ns.length : Int) := by omega
      go_wp2_with fail
      go_end0
      exact ⟨rfl, ⟨V, by rw [HE.out]; exact HA.out.1⟩, HA.out.2.2.2⟩
    case pos =>
      have hki : (k : Int) < (ns.length : Int) := by omega
      have HNW := Lib.hid (HNS.out.keep (w' := wr) (fun q hq hql => HA.out.2.2.2.block q hq) HA.out.2.2.2.size (fun _ hq _ => hq))
      obtain ⟨b, off, c0, c1, c2, c3, rfl, hb, hD, hn, e0, e1, e2, e3⟩ := HNW.out.node hlt
      obtain ⟨nm, a1, a2, a3, b1, b2, b3, q1, q2, q3, rfl, rfl, rfl, rfl⟩ := hn.shape
      have hst : R = (ns.drop (k + 1)).foldl (kd.gF f depth) (kd.gF f depth all ns[k]) := by
        rw [HA.out.2.1, List.drop_eq_getElem_cons hlt, List.foldl_cons]
      have HNC := Lib.hid hn
      have HST := Lib.hid hst
      have HRB : Hid (all.length ≤ 300 → R = (ns.drop (k + 1)).foldl (kd.gF f depth) (if 12 < depth then all else kd.gather f ns[k].kids (depth + 1) (all ++ [(ns[k], depth)]))) := Lib.hid (fun h => by
        rw [hst]; congr 1; unfold kd.gF; by_cases h12 : 12 < depth
        · rw [if_pos (.inl h12), if_pos h12]
        · rw [if_neg (by omega), if_neg h12])
      have HSP : Hid (12 < depth ∨ 300 < all.length → R = all) := Lib.hid (fun h => by rw [HA.out.2.1]; exact kd.gF_stop f depth all h _)
      generalize ns[k] = nd at *
      clear hst hn
      have hb2 := below_one wr (nodeO (str nm) (.slice a1 a2 a3) (.slice b1 b2 b3) (.slice q1 q2 q3))
      have HG2 := Lib.hid (HA.out.1.below hb2)
      have HN2 := Lib.hid (heap_alloc_new wr (nodeO (str nm) (.slice a1 a2 a3) (.slice b1 b2 b3) (.slice q1 q2 q3)))
      have HB2 := Lib.hid (HA.out.2.2.2.trans (hb2.mono (Nat.le_trans hBw (by have := HA.out.2.2.2.size; exact this))))
      have hwr : B ≤ wr.heap.size := Nat.le_trans hBw HA.out.2.2.2.size
      have hal := HA.out.2.2.1
      obtain ⟨aoV, cV, hVe⟩ : ∃ aoV cV, V = .slice aoV all.length cV := by
        obtain ⟨cs, h1, -⟩ := HA.out.1.row
        exact own_slice h1
      subst hVe
      have hbox := HG2.out.box
      have hfnb := HG2.out.fn
      have HBR := Lib.hid (hb2.mono hwr)
      have hgne : wr.heap.size ≠ ba := by have := heap_lt HA.out.1.box; omega
      clear hb2 HA
      go_upto_region 3 with fail
      generalize wr.alloc (nodeO (str nm) (.slice a1 a2 a3) (.slice b1 b2 b3) (.slice q1 q2 q3)) = w2 at *
      generalize hg7 : wr.heap.size = g7 at *
      have v0 : w2.cell? ⟨ba, 0, none⟩ = some (.slice aoV all.length cV) := (cell_of_heap hbox).trans rfl
      have y0 : w2.frozen? ⟨ba, 0, none⟩ = false := by simp [World.frozen?, hbox]
      have z0 : w2.cell? ⟨bf, 0, none⟩ = some (addV ba bf) := (cell_of_heap hfnb).trans rfl
      have hbau := heap_lt hbox
      have hbfu := heap_lt hfnb
      have hN2 := HN2.out
      obtain ⟨n0, n1, n2, n3, _, _, _, _, hnu⟩ := node_cells hN2
      clear hN2 e0 e1 e2 e3 hg7 hbox hfnb
      by_cases h12 : 12 < depth
      case pos =>
        have h12i : (12 : Int) < (depth : Int) := by omega
        have HE : Hid (R = all) := Lib.hid (HSP.out (.inl h12))
        go_wp2_with fail
        refine bodyPost_ret (results_none rfl _ _ _) rfl ?_
        exact ⟨rfl, ⟨_, by rw [HE.out]; exact HG2.out⟩, HB2.out⟩
      have h12i : ¬ (12 : Int) < (depth : Int) := by omega
      by_cases h300 : 300 < all.length
      case pos =>
        have h300i : (300 : Int) < (all.length : Int) := by omega
        have HE : Hid (R = all) := Lib.hid (HSP.out (.inr h300))
        go_wp2_with fail
        refine bodyPost_ret (results_none rfl _ _ _) rfl ?_
        exact ⟨rfl, ⟨_, by rw [HE.out]; exact HG2.out⟩, HB2.out⟩
      have h300i : ¬ (300 : Int) < (all.length : Int) := by omega
      have hst := HRB.out (by omega)
      rw [if_neg h12] at hst
      clear HST HRB HSP
      have HST := Lib.hid hst
      have hb3 := below_one w2 (plO (str nm) (.slice a1 a2 a3) (.slice b1 b2 b3) (.slice q1 q2 q3) depth)
      have HG3 := Lib.hid (HG2.out.below hb3)
      have HP3 := Lib.hid (heap_alloc_new w2 (plO (str nm) (.slice a1 a2 a3) (.slice b1 b2 b3) (.slice q1 q2 q3) depth))
      have hw2 : B ≤ w2.heap.size := by have := HG2.out.ba_; omega
      have HB3 := Lib.hid (HB2.out.trans (hb3.mono hw2))
      have HSM : Hid (∃ cs, (w2.alloc (plO (str nm) (.slice a1 a2 a3) (.slice b1 b2 b3) (.slice q1 q2 q3) depth)).ownsRow B 68 5 (.slice aoV all.length cV) all.length cs) := Lib.hid (by obtain ⟨cs, h1, -⟩ := HG3.out.row; exact ⟨cs, h1⟩)
      have hB3 : B ≤ (w2.alloc (plO (str nm) (.slice a1 a2 a3) (.slice b1 b2 b3) (.slice q1 q2 q3) depth)).heap.size := by simp; omega
      have HNC3 : Hid (NodeC (w2.alloc (plO (str nm) (.slice a1 a2 a3) (.slice b1 b2 b3) (.slice q1 q2 q3) depth)) (· < B) nd [str nm, .slice a1 a2 a3, .slice b1 b2 b3, .slice q1 q2 q3]) := Lib.hid (by
        have hbb := HBR.out.trans (hb3.mono hw2)
        exact NodeC.keep (fun q hq _ => hbb.block q hq) hbb.size (fun _ hq _ => hq) _ _ HNC.out)
      have HN3 := Lib.hid ((hb3.block g7 hnu).trans HN2.out)
      clear hst hb3 HNC HBR
      go_wp2_with (at_builtin; refine wpList_app_pl rfl _ _ rfl B (.slice aoV all.length cV) all.length rfl hB3 w2.heap.size depth (str nm) (.slice a1 a2 a3) (.slice b1 b2 b3) (.slice q1 q2 q3) rfl ⟨rfl, rfl, rfl, rfl⟩ HP3.out hal HSM.out ?_)
      intro V' w4 r1 r2
      obtain ⟨aoW, cW, hVW⟩ : ∃ aoW cW, V' = .slice aoW (all.length + 1) cW := by
        obtain ⟨cs, h1⟩ := HSM.out
        exact own_slice (r1 cs h1)
      subst hVW
      obtain ⟨hg5, hbox4, hoth, hB5⟩ := HG3.out.put HNC3.out hB3 r1 r2
      have HN5 := Lib.hid (hoth g7 _ HN3.out (fun cur e => by injection e with _ e2; exact absurd e2 (by decide)) hgne)
      have HNC5 := Lib.hid (NodeC.keep (fun q hq _ => hB5.block q hq) hB5.size (fun _ hq _ => hq) _ _ HNC3.out)
      have HG5 := Lib.hid hg5
      have HB5 := Lib.hid (HB3.out.trans hB5)
      have v4 : w4.cell? ⟨ba, 0, none⟩ = some (.slice aoV all.length cV) := (cell_of_heap hbox4).trans rfl
      have y4 : w4.frozen? ⟨ba, 0, none⟩ = false := by simp [World.frozen?, hbox4]
      have hba4 := heap_lt hbox4
      clear hg5 hbox4 hoth hB5 r1 r2 v0 y0 z0 n0 n1 n2 n3 HSM HP3 HG3 HNC3 HN3 HB3
      go_upto_region 5 with fail
      generalize w4.setCell ⟨ba, 0, none⟩ (.slice aoW (all.length + 1) cW) = w5 at *
      have z5 : w5.cell? ⟨bf, 0, none⟩ = some (addV ba bf) := (cell_of_heap HG5.out.fn).trans rfl
      have n5 : w5.cell? ⟨g7, 3, none⟩ = some (.slice q1 q2 q3) := (cell_of_heap HN5.out).trans rfl
      have HC := Lib.hid (HIH.out q1 q2 q3 nd.kids (depth + 1) B ba bf _ _ w5 HNC5.out.kids HG5.out (by have := HG5.out.ba_; have := heap_lt HG5.out.box; omega) (by omega) (by omega) (by rw [List.length_append, List.length_singleton]; omega))
      rw [show (((depth + 1 : Nat)) : Int) = (depth : Int) + 1 by omega] at HC
      have HLE := Lib.hid (kd.gather_le f nd.kids (depth + 1) (all ++ [(nd, depth)]) (by rw [List.length_append, List.length_singleton]; omega))
      clear v4 y4
      go_wp2_with fail
      refine HC.out.mono ?_
      rintro ev w6 ⟨rfl, ⟨V6, hg6⟩, hb6⟩
      have HG6 := Lib.hid hg6
      have HB6 := Lib.hid (HB5.out.trans hb6)
      clear hg6 hb6 z5 n5
      go_wp2_with fail
      go_roundg (ns.length - (k + 1))
      case measure => omega
      case rel => exact ⟨k + 1, _, V6, by go_num, by omega, Nat.le_refl _, Lib.hid ⟨HG6.out, HST.out, HLE.out, HB6.out⟩⟩
end Go.Proofs.YthmiaamjbokljaaGreatDoor
