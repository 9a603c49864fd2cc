/- node: one node. -/
import Derived.Test.YthmiaamjbokljaaGreatDoorKdKids
namespace Go.Proofs.YthmiaamjbokljaaGreatDoor
open Go.RowKit
/-- what node makes of what kids says -/
def kd.nodeEnd (e : Nat) (nm : List UInt8) (vs : List kd.Val) (ps : List kd.Prp) (K : kd.Ans (List kd.Node)) : kd.Ans kd.Node :=
  match K with
  | .bad c x s4 => .bad c x s4
  | .ok ks s4 => if (kd.peek e s4).kind ≠ 0 ∧ (kd.peek e s4).kind ≠ 5 ∧ kd.isSign (kd.peek e s4) 125 = false then .bad (kd.stray (kd.peek e s4)) (kd.peek e s4).at_ s4 else .ok (.mk nm vs ps ks) s4
theorem results_two_cells {P : Program} {fn : Func} {p u : Tmp} {ty tz : TypeId} (h : fn.results = #[.cell p ty, .cell u tz]) (tmps : Array Value) (w : World) (g k : Nat) (t t' : TypeId) (cs ds : Array Value) (fr fr' : Nat × Nat) (d d' : TypeDesc)
    (hp : tmps.getD p undef = .pointer (some ⟨g, 0, none⟩)) (hg : w.heap[g]? = some (.cells cs t fr)) (hu : P.underlying ty = some d) (hd : (match d with | .struct _ | .array _ _ => true | _ => false) = true) (hi : (P.info? ty).map (·.size) = some cs.size)
    (hp' : tmps.getD u undef = .pointer (some ⟨k, 0, none⟩)) (hg' : w.heap[k]? = some (.cells ds t' fr')) (hu' : P.underlying tz = some d') (hd' : (match d' with | .struct _ | .array _ _ => true | _ => false) = true) (hi' : (P.info? tz).map (·.size) = some ds.size) :
    (results fn tmps).run P w = .ok (.tuple #[.agg cs, .agg ds]) w := by
  have e : (results fn tmps).run P w = ((asAddr (tmps.getD p undef)).run P w).andThen fun a w₁ => ((loadVar ty a).run P w₁).andThen fun v w₂ => ((asAddr (tmps.getD u undef)).run P w₂).andThen fun b w₃ => ((loadVar tz b).run P w₃).andThen fun x w₄ => .ok (.tuple #[v, x]) w₄ := by
    simp only [results, h]
    simp [Sem.run_bind, Result.andThen]
  rw [e, hp, hp']
  simp [asAddr, run_loadVar_row w g t ty cs fr d hg hu hd hi, run_loadVar_row w k t' tz ds fr' d' hg' hu' hd' hi', Result.andThen]
abbrev setNode (X : World) (b : Nat) (a0 a1 a2 a3 : Value) : World := (((X.setCell ⟨b, 0, none⟩ a0).setCell ⟨b, 1, none⟩ a1).setCell ⟨b, 2, none⟩ a2).setCell ⟨b, 3, none⟩ a3
abbrev setFault (X : World) (b : Nat) (c x : Int) : World := (X.setCell ⟨b, 0, none⟩ (.int .i64 c)).setCell ⟨b, 1, none⟩ (.int .i64 x)
abbrev nilV : Value := .slice none 0 0
theorem setNode_at {X : World} {b : Nat} {x0 x1 x2 x3 : Value} (h : X.heap[b]? = some (.cells #[x0, x1, x2, x3] 39 (0, 0))) (a0 a1 a2 a3 : Value) : (setNode X b a0 a1 a2 a3).heap[b]? = some (.cells #[a0, a1, a2, a3] 39 (0, 0)) := store4 h a0 a1 a2 a3
theorem setNode_far (X : World) (b : Nat) (a0 a1 a2 a3 : Value) (k : Nat) (hk : k ≠ b) : (setNode X b a0 a1 a2 a3).heap[k]? = X.heap[k]? :=
  (Below.heap_setCell _ ⟨b, 3, none⟩ a3 k hk).trans ((Below.heap_setCell _ ⟨b, 2, none⟩ a2 k hk).trans ((Below.heap_setCell _ ⟨b, 1, none⟩ a1 k hk).trans (Below.heap_setCell X ⟨b, 0, none⟩ a0 k hk)))
theorem setFault_at {X : World} {b : Nat} {x0 x1 : Value} (h : X.heap[b]? = some (.cells #[x0, x1] 30 (0, 0))) (c x : Int) : (setFault X b c x).heap[b]? = some (.cells #[.int .i64 c, .int .i64 x] 30 (0, 0)) :=
  heap_setCell_same _ b 1 _ _ (.int .i64 x) (heap_setCell_same X b 0 _ _ (.int .i64 c) h)
theorem setFault_far (X : World) (b : Nat) (c x : Int) (k : Nat) (hk : k ≠ b) : (setFault X b c x).heap[k]? = X.heap[k]? :=
  (Below.heap_setCell _ ⟨b, 1, none⟩ _ k hk).trans (Below.heap_setCell X ⟨b, 0, none⟩ _ k hk)
/-- where node stands: its answer's two blocks, the parser -/
structure NA (w wr : World) (p e : Nat) (s : kd.Ps) (o : Option Addr) (cap : Nat) : Prop where
  pr : PrAt wr p e s o cap
  n4 : wr.heap[w.heap.size]? = some (.cells #[str [], nilV, nilV, nilV] 39 (0, 0))
  f5 : wr.heap[w.heap.size + 1]? = some (.cells #[.int .i64 0, .int .i64 0] 30 (0, 0))
  fr : Fr (· = p) w wr
  lt : p < w.heap.size
/-- the answer's two blocks alone -/
structure NB (S : Nat → Prop) (w wr : World) : Prop where
  n4 : wr.heap[w.heap.size]? = some (.cells #[str [], nilV, nilV, nilV] 39 (0, 0))
  f5 : wr.heap[w.heap.size + 1]? = some (.cells #[.int .i64 0, .int .i64 0] 30 (0, 0))
  fr : Fr S w wr
theorem row_drew {X : World} {k : Nat} {o : Obj} (h : X.heap[k]? = some o) : X.drew.heap[k]? = some o := h
section
variable {w wr wr' : World} {p q e : Nat} {s s' : kd.Ps} {o o' : Option Addr} {cap cap' : Nat} {S : Nat → Prop}
theorem NA.below (h : NA w wr p e s o cap) (hb : Below wr.heap.size wr wr') : NA w wr' p e s o cap :=
  ⟨h.pr.below hb, (hb.block _ (heap_lt h.n4)).trans h.n4, (hb.block _ (heap_lt h.f5)).trans h.f5, h.fr.below hb, h.lt⟩
theorem NA.taken (h : NA w wr p e s o cap) (hp : PrAt wr' p e s' o' cap') (hf : Fr (· = p) wr wr') : NA w wr' p e s' o' cap' :=
  ⟨hp, (hf.block _ (heap_lt h.n4) (show ¬ _ = p by have := h.lt; omega)).trans h.n4, (hf.block _ (heap_lt h.f5) (show ¬ _ = p by have := h.lt; omega)).trans h.f5, h.fr.then hf, h.lt⟩
/-- behind a call that turns the parser and a new block -/
theorem NA.wide (h : NA w wr p e s o cap) (hq : w.heap.size + 1 < q) (hp : PrAt wr' p e s' o' cap') (hf : Fr (fun k => k = p ∨ k = q) wr wr') : NA w wr' p e s' o' cap' :=
  ⟨hp, (hf.block _ (heap_lt h.n4) (show ¬ (_ = p ∨ _ = q) by have := h.lt; omega)).trans h.n4, (hf.block _ (heap_lt h.f5) (show ¬ (_ = p ∨ _ = q) by have := h.lt; omega)).trans h.f5, h.fr.trans hf (fun k hk e => by rcases e with e | e; exact e; omega), h.lt⟩
theorem NA.nb (h : NA w wr p e s o cap) : NB (· = p) w wr := ⟨h.n4, h.f5, h.fr⟩
theorem NA.nb' (h : NA w wr p e s o cap) (hq : w.heap.size + 1 < q) (hf : Fr (fun k => k = p ∨ k = q) wr wr') : NB (· = p) w wr' :=
  ⟨(hf.block _ (heap_lt h.n4) (show ¬ (_ = p ∨ _ = q) by have := h.lt; omega)).trans h.n4, (hf.block _ (heap_lt h.f5) (show ¬ (_ = p ∨ _ = q) by have := h.lt; omega)).trans h.f5, h.fr.trans hf (fun k hk e => by rcases e with e | e; exact e; omega)⟩
theorem NB.below (h : NB S w wr) (hb : Below wr.heap.size wr wr') : NB S w wr' :=
  ⟨(hb.block _ (heap_lt h.n4)).trans h.n4, (hb.block _ (heap_lt h.f5)).trans h.f5, h.fr.below hb⟩
/-- the answer's blocks filled, in both orders -/
theorem NB.fill (h : NB S w wr) (a0 a1 a2 a3 : Value) (c x : Int) : (setFault (setNode wr w.heap.size a0 a1 a2 a3) (w.heap.size + 1) c x).heap[w.heap.size]? = some (.cells #[a0, a1, a2, a3] 39 (0, 0)) ∧ (setFault (setNode wr w.heap.size a0 a1 a2 a3) (w.heap.size + 1) c x).heap[w.heap.size + 1]? = some (.cells #[.int .i64 c, .int .i64 x] 30 (0, 0)) ∧ Fr S w (setFault (setNode wr w.heap.size a0 a1 a2 a3) (w.heap.size + 1) c x) := by
  refine ⟨(setFault_far _ _ _ _ _ (by omega)).trans (setNode_at h.n4 _ _ _ _), setFault_at ((setNode_far _ _ _ _ _ _ _ (by omega)).trans h.f5) c x, ?_⟩
  exact ((((((h.fr.setCell _ _ (.inl (Nat.le_refl _))).setCell _ _ (.inl (Nat.le_refl _))).setCell _ _ (.inl (Nat.le_refl _))).setCell _ _ (.inl (Nat.le_refl _))).setCell _ _ (.inl (Nat.le_succ _))).setCell _ _ (.inl (Nat.le_succ _)))
theorem NB.fill' (h : NB S w wr) (a0 a1 a2 a3 : Value) (c x : Int) : (setNode (setFault wr (w.heap.size + 1) c x) w.heap.size a0 a1 a2 a3).heap[w.heap.size]? = some (.cells #[a0, a1, a2, a3] 39 (0, 0)) ∧ (setNode (setFault wr (w.heap.size + 1) c x) w.heap.size a0 a1 a2 a3).heap[w.heap.size + 1]? = some (.cells #[.int .i64 c, .int .i64 x] 30 (0, 0)) ∧ Fr S w (setNode (setFault wr (w.heap.size + 1) c x) w.heap.size a0 a1 a2 a3) := by
  refine ⟨setNode_at ((setFault_far _ _ _ _ _ (by omega)).trans h.n4) _ _ _ _, (setNode_far _ _ _ _ _ _ _ (by omega)).trans (setFault_at h.f5 c x), ?_⟩
  exact ((((((h.fr.setCell _ _ (.inl (Nat.le_succ _))).setCell _ _ (.inl (Nat.le_succ _))).setCell _ _ (.inl (Nat.le_refl _))).setCell _ _ (.inl (Nat.le_refl _))).setCell _ _ (.inl (Nat.le_refl _))).setCell _ _ (.inl (Nat.le_refl _)))
end
theorem NB.fills {S : Nat → Prop} {w wr : World} (h : NB S w wr) (a0 a1 a2 a3 : Value) (c x : Int) : ((setFault (setNode wr w.heap.size a0 a1 a2 a3) (w.heap.size + 1) c x).drew.heap[w.heap.size]? = some (.cells #[a0, a1, a2, a3] 39 (0, 0)) ∧ (setFault (setNode wr w.heap.size a0 a1 a2 a3) (w.heap.size + 1) c x).drew.heap[w.heap.size + 1]? = some (.cells #[.int .i64 c, .int .i64 x] 30 (0, 0)) ∧ Fr S w (setFault (setNode wr w.heap.size a0 a1 a2 a3) (w.heap.size + 1) c x).drew) ∧
    ((setNode (setFault wr (w.heap.size + 1) c x) w.heap.size a0 a1 a2 a3).drew.heap[w.heap.size]? = some (.cells #[a0, a1, a2, a3] 39 (0, 0)) ∧ (setNode (setFault wr (w.heap.size + 1) c x) w.heap.size a0 a1 a2 a3).drew.heap[w.heap.size + 1]? = some (.cells #[.int .i64 c, .int .i64 x] 30 (0, 0)) ∧ Fr S w (setNode (setFault wr (w.heap.size + 1) c x) w.heap.size a0 a1 a2 a3).drew) := by
  obtain ⟨h1, h2, h3⟩ := h.fill a0 a1 a2 a3 c x
  obtain ⟨g1, g2, g3⟩ := h.fill' a0 a1 a2 a3 c x
  exact ⟨⟨row_drew h1, row_drew h2, h3.drew⟩, row_drew g1, row_drew g2, g3.drew⟩
theorem node_cells {w : World} {b : Nat} {a0 a1 a2 a3 : Value} (h : w.heap[b]? = some (.cells #[a0, a1, a2, a3] 39 (0, 0))) : w.cell? ⟨b, 0, none⟩ = some a0 ∧ w.cell? ⟨b, 1, none⟩ = some a1 ∧ w.cell? ⟨b, 2, none⟩ = some a2 ∧ w.cell? ⟨b, 3, none⟩ = some a3 ∧ w.frozen? ⟨b, 0, none⟩ = false ∧ w.frozen? ⟨b, 1, none⟩ = false ∧ w.frozen? ⟨b, 2, none⟩ = false ∧ w.frozen? ⟨b, 3, none⟩ = false ∧ b < w.heap.size := by
  refine ⟨(cell_of_heap h).trans rfl, (cell_of_heap h).trans rfl, (cell_of_heap h).trans rfl, (cell_of_heap h).trans rfl, ?_, ?_, ?_, ?_, heap_lt h⟩ <;> simp [World.frozen?, h]
theorem NA.count {w wr : World} {p e : Nat} {s : kd.Ps} {o : Option Addr} {cap : Nat} (h : NA w wr p e s o cap) (x : Int) (hx : x = (s.begun : Int) + 1) : NA w (wr.setCell ⟨p, 2, none⟩ (.int .i64 x)) p e { s with begun := s.begun + 1 } o cap :=
  ⟨h.pr.count x hx, heap_set_other wr _ _ (show _ ≠ p by have := h.lt; omega) h.n4, heap_set_other wr _ _ (show _ ≠ p by have := h.lt; omega) h.f5, h.fr.setCell _ _ (.inr rfl), h.lt⟩
/-- the parser and the node's rows behind the answer's stores -/
theorem NA.answer {w wr : World} {p e B : Nat} {s : kd.Ps} {o : Option Addr} {cap : Nat} (h : NA w wr p e s o cap) (hB : w.heap.size + 1 < B) (a0 a1 a2 a3 : Value) (c x : Int) {n : kd.Node} {cs : List Value} (hn : NodeC wr (Up B) n cs) :
    PrAt (setFault (setNode wr w.heap.size a0 a1 a2 a3) (w.heap.size + 1) c x) p e s o cap ∧ NodeC (setFault (setNode wr w.heap.size a0 a1 a2 a3) (w.heap.size + 1) c x) (Up w.heap.size) n cs := by
  have hl := h.lt
  refine ⟨(((((h.pr.set _ _ hl).set _ _ hl).set _ _ hl).set _ _ hl).set _ _ (show p < w.heap.size + 1 by omega)).set _ _ (show p < w.heap.size + 1 by omega), NodeC.keep (fun k hk _ => ?_) (by simp) (fun k hk _ => by have : B ≤ k := hk; show w.heap.size ≤ k; omega) _ _ hn⟩
  have : B ≤ k := hk
  exact (setFault_far _ _ _ _ _ (by omega)).trans (setNode_far _ _ _ _ _ _ _ (by omega))
theorem RowIn.fr {S D D' : Nat → Prop} {w w' : World} {V : Value} {size n : Nat} {cs : List Value} (h : RowIn w D V size n cs) (hf : Fr S w w') (hS : ∀ k, D k → k < w.heap.size → ¬ S k) (hd : ∀ k, D k → D' k) : RowIn w' D' V size n cs :=
  h.keep (fun k hk hlt => hf.block k hlt (hS k hk hlt)) hf.size fun k hk _ => hd k hk
set_option maxRecDepth 100000 in
set_option maxHeartbeats 6400000 in
theorem node_ct (f : Nat) (hK : KidsCt f) : NodeCt (f + 1) := by
  intro p e d s o cap w h hlim hbeg hf hd
  have hpl := h.lt
  have hw0 : NA w ((w.alloc (.cells #[str [], nilV, nilV, nilV] 39)).alloc (.cells #[.int .i64 0, .int .i64 0] 30)) p e s o cap := by
    have hb0 := below_one w (.cells #[str [], nilV, nilV, nilV] 39)
    have hb1 := below_one (w.alloc (.cells #[str [], nilV, nilV, nilV] 39)) (.cells #[.int .i64 0, .int .i64 0] 30)
    refine ⟨(h.below hb0).below hb1, (hb1.block _ (by simp)).trans (heap_alloc_new _ _), ?_, (Fr.of_below hb0 _).below hb1, hpl⟩
    have := heap_alloc_new (w.alloc (.cells #[str [], nilV, nilV, nilV] 39)) (.cells #[.int .i64 0, .int .i64 0] 30)
    rwa [World.size_alloc] at this
  have H0 := Lib.hid hw0
  obtain ⟨R, hR⟩ : ∃ R, kd.node e (f + 1) d s = R := ⟨_, rfl⟩
  rw [hR]
  unfold kd.node at hR
  dsimp only at hR
  obtain ⟨t, ht⟩ : ∃ t, kd.peek e s = t := ⟨_, rfl⟩
  have HTK := Lib.hid (take_any p e s o cap _ hw0.pr)
  rw [ht] at HTK hR
  have HR := Lib.hid hR
  have HT := Lib.hid ht
  have HLIM := Lib.hid hlim
  have HKC := Lib.hid hK
  clear hw0 hR ht h hlim hK
  go_enter Tryz.func38, Tryz.ntmps38
  go_wp2_with fail
  refine HTK.out.mono ?_
  rintro ev w1 ⟨rfl, ⟨o1, cap1, hpr⟩, hfr⟩
  have HA1 := Lib.hid (H0.out.taken hpr hfr)
  clear hpr hfr HTK H0
  have hb2 := below_one w1 (tokO t)
  have HA2 := Lib.hid (HA1.out.below hb2)
  have HT2 := Lib.hid (heap_alloc_new w1 (tokO t))
  have hm2 : w.heap.size + 1 < w1.heap.size := heap_lt HA1.out.f5
  clear hb2 HA1
  go_upto_region 2 with fail
  generalize w1.alloc (tokO t) = w2 at *
  generalize w1.heap.size = g6 at *
  obtain ⟨k0, k1, k2, k3⟩ := tokCells HT2.out
  go_wp2_with fail
  refine (kd.isName_any t w2).mono ?_
  rintro ev w3 ⟨rfl, hb3⟩
  have HA3 := Lib.hid (HA2.out.below hb3)
  have HT3 : Hid (w3.heap[g6]? = some (tokO t)) := Lib.hid ((hb3.block _ (heap_lt HT2.out)).trans HT2.out)
  clear hb3 HA2 HT2 k0 k1 k2 k3
  obtain ⟨k0, k1, k2, k3⟩ := tokCells HT3.out
  cases hn : kd.isName t
  case false =>
    have hR := HR.out
    rw [if_pos hn] at hR
    have HE := Lib.hid hR
    clear hR HR hn
    go_wp2_with fail
    refine (kd.stray_any t w3).mono ?_
    rintro ev w4 ⟨rfl, hb4⟩
    have HA4 := Lib.hid (HA3.out.below hb4)
    clear hb4 HA3 k0 k1 k2 k3
    have HF := Lib.hid (HA4.out.nb.fill (str []) nilV nilV nilV (kd.stray t : Nat) t.at_)
    obtain ⟨n0, n1, n2, n3, j0, j1, j2, j3, hnu⟩ := node_cells HA4.out.n4
    obtain ⟨d0, d1, e0, e1, hfu⟩ := fault_cells HA4.out.f5
    go_wp2_with fail
    refine bodyPost_ret (results_two_cells rfl _ _ w.heap.size (w.heap.size + 1) 39 30 _ _ (0, 0) (0, 0) _ _ rfl HF.out.1 Tryz.underlying39 rfl (by kernel_rfl) rfl HF.out.2.1 Tryz.underlying30 rfl (by kernel_rfl)) rfl ?_
    rw [← HE.out]
    exact ⟨rfl, HF.out.2.2, by unfold kd.stray; split <;> decide⟩
  case true =>
    have hR := HR.out
    rw [if_neg (by rw [hn]; decide)] at hR
    obtain ⟨r, hr⟩ : ∃ r, s.toks = t :: r := by
      have hn2 := hn
      rw [← HT.out] at hn2
      obtain ⟨t', r, h1, h2⟩ := kd.name_cons hn2
      exact ⟨r, by rw [h1, ← HT.out, h2]⟩
    have htk : kd.take s = ⟨r, s.begun⟩ := by unfold kd.take; rw [hr]; rfl
    rw [htk] at hR HA3
    have HLM : Hid (Lim ⟨r, s.begun + 1⟩ 0 ∧ 3 * r.length + 1 ≤ f) := Lib.hid ⟨⟨by have := HLIM.out.few; rw [hr, List.length_cons] at this; dsimp only; omega, fun x hx => HLIM.out.short x (by rw [hr]; exact List.mem_cons_of_mem _ hx)⟩, by rw [hr, List.length_cons] at hf; omega⟩
    have HR' := Lib.hid hR
    clear hR HR hn htk hr HT hf HLIM
    obtain ⟨b, hb⟩ : ∃ b, s.begun = b := ⟨_, rfl⟩
    rw [hb] at HR' HA3 HLM hbeg
    clear hb
    obtain ⟨c0, c1, c2, f0, f2, hpu⟩ := HA3.out.pr.cells
    have HA4 := Lib.hid (HA3.out.count ((b : Int) + 1) rfl)
    have HT4 : Hid ((w3.setCell ⟨p, 2, none⟩ (.int .i64 ((b : Int) + 1))).heap[g6]? = some (tokO t)) := Lib.hid (heap_set_other w3 _ _ (show g6 ≠ p by omega) HT3.out)
    have hwr : IntKind.i64.wrap ((b : Int) + 1) = (b : Int) + 1 := by rw [IntKind.wrap_i64]; omega
    clear c0 c1 f0 k0 k1 k2 k3
    go_upto_region 5 with fail
    generalize w3.setCell ⟨p, 2, none⟩ (.int .i64 ((b : Int) + 1)) = w4 at *
    clear c2 f2 hpu HA3 HT3
    obtain ⟨c0, c1, c2, f0, f2, hpu⟩ := HA4.out.pr.cells
    obtain ⟨k0, k1, k2, k3⟩ := tokCells HT4.out
    dsimp only at c2
    clear c0 c1 f0 f2
    by_cases h3 : 300 < b + 1
    · have hR := HR'.out
      rw [if_pos h3] at hR
      have HE := Lib.hid hR
      have h3i : decide ((300 : Int) < ((b + 1 : Nat) : Int)) = true := decide_eq_true (by omega)
      have h3j : (300 : Int) < (b : Int) + 1 := by omega
      clear hR HR'
      go_wp2_with fail
      refine (kd.fault_any 3 t w4).mono ?_
      rintro ev w5 ⟨rfl, hb5⟩
      have HA5 := Lib.hid (HA4.out.below hb5)
      clear hb5 HA4 k0 k1 k2 k3 c2
      have HF := Lib.hid (HA5.out.nb.fill (str []) nilV nilV nilV 3 t.at_)
      obtain ⟨n0, n1, n2, n3, j0, j1, j2, j3, hnu⟩ := node_cells HA5.out.n4
      obtain ⟨d0, d1, e0, e1, hfu⟩ := fault_cells HA5.out.f5
      go_wp2_with fail
      refine bodyPost_ret (results_two_cells rfl _ _ w.heap.size (w.heap.size + 1) 39 30 _ _ (0, 0) (0, 0) _ _ rfl HF.out.1 Tryz.underlying39 rfl (by kernel_rfl) rfl HF.out.2.1 Tryz.underlying30 rfl (by kernel_rfl)) rfl ?_
      rw [← HE.out]
      exact ⟨rfl, HF.out.2.2, by decide⟩
    · have hR := HR'.out
      rw [if_neg h3] at hR
      obtain ⟨P, hP⟩ : ∃ P, kd.parts e (r.length + 1) ⟨r, b + 1⟩ [] [] = P := ⟨_, rfl⟩
      rw [hP] at hR
      have HR := Lib.hid hR
      have HP := Lib.hid hP
      have h3i : decide ((300 : Int) < ((b + 1 : Nat) : Int)) = false := decide_eq_false (by omega)
      have h3j : ¬ (300 : Int) < (b : Int) + 1 := by omega
      have hb5 := below_one w4 (.cells #[str t.text, nilV, nilV, nilV] 39)
      have HA5 := Lib.hid (HA4.out.below hb5)
      have HN5 := Lib.hid (heap_alloc_new w4 (.cells #[str t.text, nilV, nilV, nilV] 39))
      have hm5 : w.heap.size + 1 < w4.heap.size := heap_lt HA4.out.f5
      have hp5 : p < w4.heap.size := HA4.out.pr.lt
      clear hR HR' hb5
      go_upto_region 8 with fail
      generalize w4.alloc (.cells #[str t.text, nilV, nilV, nilV] 39) = w5 at *
      generalize w4.heap.size = q at *
      have HPC := Lib.hid (parts_any p q e t.text nilV ⟨r, b + 1⟩ o1 cap1 (r.length + 1) w5 HA5.out.pr HN5.out hp5 (Nat.lt_succ_self _) HLM.out.1)
      rw [HP.out] at HPC
      clear k0 k1 k2 k3 c2 hpu HA4 HT4
      go_wp2_with fail
      refine HPC.out.mono ?_
      intro ev w6 hev
      cases hPc : P with
      | bad c x y =>
        rw [hPc] at hev
        obtain ⟨rfl, hfr, hc⟩ := hev
        have hci : ((c : Int) == 0) = false := by simp; omega
        have HB6 := Lib.hid (HA5.out.nb' hm5 hfr)
        have hb7 := below_one w6 (.cells #[.int .i64 c, .int .i64 x] 30)
        have HB7 := Lib.hid (HB6.out.below hb7)
        have hT7 := heap_alloc_new w6 (.cells #[.int .i64 c, .int .i64 x] 30)
        have HE : Hid (R = .bad c x y) := Lib.hid (by have := HR.out; rw [hPc] at this; exact this.symm)
        have HC := Lib.hid hc
        have hm6 : w.heap.size + 1 < w6.heap.size := heap_lt HB6.out.f5
        clear hb7 hfr HB6 HA5 HN5 HPC HR HP hc hPc HLM HKC
        go_upto_region 9 with fail
        generalize w6.alloc (.cells #[.int .i64 c, .int .i64 x] 30) = w7 at *
        generalize w6.heap.size = g8 at *
        obtain ⟨q0, q1, _, _, hqu⟩ := fault_cells hT7
        clear hT7
        have HF := Lib.hid (HB7.out.fills (str []) nilV nilV nilV c x)
        obtain ⟨n0, n1, n2, n3, j0, j1, j2, j3, hnu⟩ := node_cells HB7.out.n4
        obtain ⟨d0, d1, e0, e1, hfu⟩ := fault_cells HB7.out.f5
        go_wp2_with fail
        go_region
        all_goals go_wp2_with fail
        all_goals
          first
            | (refine bodyPost_ret (results_two_cells rfl _ _ w.heap.size (w.heap.size + 1) 39 30 _ _ (0, 0) (0, 0) _ _ rfl HF.out.1.1 Tryz.underlying39 rfl (by kernel_rfl) rfl HF.out.1.2.1 Tryz.underlying30 rfl (by kernel_rfl)) rfl ?_; rw [HE.out]; exact ⟨rfl, HF.out.1.2.2, HC.out⟩)
            | (refine bodyPost_ret (results_two_cells rfl _ _ w.heap.size (w.heap.size + 1) 39 30 _ _ (0, 0) (0, 0) _ _ rfl HF.out.2.1 Tryz.underlying39 rfl (by kernel_rfl) rfl HF.out.2.2.1 Tryz.underlying30 rfl (by kernel_rfl)) rfl ?_; rw [HE.out]; exact ⟨rfl, HF.out.2.2.2, HC.out⟩)
      | ok VL s3 =>
        rw [hPc] at hev
        obtain ⟨vs, ps⟩ := VL
        obtain ⟨rfl, hfr, ⟨o3, cap3, hpr⟩, VA, VP, hnd, hra, hrp⟩ := hev
        obtain ⟨oA, cA, hVA⟩ := own_slice hra
        obtain ⟨oP, cP, hVP⟩ := own_slice hrp
        have HA6 := Lib.hid (HA5.out.wide hm5 hpr hfr)
        have hb7 := below_one w6 (.cells #[.int .i64 0, .int .i64 0] 30)
        have HA7 := Lib.hid (HA6.out.below hb7)
        have hT7 := heap_alloc_new w6 (.cells #[.int .i64 0, .int .i64 0] 30)
        have HN7 := Lib.hid ((hb7.block q (heap_lt hnd)).trans hnd)
        have HRA := Lib.hid (row_below hra hb7)
        have HRP := Lib.hid (row_below hrp hb7)
        have hsuf := kd.parts_suf e _ _ _ _ _ _ (hPc ▸ HP.out)
        have hbg := kd.parts_beg e _ _ _ _ _ _ (hPc ▸ HP.out)
        have hq5 : q < w5.heap.size := heap_lt HN5.out
        have hKC := HKC.out p q e d t.text VA VP s3 o3 cap3 _ HA7.out.pr HN7.out hp5 (HLM.out.1.suf hsuf) (by rw [hbg]; dsimp only; omega) (by have := hsuf.length_le; have := HLM.out.2; dsimp only at *; omega) hd
        obtain ⟨K, hK⟩ : ∃ K, kd.kids e f d s3 = K := ⟨_, rfl⟩
        rw [hK] at hKC
        have HKK := Lib.hid hKC
        have HR2 : Hid (kd.nodeEnd e t.text vs ps K = R) := Lib.hid (by have := HR.out; rw [hPc] at this; dsimp only at this; rw [hK] at this; exact this)
        have hm6 : w.heap.size + 1 < w6.heap.size := heap_lt HA6.out.f5
        have h57 := Nat.le_trans hfr.size hb7.size
        clear hb7 hfr hpr hnd hra hrp HA5 HN5 HPC HR HP hPc HLM HKC hsuf hbg hKC hK HA6
        go_upto_region 9 with fail
        generalize w6.alloc (.cells #[.int .i64 0, .int .i64 0] 30) = w7 at *
        generalize w6.heap.size = g8 at *
        obtain ⟨q0, q1, _, _, hqu⟩ := fault_cells hT7
        clear hT7
        go_wp2_with fail
        refine HKK.out.mono ?_
        intro ev w8 hev
        clear q0 q1 hqu HKK
        cases hKc : K with
        | bad c x y =>
          rw [hKc] at hev
          obtain ⟨rfl, hfr, hc⟩ := hev
          have hci : ((c : Int) == 0) = false := by simp; omega
          have HB8 := Lib.hid (HA7.out.nb' hm5 hfr)
          have hb9 := below_one w8 (.cells #[.int .i64 c, .int .i64 x] 30)
          have HB9 := Lib.hid (HB8.out.below hb9)
          have hT9 := heap_alloc_new w8 (.cells #[.int .i64 c, .int .i64 x] 30)
          have HE : Hid (R = .bad c x y) := Lib.hid (by have := HR2.out; rw [hKc] at this; exact this.symm)
          have HC := Lib.hid hc
          have hm8 : w.heap.size + 1 < w8.heap.size := heap_lt HB8.out.f5
          clear hb9 hfr HB8 HA7 HN7 HRA HRP HR2 hc hKc
          go_upto_region 12 with fail
          generalize w8.alloc (.cells #[.int .i64 c, .int .i64 x] 30) = w9 at *
          generalize w8.heap.size = g9 at *
          obtain ⟨q0, q1, _, _, hqu⟩ := fault_cells hT9
          clear hT9
          have HF := Lib.hid (HB9.out.fills (str []) nilV nilV nilV c x)
          obtain ⟨n0, n1, n2, n3, j0, j1, j2, j3, hnu⟩ := node_cells HB9.out.n4
          obtain ⟨d0, d1, e0, e1, hfu⟩ := fault_cells HB9.out.f5
          go_wp2_with fail
          go_region
          all_goals go_wp2_with fail
          all_goals
            first
              | (refine bodyPost_ret (results_two_cells rfl _ _ w.heap.size (w.heap.size + 1) 39 30 _ _ (0, 0) (0, 0) _ _ rfl HF.out.1.1 Tryz.underlying39 rfl (by kernel_rfl) rfl HF.out.1.2.1 Tryz.underlying30 rfl (by kernel_rfl)) rfl ?_; rw [HE.out]; exact ⟨rfl, HF.out.1.2.2, HC.out⟩)
              | (refine bodyPost_ret (results_two_cells rfl _ _ w.heap.size (w.heap.size + 1) 39 30 _ _ (0, 0) (0, 0) _ _ rfl HF.out.2.1 Tryz.underlying39 rfl (by kernel_rfl) rfl HF.out.2.2.1 Tryz.underlying30 rfl (by kernel_rfl)) rfl ?_; rw [HE.out]; exact ⟨rfl, HF.out.2.2.2, HC.out⟩)
        | ok ks s4 =>
          rw [hKc] at hev
          obtain ⟨rfl, hfr, ⟨o4, cap4, hpr⟩, VK, hnd, hN⟩ := hev
          obtain ⟨oK, cK, hVK⟩ := hN.slice
          have HV := Lib.hid (And.intro hVA (And.intro hVP hVK))
          clear hVA hVP hVK
          have HA8 := Lib.hid (HA7.out.wide hm5 hpr hfr)
          have hb9 := below_one w8 (.cells #[.int .i64 0, .int .i64 0] 30)
          have HA9 := Lib.hid (HA8.out.below hb9)
          have hT9 := heap_alloc_new w8 (.cells #[.int .i64 0, .int .i64 0] 30)
          have HN9 := Lib.hid ((hb9.block q (heap_lt hnd)).trans hnd)
          have hw57 : w.heap.size + 1 < w5.heap.size := by omega
          have HNC : Hid (NodeC (w8.alloc (.cells #[.int .i64 0, .int .i64 0] 30)) (Up w5.heap.size) (.mk t.text vs ps ks) [str t.text, VA, VP, VK]) := Lib.hid (by
            unfold NodeC
            have hfb := hfr.below hb9
            have hno : ∀ k, w5.heap.size ≤ k → ¬ (k = p ∨ k = q) := fun k hk => by omega
            obtain ⟨kc, hkr, hkn⟩ := (hN.below hb9).wider (D' := Up w5.heap.size) (fun k hk => Nat.le_trans h57 hk)
            refine ⟨VA, VP, VK, rfl, ?_, ?_, kc, hkr, hkn⟩
            · exact (RowIn.of_own HRA.out (argsC_len vs) (Up w5.heap.size) (fun g hg => (HRA.out.lt g hg).1)).fr hfb (fun k hk _ => hno k hk) (fun k hk => hk)
            · exact (RowIn.of_own HRP.out (prpsC_len ps) (Up w5.heap.size) (fun g hg => (HRP.out.lt g hg).1)).fr hfb (fun k hk _ => hno k hk) (fun k hk => hk))
          have HR3 : Hid ((if (kd.peek e s4).kind ≠ 0 ∧ (kd.peek e s4).kind ≠ 5 ∧ kd.isSign (kd.peek e s4) 125 = false then kd.Ans.bad (kd.stray (kd.peek e s4)) (kd.peek e s4).at_ s4 else .ok (.mk t.text vs ps ks) s4) = R) := Lib.hid (by have := HR2.out; rw [hKc] at this; exact this)
          have hm8 : w.heap.size + 1 < w8.heap.size := heap_lt HA8.out.f5
          clear hb9 hfr HA8 HA7 HN7 HRA HRP HR2 hKc hpr hnd hN
          go_upto_region 12 with fail
          generalize w8.alloc (.cells #[.int .i64 0, .int .i64 0] 30) = w9 at *
          generalize w8.heap.size = g9 at *
          obtain ⟨q0, q1, _, _, hqu⟩ := fault_cells hT9
          clear hT9
          obtain ⟨n, hn⟩ : ∃ n, kd.peek e s4 = n := ⟨_, rfl⟩
          have HPK := Lib.hid (peek_any p e s4 o4 cap4 w9 HA9.out.pr)
          have hR3 := HR3.out
          rw [hn] at HPK hR3
          clear hn HR3
          have HR := Lib.hid hR3
          clear hR3
          go_wp2_with fail
          refine HPK.out.mono ?_
          rintro ev w10 ⟨rfl, hb10⟩
          have hb11 := below_one w10 (tokO n)
          have hb := hb10.trans (hb11.mono hb10.size)
          have HA11 := Lib.hid (HA9.out.below hb)
          have HN11 := Lib.hid ((hb.block q (heap_lt HN9.out)).trans HN9.out)
          have HNC11 := Lib.hid (NodeC.keep (fun k _ hk => hb.block k hk) hb.size (fun _ hd _ => hd) _ _ HNC.out)
          have HT11 := Lib.hid (heap_alloc_new w10 (tokO n))
          have hm10 : w.heap.size + 1 < w10.heap.size := Nat.lt_of_lt_of_le (heap_lt HA9.out.f5) hb10.size
          clear hb10 hb11 hb q0 q1 hqu HPK HA9 HN9 HNC
          go_upto_region 15 with fail
          generalize w10.alloc (tokO n) = w11 at *
          generalize w10.heap.size = g10 at *
          obtain ⟨k0, k1, k2, k3⟩ := tokCells HT11.out
          by_cases hk0 : n.kind = 0
          case pos =>
            have HE : Hid (R = .ok (.mk t.text vs ps ks) s4) := Lib.hid (by rw [← HR.out, if_neg (fun h => h.1 hk0)])
            clear HR
            obtain ⟨nk, nx, ni, ny⟩ := n
            dsimp only at hk0 k0 k1 k2 k3
            subst hk0
            have HF := Lib.hid (HA11.out.nb.fill (str t.text) VA VP VK 0 0)
            have HG := Lib.hid (HA11.out.answer (by omega) (str t.text) VA VP VK 0 0 HNC11.out)
            obtain ⟨n0, n1, n2, n3, j0, j1, j2, j3, hnu⟩ := node_cells HA11.out.n4
            obtain ⟨d0, d1, e0, e1, hfu⟩ := fault_cells HA11.out.f5
            obtain ⟨m0, m1, m2, m3, _, _, _, _, hmu⟩ := node_cells HN11.out
            obtain ⟨hVA, hVP, hVK⟩ := HV.out
            clear HV
            subst hVA hVP hVK
            go_wp2_with fail
            refine bodyPost_ret (results_two_cells rfl _ _ w.heap.size (w.heap.size + 1) 39 30 _ _ (0, 0) (0, 0) _ _ rfl HF.out.1 Tryz.underlying39 rfl (by kernel_rfl) rfl HF.out.2.1 Tryz.underlying30 rfl (by kernel_rfl)) rfl ?_
            rw [HE.out]
            exact ⟨_, _, _, _, rfl, HF.out.2.2, ⟨_, _, HG.out.1⟩, HG.out.2⟩
          have hk0i : ((n.kind : Int) == 0) = false := by simp; omega
          by_cases hk5 : n.kind = 5
          case pos =>
            have HE : Hid (R = .ok (.mk t.text vs ps ks) s4) := Lib.hid (by rw [← HR.out, if_neg (fun h => h.2.1 hk5)])
            clear HR hk0 hk0i
            obtain ⟨nk, nx, ni, ny⟩ := n
            dsimp only at hk5 k0 k1 k2 k3
            subst hk5
            have HF := Lib.hid (HA11.out.nb.fill (str t.text) VA VP VK 0 0)
            have HG := Lib.hid (HA11.out.answer (by omega) (str t.text) VA VP VK 0 0 HNC11.out)
            obtain ⟨n0, n1, n2, n3, j0, j1, j2, j3, hnu⟩ := node_cells HA11.out.n4
            obtain ⟨d0, d1, e0, e1, hfu⟩ := fault_cells HA11.out.f5
            obtain ⟨m0, m1, m2, m3, _, _, _, _, hmu⟩ := node_cells HN11.out
            obtain ⟨hVA, hVP, hVK⟩ := HV.out
            clear HV
            subst hVA hVP hVK
            go_wp2_with fail
            refine bodyPost_ret (results_two_cells rfl _ _ w.heap.size (w.heap.size + 1) 39 30 _ _ (0, 0) (0, 0) _ _ rfl HF.out.1 Tryz.underlying39 rfl (by kernel_rfl) rfl HF.out.2.1 Tryz.underlying30 rfl (by kernel_rfl)) rfl ?_
            rw [HE.out]
            exact ⟨_, _, _, _, rfl, HF.out.2.2, ⟨_, _, HG.out.1⟩, HG.out.2⟩
          have hk5i : ((n.kind : Int) == 5) = false := by simp; omega
          have HS := Lib.hid (kd.isSign_any n 125 w11)
          have HK0 := Lib.hid (And.intro hk0 hk5)
          have hk5j : ¬ (n.kind : Int) = 5 := by omega
          have b0 : ((n.kind : Int) != 0) = true := by simp; omega
          have b5 : ((n.kind : Int) != 5) = true := by simp; omega
          clear hk5
          go_wp2_with fail
          refine HS.out.mono ?_
          rintro ev w12 ⟨rfl, hb12⟩
          have HA12 := Lib.hid (HA11.out.below hb12)
          have HN12 := Lib.hid ((hb12.block q (heap_lt HN11.out)).trans HN11.out)
          have HNC12 := Lib.hid (NodeC.keep (fun k _ hk => hb12.block k hk) hb12.size (fun _ hd _ => hd) _ _ HNC11.out)
          have HT12 : Hid (w12.heap[g10]? = some (tokO n)) := Lib.hid ((hb12.block _ (heap_lt HT11.out)).trans HT11.out)
          clear HA11 HN11 HNC11 HT11 HS hb12 k0 k1 k2 k3
          cases hs : kd.isSign n 125
          case true =>
            have HE : Hid (R = .ok (.mk t.text vs ps ks) s4) := Lib.hid (by rw [← HR.out, if_neg (fun h => by rw [hs] at h; exact Bool.noConfusion h.2.2)])
            obtain ⟨k0, k1, k2, k3⟩ := tokCells HT12.out
            clear hs
            have HF := Lib.hid (HA12.out.nb.fill (str t.text) VA VP VK 0 0)
            have HG := Lib.hid (HA12.out.answer (by omega) (str t.text) VA VP VK 0 0 HNC12.out)
            obtain ⟨n0, n1, n2, n3, j0, j1, j2, j3, hnu⟩ := node_cells HA12.out.n4
            obtain ⟨d0, d1, e0, e1, hfu⟩ := fault_cells HA12.out.f5
            obtain ⟨m0, m1, m2, m3, _, _, _, _, hmu⟩ := node_cells HN12.out
            obtain ⟨hVA, hVP, hVK⟩ := HV.out
            clear HV
            subst hVA hVP hVK
            go_wp2_with fail
            refine bodyPost_ret (results_two_cells rfl _ _ w.heap.size (w.heap.size + 1) 39 30 _ _ (0, 0) (0, 0) _ _ rfl HF.out.1 Tryz.underlying39 rfl (by kernel_rfl) rfl HF.out.2.1 Tryz.underlying30 rfl (by kernel_rfl)) rfl ?_
            rw [HE.out]
            exact ⟨_, _, _, _, rfl, HF.out.2.2, ⟨_, _, HG.out.1⟩, HG.out.2⟩
          case false =>
            have HE : Hid (R = .bad (kd.stray n) n.at_ s4) := Lib.hid (by rw [← HR.out, if_pos ⟨HK0.out.1, HK0.out.2, hs⟩])
            obtain ⟨k0, k1, k2, k3⟩ := tokCells HT12.out
            clear hs
            go_wp2_with fail
            refine (kd.stray_any n w12).mono ?_
            rintro ev w13 ⟨rfl, hb13⟩
            have HA13 := Lib.hid (HA12.out.below hb13)
            clear hb13 HA12 k0 k1 k2 k3
            have HF := Lib.hid (HA13.out.nb.fill (str []) nilV nilV nilV (kd.stray n : Nat) n.at_)
            obtain ⟨n0, n1, n2, n3, j0, j1, j2, j3, hnu⟩ := node_cells HA13.out.n4
            obtain ⟨d0, d1, e0, e1, hfu⟩ := fault_cells HA13.out.f5
            go_wp2_with fail
            refine bodyPost_ret (results_two_cells rfl _ _ w.heap.size (w.heap.size + 1) 39 30 _ _ (0, 0) (0, 0) _ _ rfl HF.out.1 Tryz.underlying39 rfl (by kernel_rfl) rfl HF.out.2.1 Tryz.underlying30 rfl (by kernel_rfl)) rfl ?_
            rw [HE.out]
            exact ⟨rfl, HF.out.2.2, by unfold kd.stray; split <;> decide⟩
end Go.Proofs.YthmiaamjbokljaaGreatDoor
