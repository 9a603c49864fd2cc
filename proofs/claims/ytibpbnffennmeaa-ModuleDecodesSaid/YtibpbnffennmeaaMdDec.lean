/- instruction, function, module, Decode. -/
import Derived.Test.YtibpbnffennmeaaMdRead
namespace Go.Proofs.Ytibpbnffennmeaa
open Go.RowKit
theorem store2 {w : World} {b : Nat} {x0 x1 : Value} {T : TypeId} (h : w.heap[b]? = some (.cells #[x0, x1] T (0, 0))) (a0 a1 : Value) :
    ((w.setCell ⟨b, 0, none⟩ a0).setCell ⟨b, 1, none⟩ a1).heap[b]? = some (.cells #[a0, a1] T (0, 0)) := by
  have h0 := heap_setCell_same w b 0 _ _ a0 h
  exact heap_setCell_same _ b 1 _ _ a1 h0
theorem store3 {w : World} {b : Nat} {x0 x1 x2 : Value} {T : TypeId} (h : w.heap[b]? = some (.cells #[x0, x1, x2] T (0, 0))) (a0 a1 a2 : Value) :
    (((w.setCell ⟨b, 0, none⟩ a0).setCell ⟨b, 1, none⟩ a1).setCell ⟨b, 2, none⟩ a2).heap[b]? = some (.cells #[a0, a1, a2] T (0, 0)) := by
  have h0 := heap_setCell_same w b 0 _ _ a0 h
  have h1 := heap_setCell_same _ b 1 _ _ a1 h0
  exact heap_setCell_same _ b 2 _ _ a2 h1
theorem store4 {w : World} {b : Nat} {x0 x1 x2 x3 : Value} {T : TypeId} (h : w.heap[b]? = some (.cells #[x0, x1, x2, x3] T (0, 0))) (a0 a1 a2 a3 : Value) :
    ((((w.setCell ⟨b, 0, none⟩ a0).setCell ⟨b, 1, none⟩ a1).setCell ⟨b, 2, none⟩ a2).setCell ⟨b, 3, none⟩ a3).heap[b]? = some (.cells #[a0, a1, a2, a3] T (0, 0)) := by
  have h0 := heap_setCell_same w b 0 _ _ a0 h
  have h1 := heap_setCell_same _ b 1 _ _ a1 h0
  have h2 := heap_setCell_same _ b 2 _ _ a2 h1
  exact heap_setCell_same _ b 3 _ _ a3 h2
theorem md.one_lt (lo hi : Nat) (s : md.St) : (md.one lo hi s).1 < 256 := md.next_lt _ s
theorem md.one_le (lo hi : Nat) (s : md.St) : (md.one lo hi s).1 ≤ hi := by
  show (md.next (fun c => md.fits lo hi c.toNat) s).1.toNat ≤ hi
  rcases md.next_mem (fun c => md.fits lo hi c.toNat) s with h | h
  · rw [h]; exact Nat.zero_le _
  · generalize (md.next (fun c => md.fits lo hi c.toNat) s).1 = y at h ⊢
    unfold md.fits at h
    simp only [decide_eq_true_eq] at h
    exact h.2
set_option maxRecDepth 100000 in
set_option maxHeartbeats 1600000 in
theorem instruction_any (p : Nat) (s : md.St) (w : World) (h : RdAt w p s) :
    Calls Try.prog 36 #[.pointer (some ⟨p, 0, none⟩)] w fun e w' => e = .returned (insV (md.ins s).1) ∧ RdAt w' p (md.ins s).2 ∧ Fr (· = p) w w' := by
  have hp := h.lt
  have hb1 := below_one w (.cells #[.int .i64 0, .int .i64 0] 37)
  have hn1 := heap_alloc_new w (.cells #[.int .i64 0, .int .i64 0] 37)
  have HO := Lib.hid (one_any 0 29 p s _ (h.below hb1))
  have H1 := Lib.hid (And.intro hn1 ((Fr.refl (· = p) w).below hb1))
  have HR : Hid (md.ins s = if md.has ((md.one 0 29 s).1 : Nat) = true then (⟨((md.one 0 29 s).1 : Nat), (md.number (md.one 0 29 s).2).1⟩, (md.number (md.one 0 29 s).2).2) else (⟨((md.one 0 29 s).1 : Nat), 0⟩, (md.one 0 29 s).2)) := Lib.hid (by
    show md.bnd _ _ _ = _
    dsimp only [md.bnd]
    split <;> rfl)
  have hx := md.one_lt 0 29 s
  generalize md.one 0 29 s = X at *
  obtain ⟨a, s1⟩ := X
  dsimp only at HO HR hx
  have HH := Lib.hid (fun W => has_any (a : Int) W)
  generalize md.has (a : Int) = hs at *
  generalize md.ins s = R at *
  clear h hb1 hn1
  go_enter Try.func36, Try.ntmps36
  go_wp2_with fail
  refine HO.out.mono ?_
  rintro e w2 ⟨rfl, hr2, hf2⟩
  have b1 := (hf2.block _ (heap_lt H1.out.1) (show ¬ _ = p by omega)).trans H1.out.1
  have hs2 := heap_lt b1
  have hb3 := below_one w2 (.cells #[.int .i64 a, .int .i64 0] 37)
  have hn3 := heap_alloc_new w2 (.cells #[.int .i64 a, .int .i64 0] 37)
  have H3 := Lib.hid (And.intro ((hb3.block _ hs2).trans b1) (And.intro hn3 (And.intro (hr2.below hb3) ((H1.out.2.then hf2).below hb3))))
  clear b1 hb3 hn3 hr2 hf2 HO H1
  go_upto_region 2 with fail
  generalize w2.alloc (.cells #[.int .i64 a, .int .i64 0] 37) = w3 at *
  have k0 : w3.cell? ⟨w2.heap.size, 0, none⟩ = some (.int .i64 a) := (cell_of_heap H3.out.2.1).trans rfl
  have k1 : w3.cell? ⟨w2.heap.size, 1, none⟩ = some (.int .i64 0) := (cell_of_heap H3.out.2.1).trans rfl
  have hlt3 := heap_lt H3.out.2.1
  go_wp2_with fail
  refine (HH.out _).mono ?_
  rintro e w' ⟨rfl, hw⟩
  replace hw := hw.symm
  subst hw
  cases hs with
  | false =>
    have HZ : Hid (R = (⟨(a : Nat), 0⟩, s1)) := Lib.hid HR.out
    have d0 : w3.cell? ⟨w.heap.size, 0, none⟩ = some (.int .i64 0) := (cell_of_heap H3.out.1).trans rfl
    have d1 : w3.cell? ⟨w.heap.size, 1, none⟩ = some (.int .i64 0) := (cell_of_heap H3.out.1).trans rfl
    have e0 := thaw (k := 0) H3.out.1
    have e1 := thaw (k := 1) H3.out.1
    have HF := Lib.hid (And.intro (store2 H3.out.1 (.int .i64 a) (.int .i64 0)) (And.intro ((H3.out.2.2.1.set ⟨w.heap.size, 0, none⟩ (.int .i64 a) hp).set ⟨w.heap.size, 1, none⟩ (.int .i64 0) hp) ((H3.out.2.2.2.setCell ⟨w.heap.size, 0, none⟩ (.int .i64 a) (.inl (Nat.le_refl _))).setCell ⟨w.heap.size, 1, none⟩ (.int .i64 0) (.inl (Nat.le_refl _)))))
    clear HR HH H3
    go_wp2_with fail
    refine bodyPost_ret (results_cell_row rfl _ _ w.heap.size 37 _ (0, 0) _ rfl HF.out.1 Try.underlying37 rfl (by kernel_rfl)) rfl ?_
    rw [HZ.out]
    exact ⟨rfl, HF.out.2⟩
  | true =>
    have HNM := Lib.hid (number_any p s1 w3 H3.out.2.2.1)
    have HZ : Hid (R = (⟨(a : Nat), (md.number s1).1⟩, (md.number s1).2)) := Lib.hid HR.out
    generalize md.number s1 = Y at *
    obtain ⟨v, s2⟩ := Y
    dsimp only at HNM HZ
    clear HR HH k0 k1
    go_wp2_with fail
    refine HNM.out.mono ?_
    rintro e w4 ⟨rfl, hr4, hf4⟩
    have hw2 : p < w2.heap.size := by omega
    have b1 := (hf4.block _ (heap_lt H3.out.1) (show ¬ _ = p by omega)).trans H3.out.1
    have b3 := (hf4.block _ (heap_lt H3.out.2.1) (show ¬ _ = p by omega)).trans H3.out.2.1
    have f1 := thaw (k := 1) b3
    have c1 : w4.cell? ⟨w2.heap.size, 1, none⟩ = some (.int .i64 0) := (cell_of_heap b3).trans rfl
    have hlt4 := heap_lt b3
    have g1 := heap_set_other w4 ⟨w2.heap.size, 1, none⟩ (.int .i64 v) (show w.heap.size ≠ w2.heap.size by omega) b1
    have g3 := heap_setCell_same w4 w2.heap.size 1 _ _ (.int .i64 v) b3
    have H5 := Lib.hid (And.intro g1 (And.intro g3 (And.intro (hr4.set ⟨w2.heap.size, 1, none⟩ (.int .i64 v) hw2) ((H3.out.2.2.2.then hf4).setCell ⟨w2.heap.size, 1, none⟩ (.int .i64 v) (.inl (Nat.le_of_lt hs2))))))
    clear b1 b3 g1 g3 hr4 hf4 HNM H3
    go_upto_region 4 with fail
    generalize w4.setCell ⟨w2.heap.size, 1, none⟩ (.int .i64 v) = w5 at *
    have k0 : w5.cell? ⟨w2.heap.size, 0, none⟩ = some (.int .i64 a) := (cell_of_heap H5.out.2.1).trans rfl
    have k1 : w5.cell? ⟨w2.heap.size, 1, none⟩ = some (.int .i64 v) := (cell_of_heap H5.out.2.1).trans rfl
    have d0 : w5.cell? ⟨w.heap.size, 0, none⟩ = some (.int .i64 0) := (cell_of_heap H5.out.1).trans rfl
    have d1 : w5.cell? ⟨w.heap.size, 1, none⟩ = some (.int .i64 0) := (cell_of_heap H5.out.1).trans rfl
    have e0 := thaw (k := 0) H5.out.1
    have e1 := thaw (k := 1) H5.out.1
    have hl5 := heap_lt H5.out.2.1
    have HF := Lib.hid (And.intro (store2 H5.out.1 (.int .i64 a) (.int .i64 v)) (And.intro ((H5.out.2.2.1.set ⟨w.heap.size, 0, none⟩ (.int .i64 a) hp).set ⟨w.heap.size, 1, none⟩ (.int .i64 v) hp) ((H5.out.2.2.2.setCell ⟨w.heap.size, 0, none⟩ (.int .i64 a) (.inl (Nat.le_refl _))).setCell ⟨w.heap.size, 1, none⟩ (.int .i64 v) (.inl (Nat.le_refl _)))))
    clear c1 f1 H5
    go_wp2_with fail
    refine bodyPost_ret (results_cell_row rfl _ _ w.heap.size 37 _ (0, 0) _ rfl HF.out.1 Try.underlying37 rfl (by kernel_rfl)) rfl ?_
    rw [HZ.out]
    exact ⟨rfl, HF.out.2⟩
/-- one thing more behind a row, as one step of a region that draws -/
theorem step_append_row (T F : TypeId) (size bytes : Nat) (z : Value) (hT : Try.prog.underlying T = some (.slice F)) (hI : (Try.prog.info? F).map (fun i => (i.zero, i.size, i.bytes)) = some (some z, size, bytes)) (hzs : z.cells.size = size) (hsz : 0 < size) (hby : bytes ≤ 1000)
    {w : World} {ops : Array Oper} {o : Oper} {a : Act} {K : Act → World → Prop} {Q : Exit → Act → World → Prop} {E : Prop} (hgd : o.guard = none) (s x : Operand)
    (ho : o.op = Op.call { callee := Callee.builtin Builtin.append, args := #[s, x], argTypes := #[T, T] }) (B : Nat) (V : Value) (n : Nat) (l : List Value) (hs : a.eval s = V) (hown : w.ownsRow B F size V n l)
    (g : Nat) (cs : List Value) (hx : a.eval x = .slice (some ⟨g, 0, none⟩) 1 1) (hg : w.heap[g]? = some (.cells cs.toArray F (0, 0))) (hl : cs.length = size) (hone : ∀ u ∈ cs, u.oneCell' = true) (hlen : n ≤ 1048576) (hbase : B ≤ w.heap.size)
    (hK : ∀ V' w', w'.ownsRow B F size V' (n + 1) (l ++ cs) → w.grownBy w' V.ownBlock → K (a.put o.dst V') w') :
    if Region.wanted o (yielded ops a.tmps) = true then Oper.wp Try.prog o a w K Q else E := by
  have hw : Region.wanted o (yielded ops a.tmps) = true := by simp [Region.wanted, hgd]
  rw [if_pos hw]
  obtain ⟨i0, hi, hz0, hz1, hz2⟩ := info_parts hI
  have hbb : (n + 1) * bytes ≤ 1048577 * 1000 := Nat.mul_le_mul (by omega) hby
  obtain ⟨V', w', hrun, r1, r2, _⟩ := run_append_own (P := Try.prog) w B T o.type F i0 z size bytes hT hi hz0 hz1 hz2 hzs hsz V n l hown
    ⟨g, 0, none⟩ 1 1 cs (by omega) (fun j u hu => by rw [addr_b0, cell_of_heap hg]; simpa using hu) hone (by unfold maxLen; omega) (by omega) hbase
  have hq := hK V' w' r1 r2
  unfold Oper.wp
  simp [execOp, ho, resolve, invoke, builtin, hs, hx, hrun, Result.andThen]
  exact hq
theorem infoIns : (Try.prog.info? 37).map (fun i => (i.zero, i.size, i.bytes)) = some (some (Value.agg #[.int .i64 0, .int .i64 0]), 2, 16) := by kernel_rfl
theorem infoFn : (Try.prog.info? 40).map (fun i => (i.zero, i.size, i.bytes)) = some (some (Value.agg #[.int .i64 0, .int .i64 0, .int .i64 0, .slice none 0 0]), 4, 48) := by kernel_rfl
abbrev fnZ : Obj := .cells #[.int .i64 0, .int .i64 0, .int .i64 0, .slice none 0 0] 40
/-- where function stands: the reader, the answer's box (still zero), the function's box, its row of instructions -/
structure FA (w wr : World) (p q : Nat) (st : md.St) (a r l : Int) (VC : Value) (c : List md.Ins) : Prop where
  rd : RdAt wr p st
  z : wr.heap[w.heap.size]? = some fnZ
  nd : wr.heap[q]? = some (.cells #[.int .i64 a, .int .i64 r, .int .i64 l, VC] 40 (0, 0))
  row : wr.ownsRow w.heap.size 37 2 VC c.length (codeC c)
  fr : Fr (· = p) w wr
section
variable {w wr wr' X : World} {p q : Nat} {st st' : md.St} {a r l : Int} {VC VC' : Value} {c : List md.Ins}
theorem FA.below (h : FA w wr p q st a r l VC c) (hb : Below wr.heap.size wr wr') : FA w wr' p q st a r l VC c :=
  ⟨h.rd.below hb, (hb.block _ (heap_lt h.z)).trans h.z, (hb.block _ (heap_lt h.nd)).trans h.nd, row_below h.row hb, h.fr.below hb⟩
theorem FA.read (h : FA w wr p q st a r l VC c) (hp : p < w.heap.size) (hq : w.heap.size < q) (hr : RdAt wr' p st') (hf : Fr (· = p) wr wr') : FA w wr' p q st' a r l VC c :=
  ⟨hr, (hf.block _ (heap_lt h.z) (show ¬ w.heap.size = p by omega)).trans h.z, (hf.block _ (heap_lt h.nd) (show ¬ q = p by omega)).trans h.nd, own_keep h.row (fun g _ hB hg _ _ => hf.block g hg (show ¬ g = p by omega)), h.fr.then hf⟩
theorem FA.ins (h : FA w wr p q st a r l VC c) (hp : p < w.heap.size) (hq : w.heap.size < q) (i : md.Ins) (hr : wr'.ownsRow w.heap.size 37 2 VC' (c.length + 1) (codeC c ++ insC i)) (hg : wr.grownBy wr' VC.ownBlock) : FA w (wr'.setCell ⟨q, 3, none⟩ VC') p q st a r l VC' (c ++ [i]) := by
  have hty : ∀ (k : Nat) (o : Obj), wr.heap[k]? = some o → (∀ cur, o ≠ Obj.cells cur 37 (0, 0)) → wr'.heap[k]? = some o := fun k o hk ho => (hg.block k (heap_lt hk) (fun e => by
    obtain ⟨cur, hc⟩ := own_type h.row e.symm
    rw [hk] at hc
    exact ho cur (Option.some.inj hc))).trans hk
  have hset : ∀ k, k ≠ q → (wr'.setCell ⟨q, 3, none⟩ VC').heap[k]? = wr'.heap[k]? := fun k hk => Below.heap_setCell wr' ⟨q, 3, none⟩ VC' k hk
  have hz := hty _ _ h.z (fun cur e => by injection e with _ e2; exact absurd e2 (by decide))
  have hn := hty _ _ h.nd (fun cur e => by injection e with _ e2; exact absurd e2 (by decide))
  have hlow : ∀ k, k < w.heap.size → k < wr.heap.size → wr'.heap[k]? = wr.heap[k]? := fun k hk hk2 => hg.block k hk2 (fun e => by have := (h.row.lt k e.symm).1; omega)
  refine ⟨(h.rd.keep (fun k hk => hlow k (by omega) (Nat.lt_of_le_of_lt hk h.rd.lt)) hg.size).set _ _ (by show p < q; omega), (hset _ (by omega)).trans hz, heap_setCell_same wr' q 3 _ _ VC' hn, ?_, ?_⟩
  · rw [codeC_snoc, List.length_append, List.length_singleton]
    exact own_keep hr (fun g cur hB _ _ hc => hset g (by rintro rfl; rw [hn] at hc; injection hc with hc; injection hc with _ e2; exact absurd e2 (by decide)))
  · exact (h.fr.trans (Fr.of_grown hg) (fun k hk e => by have := (h.row.lt k e).1; omega)).setCell _ _ (.inl (by show w.heap.size ≤ q; omega))
theorem FA.ndg (h : FA w wr p q st a r l VC c) (hg : wr.grownBy wr' VC.ownBlock) : wr'.heap[q]? = some (.cells #[.int .i64 a, .int .i64 r, .int .i64 l, VC] 40 (0, 0)) :=
  (hg.block q (heap_lt h.nd) (fun e => by
    obtain ⟨cur, hc⟩ := own_type h.row e.symm
    rw [h.nd] at hc
    injection hc with hc
    injection hc with _ e2
    exact absurd e2 (by decide))).trans h.nd
end
theorem fr_drawn {S : Nat → Prop} {w X w' : World} (hf : Fr S X w') (h1 : X.os = w.os) (h2 : X.tape = w.tape) (h3 : X.output = w.output) (h4 : X.heap = w.heap) : Fr S w w' :=
  ⟨hf.os.trans h1, hf.tape.trans h2, hf.output.trans h3, by rw [← h4]; exact hf.size, fun k hk hn => (hf.block k (by rw [h4]; exact hk) hn).trans (by rw [h4])⟩
theorem md.two400 (s : md.St) : (md.two 1 400 s).1 ≤ 400 := by rcases md.two_st 1 400 s with h | h <;> omega
set_option maxRecDepth 100000 in
set_option maxHeartbeats 3200000 in
theorem function_any (p : Nat) (s : md.St) (w : World) (h : RdAt w p s) :
    Calls Try.prog 22 #[.pointer (some ⟨p, 0, none⟩)] w fun e w' => ∃ VC, e = .returned (fnV (md.fn s).1 VC) ∧ w'.ownsRow w.heap.size 37 2 VC (md.fn s).1.code.length (codeC (md.fn s).1.code) ∧ RdAt w' p (md.fn s).2 ∧ Fr (· = p) w w' := by
  have hp := h.lt
  have hb1 := below_one w fnZ
  have hn1 := heap_alloc_new w fnZ
  have HO := Lib.hid (one_any 0 8 p s _ (h.below hb1))
  have H1 := Lib.hid (And.intro hn1 ((Fr.refl (· = p) w).below hb1))
  obtain ⟨X, hX⟩ : ∃ X, md.one 0 8 s = X := ⟨_, rfl⟩
  have hXl := md.one_le 0 8 s
  have HR : Hid (md.fn s = (md.bnd (md.one 0 1) fun r => md.bnd (md.one 0 (16 - (md.one 0 8 s).1)) fun l => md.bnd (md.two 1 400) fun n => md.bnd (md.many md.ins n) fun c => md.ret (⟨(md.one 0 8 s).1, r, l, c⟩ : md.Fn)) (md.one 0 8 s).2) := Lib.hid rfl
  rw [hX] at HO HR hXl
  obtain ⟨pa, s1⟩ := X
  dsimp only at HO HR hXl
  generalize md.fn s = R at *
  clear h hb1 hn1 hX
  go_enter Try.func22, Try.ntmps22
  go_wp2_with fail
  refine HO.out.mono ?_
  rintro e w2 ⟨rfl, hr2, hf2⟩
  have H2 := Lib.hid (And.intro ((hf2.block _ (heap_lt H1.out.1) (show ¬ _ = p by omega)).trans H1.out.1) (H1.out.2.then hf2))
  have HO2 := Lib.hid (one_any 0 1 p s1 w2 hr2)
  obtain ⟨X, hX⟩ : ∃ X, md.one 0 1 s1 = X := ⟨_, rfl⟩
  have HR2 : Hid (R = (md.bnd (md.one 0 (16 - pa)) fun l => md.bnd (md.two 1 400) fun n => md.bnd (md.many md.ins n) fun c => md.ret (⟨pa, (md.one 0 1 s1).1, l, c⟩ : md.Fn)) (md.one 0 1 s1).2) := Lib.hid (by rw [HR.out]; rfl)
  have hre := md.one_le 0 1 s1
  rw [hX] at HO2 HR2 hre
  obtain ⟨re, s2⟩ := X
  dsimp only at HO2 HR2 hre
  clear hr2 hf2 HO H1 HR hX
  go_wp2_with fail
  refine HO2.out.mono ?_
  rintro e w3 ⟨rfl, hr3, hf3⟩
  have b3 := (hf3.block _ (heap_lt H2.out.1) (show ¬ _ = p by omega)).trans H2.out.1
  have hs3 := heap_lt b3
  have hb4 := below_one w3 (.cells #[.int .i64 pa, .int .i64 re, .int .i64 0, .slice none 0 0] 40)
  have hn4 := heap_alloc_new w3 (.cells #[.int .i64 pa, .int .i64 re, .int .i64 0, .slice none 0 0] 40)
  have H4 : Hid (FA w (w3.alloc (.cells #[.int .i64 pa, .int .i64 re, .int .i64 0, .slice none 0 0] 40)) p w3.heap.size s2 pa re 0 (.slice none 0 0) []) := Lib.hid
    ⟨hr3.below hb4, (hb4.block _ hs3).trans b3, hn4, World.ownsRow_nil _ _ _ _, (H2.out.2.then hf3).below hb4⟩
  have hwq : w.heap.size < w3.heap.size := hs3
  clear b3 hs3 hb4 hn4 hr3 hf3 HO2 H2
  go_upto_region 2 with fail
  generalize w3.alloc (.cells #[.int .i64 pa, .int .i64 re, .int .i64 0, .slice none 0 0] 40) = w4 at *
  generalize w3.heap.size = q at *
  have HO3 := Lib.hid (one_any 0 (16 - pa) p s2 w4 H4.out.rd)
  obtain ⟨X, hX⟩ : ∃ X, md.one 0 (16 - pa) s2 = X := ⟨_, rfl⟩
  have HR3 : Hid (R = (md.bnd (md.two 1 400) fun n => md.bnd (md.many md.ins n) fun c => md.ret (⟨pa, re, (md.one 0 (16 - pa) s2).1, c⟩ : md.Fn)) (md.one 0 (16 - pa) s2).2) := Lib.hid (by rw [HR2.out]; rfl)
  rw [hX] at HO3 HR3
  obtain ⟨lo, s3⟩ := X
  dsimp only at HO3 HR3
  rw [show (((16 - pa : Nat)) : Int) = 16 - (pa : Int) by omega] at HO3
  have hw16 : IntKind.i64.wrap (16 - (pa : Int)) = 16 - (pa : Int) := by rw [IntKind.wrap_i64]; omega
  have k0 : w4.cell? ⟨q, 0, none⟩ = some (.int .i64 pa) := (cell_of_heap H4.out.nd).trans rfl
  have hlt4 := heap_lt H4.out.nd
  clear hX HR2
  go_wp2_with fail
  refine HO3.out.mono ?_
  rintro e w5 ⟨rfl, hr5, hf5⟩
  have h5 := H4.out.read hp hwq hr5 hf5
  have H6 : Hid (FA w (w5.setCell ⟨q, 2, none⟩ (.int .i64 lo)) p q s3 pa re lo (.slice none 0 0) []) := Lib.hid
    ⟨h5.rd.set _ _ (by show p < q; omega), heap_set_other w5 _ _ (show w.heap.size ≠ q by omega) h5.z, heap_setCell_same w5 q 2 _ _ _ h5.nd, World.ownsRow_nil _ _ _ _, h5.fr.setCell _ _ (.inl (by show w.heap.size ≤ q; omega))⟩
  have c2 : w5.cell? ⟨q, 2, none⟩ = some (.int .i64 0) := (cell_of_heap h5.nd).trans rfl
  have f2 := thaw (k := 2) h5.nd
  have hlt5 := heap_lt h5.nd
  clear h5 hr5 hf5 HO3 H4 k0 hlt4 hw16
  go_upto_region 3 with fail
  generalize w5.setCell ⟨q, 2, none⟩ (.int .i64 lo) = w6 at *
  clear c2 f2 hlt5
  have HO4 := Lib.hid (two_any 1 400 p s3 w6 H6.out.rd)
  obtain ⟨X, hX⟩ : ∃ X, md.two 1 400 s3 = X := ⟨_, rfl⟩
  have hn400 := md.two400 s3
  have HR4 : Hid (R = ((⟨pa, re, lo, (md.many md.ins (md.two 1 400 s3).1 (md.two 1 400 s3).2).1⟩ : md.Fn), (md.many md.ins (md.two 1 400 s3).1 (md.two 1 400 s3).2).2)) := Lib.hid (by rw [HR3.out]; rfl)
  rw [hX] at HO4 HR4 hn400
  obtain ⟨n, s4⟩ := X
  dsimp only at HO4 HR4 hn400
  clear hX HR3
  go_wp2_with fail
  refine HO4.out.mono ?_
  rintro e w7 ⟨rfl, hr7, hf7⟩
  have H7 := Lib.hid (H6.out.read hp hwq hr7 hf7)
  clear hr7 hf7 HO4 H6
  have HSN := Lib.hid (fun k => md.many_snoc md.ins k s4)
  have HLN := Lib.hid (fun k => md.many_len md.ins k s4)
  go_upto_region 4 with fail
  go_loopg [17] n (fun gg s17 wr => ∃ (k : Nat) (VC : Value), s17 = .int .i64 k ∧ k ≤ n ∧ n - k ≤ gg ∧ Hid (FA w wr p q (md.many md.ins k s4).2 pa re lo VC (md.many md.ins k s4).1))
  case atStart => exact ⟨0, _, rfl, Nat.zero_le _, by omega, H7⟩
  case round =>
    clear H7
    obtain ⟨k, VC, rfl, hk, hgg, HA⟩ := hrel
    have HS := Lib.hid (HSN.out k)
    have HPL := Lib.hid (HLN.out k)
    by_cases hlt : k < n
    case neg =>
      obtain rfl : k = n := by omega
      generalize md.many md.ins k s4 = M at *
      obtain ⟨c, st⟩ := M
      dsimp only at HA HPL HR4
      obtain ⟨ao, ac, rfl⟩ := own_slice HA.out.row
      have k0 : wr.cell? ⟨q, 0, none⟩ = some (.int .i64 pa) := (cell_of_heap HA.out.nd).trans rfl
      have k1 : wr.cell? ⟨q, 1, none⟩ = some (.int .i64 re) := (cell_of_heap HA.out.nd).trans rfl
      have k2 : wr.cell? ⟨q, 2, none⟩ = some (.int .i64 lo) := (cell_of_heap HA.out.nd).trans rfl
      have k3 : wr.cell? ⟨q, 3, none⟩ = some (.slice ao c.length ac) := (cell_of_heap HA.out.nd).trans rfl
      have hq7 := heap_lt HA.out.nd
      have d0 : wr.cell? ⟨w.heap.size, 0, none⟩ = some (.int .i64 0) := (cell_of_heap HA.out.z).trans rfl
      have d1 : wr.cell? ⟨w.heap.size, 1, none⟩ = some (.int .i64 0) := (cell_of_heap HA.out.z).trans rfl
      have d2 : wr.cell? ⟨w.heap.size, 2, none⟩ = some (.int .i64 0) := (cell_of_heap HA.out.z).trans rfl
      have d3 : wr.cell? ⟨w.heap.size, 3, none⟩ = some (.slice none 0 0) := (cell_of_heap HA.out.z).trans rfl
      have e0 := thaw (k := 0) HA.out.z
      have e1 := thaw (k := 1) HA.out.z
      have e2 := thaw (k := 2) HA.out.z
      have e3 := thaw (k := 3) HA.out.z
      have hz := HA.out.z
      have HF := Lib.hid (And.intro (store4 hz (.int .i64 pa) (.int .i64 re) (.int .i64 lo) (.slice ao c.length ac)) (And.intro (own_keep HA.out.row (w' := (((wr.setCell ⟨w.heap.size, 0, none⟩ (.int .i64 pa)).setCell ⟨w.heap.size, 1, none⟩ (.int .i64 re)).setCell ⟨w.heap.size, 2, none⟩ (.int .i64 lo)).setCell ⟨w.heap.size, 3, none⟩ (.slice ao c.length ac)) (fun g cur _ _ _ hc => by
          have hne : g ≠ w.heap.size := by
            rintro rfl
            rw [hz] at hc
            injection hc with hc
            injection hc with _ e2
            exact absurd e2 (by decide)
          rw [Below.heap_setCell _ _ _ _ (by exact hne), Below.heap_setCell _ _ _ _ (by exact hne), Below.heap_setCell _ _ _ _ (by exact hne), Below.heap_setCell _ _ _ _ (by exact hne)]))
        (And.intro ((((HA.out.rd.set ⟨w.heap.size, 0, none⟩ (.int .i64 pa) hp).set ⟨w.heap.size, 1, none⟩ (.int .i64 re) hp).set ⟨w.heap.size, 2, none⟩ (.int .i64 lo) hp).set ⟨w.heap.size, 3, none⟩ (.slice ao c.length ac) hp)
          ((((HA.out.fr.setCell ⟨w.heap.size, 0, none⟩ (.int .i64 pa) (.inl (Nat.le_refl _))).setCell ⟨w.heap.size, 1, none⟩ (.int .i64 re) (.inl (Nat.le_refl _))).setCell ⟨w.heap.size, 2, none⟩ (.int .i64 lo) (.inl (Nat.le_refl _))).setCell ⟨w.heap.size, 3, none⟩ (.slice ao c.length ac) (.inl (Nat.le_refl _))))))
      clear hz HA HSN HLN HS
      go_wp2_with fail
      refine bodyPost_ret (results_cell_row rfl _ _ w.heap.size 40 _ (0, 0) _ rfl HF.out.1 Try.underlying40 rfl (by kernel_rfl)) rfl ?_
      rw [HR4.out]
      exact ⟨_, rfl, HF.out.2⟩
    case pos =>
      have hki : (k : Int) < (n : Int) := by omega
      generalize md.many md.ins k s4 = M at *
      obtain ⟨c, st⟩ := M
      dsimp only at HA HPL HS
      have HV := Lib.hid (fun X hX => instruction_any p st X hX)
      generalize md.ins st = Y at *
      obtain ⟨i, st'⟩ := Y
      obtain ⟨op, nn⟩ := i
      dsimp only at HV HS
      obtain ⟨ao, ac, rfl⟩ := own_slice HA.out.row
      have hcl : c.length ≤ 1048576 := by rw [HPL.out]; omega
      have k3 : wr.cell? ⟨q, 3, none⟩ = some (.slice ao c.length ac) := (cell_of_heap HA.out.nd).trans rfl
      have m3 := thaw (k := 3) HA.out.nd
      have hq7 := heap_lt HA.out.nd
      have HONE : Hid (∀ u ∈ insC ⟨op, nn⟩, u.oneCell' = true) := Lib.hid (fun u hu => by
        simp [insC] at hu
        rcases hu with rfl | rfl <;> rfl)
      go_upto_region 5 with fail
      go_region_law (first
        | (refine step_append_row 38 37 2 16 _ Try.underlying38 infoIns rfl (by decide) (by decide) rfl (.tmp 20) (.tmp 23) rfl w.heap.size (.slice ao c.length ac) c.length (codeC c) rfl HB8.out.row w8.heap.size (insC ⟨op, nn⟩) rfl (heap_alloc_new w8 _) rfl HONE.out hcl HB8.out.fr.size ?_; intro V' w10 r1 r2; obtain ⟨aoV, cV, rfl⟩ := own_slice r1; have hnd10 := HB8.out.ndg r2; have HX := Lib.hid (HB8.out.ins hp hwq ⟨op, nn⟩ r1 r2); have n10 : w10.cell? ⟨q, 3, none⟩ = some (.slice ao c.length ac) := (cell_of_heap hnd10).trans rfl; have m10 := thaw (k := 3) hnd10; have hq10 := heap_lt hnd10; clear hnd10 r1 r2)
        | (go_simp; go_at_call 36; refine (HV.out wr.drew HA.out.rd.drew).mono ?_; rintro e w8 ⟨rfl, hr8, hf8⟩; have HA8 := Lib.hid (HA.out.read hp hwq hr8 (fr_drawn hf8 rfl rfl rfl rfl)); have HB8 := Lib.hid (HA8.out.below (below_one w8 (insO ⟨op, nn⟩))); have n8 : w8.cell? ⟨q, 3, none⟩ = some (.slice ao c.length ac) := (cell_of_heap HA8.out.nd).trans rfl; have hq8 := heap_lt HA8.out.nd; clear hr8 hf8))
      all_goals
        go_wp2_with fail
        go_roundg (n - (k + 1))
        case measure => omega
        case rel => exact ⟨k + 1, _, by go_num, by omega, Nat.le_refl _, Lib.hid (by rw [HS.out]; exact HX.out)⟩
end Go.Proofs.Ytibpbnffennmeaa
