/- The document's function. -/
import Derived.Test.YtibpbnffennmeaaMdRefNum
import Derived.Test.YtibpbnffennmeaaMdRefH
namespace Go.Proofs.Ytibpbnffennmeaa
open Go.RowKit
/-- one thing more behind a row -/
theorem wpList_row (T F : TypeId) (size bytes : Nat) (z : Value) (hT : Try.prog.underlying T = some (.slice F)) (hI : (Try.prog.info? F).map (fun i => (i.zero, i.size, i.bytes)) = some (some z, size, bytes)) (hzs : z.cells.size = size) (hsz : 0 < size) (hby : bytes ≤ 1000)
    {w : World} {ops : Array Oper} {rest : List Oper} {op : Oper} {a : Act} {Q : Exit → Act → World → Prop} (hgd : op.guard = none) (s x : Operand)
    (ho : op.op = Op.call { callee := Callee.builtin Builtin.append, args := #[s, x], argTypes := #[T, T] }) (B : Nat) (V : Value) (n : Nat) (l : List Value) (hs : a.eval s = V) (hown : w.ownsRow B F size V n l)
    (g : Nat) (cs : List Value) (hx : a.eval x = .slice (some ⟨g, 0, none⟩) 1 1) (hg : w.heap[g]? = some (.cells cs.toArray F (0, 0))) (hl : cs.length = size) (hone : ∀ u ∈ cs, u.oneCell' = true) (hlen : n ≤ 1048576) (hbase : B ≤ w.heap.size)
    (h : ∀ V' w', w'.ownsRow B F size V' (n + 1) (l ++ cs) → w.grownBy w' V.ownBlock → wpList Try.prog ops Q rest (a.put op.dst V') w') : wpList Try.prog ops Q (op :: rest) a w := by
  refine wpList_plain hgd fun K hK => ?_
  obtain ⟨i0, hi, hz0, hz1, hz2⟩ := info_parts hI
  have hbb : (n + 1) * bytes ≤ 1048577 * 1000 := Nat.mul_le_mul (by omega) hby
  obtain ⟨V', w', hrun, r1, r2, _⟩ := run_append_own (P := Try.prog) w B T op.type F i0 z size bytes hT hi hz0 hz1 hz2 hzs hsz V n l hown
    ⟨g, 0, none⟩ 1 1 cs (by omega) (fun j u hu => by rw [addr_b0, cell_of_heap hg]; simpa using hu) hone (by unfold maxLen; omega) (by omega) hbase
  unfold Oper.wp execOp
  simp only [ho, resolve, invoke, builtin, Sem.run_bind, Sem.run_pure, Result.andThen_ok, List.map_toArray, List.map_cons, List.map_nil, hs, hx, hrun]
  exact hK _ _ (h V' w' r1 r2)
theorem md.many_stuck {α : Type} {r : md.St → α × md.St} (hr : md.Good r) (s : md.St) (l : List UInt8) (k : Nat) (h : (md.many r k s).2 = ⟨l, true⟩) : ∀ n, k ≤ n → (md.many r n s).2 = ⟨l, true⟩
  | 0, hn => by
    have e : k = 0 := by omega
    subst e
    exact h
  | n + 1, hn => by
    by_cases e : k = n + 1
    · subst e; exact h
    · rw [md.many_snoc]
      show (r (md.many r n s).2).2 = _
      rw [md.many_stuck hr s l k h n (by omega)]
      exact hr.stuck l
theorem md.ins_eq (s : md.St) : md.ins s = if md.has ((md.one 0 29 s).1 : Nat) = true then (⟨((md.one 0 29 s).1 : Nat), (md.number (md.one 0 29 s).2).1⟩, (md.number (md.one 0 29 s).2).2) else (⟨((md.one 0 29 s).1 : Nat), 0⟩, (md.one 0 29 s).2) := by
  show md.bnd _ _ _ = _
  dsimp only [md.bnd]
  split <;> rfl
/-- where the document's function stands: the State, the answer's two boxes (still zero), the function's box, its row of instructions -/
structure RF (w wr : World) (p : Nat) (o : Option Addr) (n cap a : Nat) (ok : Bool) (pa re lo : Int) (VC : Value) (c : List md.Ins) : Prop where
  st : wr.heap[p]? = some (stO o n cap a ok)
  z : wr.heap[p + 1]? = some fnZ
  y : wr.heap[p + 1 + 1]? = some stZ
  nd : wr.heap[p + 1 + 1 + 1]? = some (.cells #[.int .i64 pa, .int .i64 re, .int .i64 lo, VC] 40 (0, 0))
  row : wr.ownsRow w.heap.size 37 2 VC c.length (codeC c)
  bel : Below w.heap.size w wr
section
variable {w wr wr' : World} {p : Nat} {o : Option Addr} {n cap a a' : Nat} {ok ok' : Bool} {pa re lo : Int} {VC VC' : Value} {c : List md.Ins}
theorem RF.below (h : RF w wr p o n cap a ok pa re lo VC c) (hb : Below wr.heap.size wr wr') : RF w wr' p o n cap a ok pa re lo VC c :=
  ⟨(hb.block _ (heap_lt h.st)).trans h.st, (hb.block _ (heap_lt h.z)).trans h.z, (hb.block _ (heap_lt h.y)).trans h.y, (hb.block _ (heap_lt h.nd)).trans h.nd, row_below h.row hb, h.bel.trans (hb.mono h.bel.size)⟩
theorem RF.far (h : RF w wr p o n cap a ok pa re lo VC c) : ∀ g cur, wr.heap[g]? = some (.cells cur 37 (0, 0)) → g ≠ p ∧ g ≠ p + 1 + 1 + 1 := fun g cur hg => ⟨by
  rintro rfl
  rw [h.st] at hg
  injection hg with hg
  injection hg with _ e2
  exact absurd e2 (by decide), by
  rintro rfl
  rw [h.nd] at hg
  injection hg with hg
  injection hg with _ e2
  exact absurd e2 (by decide)⟩
theorem RF.setSt (h : RF w wr p o n cap a ok pa re lo VC c) (hp : w.heap.size ≤ p) : RF w (setMod wr p (.slice o n cap) (.int .i64 a') (.bool ok')) p o n cap a' ok' pa re lo VC c :=
  ⟨store3 h.st _ _ _, (setMod_far wr p _ _ _ _ (by omega)).trans h.z, (setMod_far wr p _ _ _ _ (by omega)).trans h.y, (setMod_far wr p _ _ _ _ (by omega)).trans h.nd,
   own_keep h.row (fun g cur _ _ _ hc => setMod_far wr p _ _ _ g (h.far g cur hc).1), ((h.bel.setCell hp _).setCell hp _).setCell hp _⟩
theorem RF.ins (h : RF w wr p o n cap a ok pa re lo VC c) (hp : w.heap.size ≤ p) (i : md.Ins) (hr : wr'.ownsRow w.heap.size 37 2 VC' (c.length + 1) (codeC c ++ insC i)) (hg : wr.grownBy wr' VC.ownBlock) : RF w (wr'.setCell ⟨p + 1 + 1 + 1, 3, none⟩ VC') p o n cap a ok pa re lo VC' (c ++ [i]) := by
  have hty : ∀ (k : Nat) (o : Obj), wr.heap[k]? = some o → (∀ cur, o ≠ Obj.cells cur 37 (0, 0)) → wr'.heap[k]? = some o := fun k o hk ho => (hg.block k (heap_lt hk) (fun e => by
    obtain ⟨cur, hc⟩ := own_type h.row e.symm
    rw [hk] at hc
    exact ho cur (Option.some.inj hc))).trans hk
  have hset : ∀ k, k ≠ p + 1 + 1 + 1 → (wr'.setCell ⟨p + 1 + 1 + 1, 3, none⟩ VC').heap[k]? = wr'.heap[k]? := fun k hk => Below.heap_setCell wr' ⟨p + 1 + 1 + 1, 3, none⟩ VC' k hk
  have hn := hty _ _ h.nd (fun cur e => by injection e with _ e2; exact absurd e2 (by decide))
  refine ⟨(hset _ (by omega)).trans (hty _ _ h.st (fun cur e => by injection e with _ e2; exact absurd e2 (by decide))), (hset _ (by omega)).trans (hty _ _ h.z (fun cur e => by injection e with _ e2; exact absurd e2 (by decide))), (hset _ (by omega)).trans (hty _ _ h.y (fun cur e => by injection e with _ e2; exact absurd e2 (by decide))), heap_setCell_same wr' (p + 1 + 1 + 1) 3 _ _ VC' hn, ?_, ?_⟩
  · rw [codeC_snoc, List.length_append, List.length_singleton]
    exact own_keep hr (fun g cur hB _ _ hc => hset g (by rintro rfl; rw [hn] at hc; injection hc with hc; injection hc with _ e2; exact absurd e2 (by decide)))
  · exact (h.bel.grown hg h.bel.size (fun k hk => (h.row.lt k hk).1)).setCell (by show w.heap.size ≤ p + 1 + 1 + 1; omega) _
theorem RF.ndg (h : RF w wr p o n cap a ok pa re lo VC c) (hg : wr.grownBy wr' VC.ownBlock) : wr'.heap[p + 1 + 1 + 1]? = some (.cells #[.int .i64 pa, .int .i64 re, .int .i64 lo, VC] 40 (0, 0)) :=
  (hg.block _ (heap_lt h.nd) (fun e => by
    obtain ⟨cur, hc⟩ := own_type h.row e.symm
    rw [h.nd] at hc
    injection hc with hc
    injection hc with _ e2
    exact absurd e2 (by decide))).trans h.nd
theorem RF.setF (h : RF w wr p o n cap a ok pa re lo VC c) (hp : w.heap.size ≤ p) (pa' re' lo' : Int) : RF w (((wr.setCell ⟨p + 1 + 1 + 1, 0, none⟩ (.int .i64 pa')).setCell ⟨p + 1 + 1 + 1, 1, none⟩ (.int .i64 re')).setCell ⟨p + 1 + 1 + 1, 2, none⟩ (.int .i64 lo')) p o n cap a ok pa' re' lo' VC c := by
  have h0 := heap_setCell_same wr (p + 1 + 1 + 1) 0 _ _ (.int .i64 pa') h.nd
  have h1 := heap_setCell_same _ (p + 1 + 1 + 1) 1 _ _ (.int .i64 re') h0
  have hp3 : w.heap.size ≤ p + 1 + 1 + 1 := by omega
  exact ⟨(setMod_far wr (p + 1 + 1 + 1) _ _ _ _ (by omega)).trans h.st, (setMod_far wr (p + 1 + 1 + 1) _ _ _ _ (by omega)).trans h.z, (setMod_far wr (p + 1 + 1 + 1) _ _ _ _ (by omega)).trans h.y, heap_setCell_same _ (p + 1 + 1 + 1) 2 _ _ (.int .i64 lo') h1,
   own_keep h.row (fun g cur _ _ _ hc => setMod_far wr (p + 1 + 1 + 1) _ _ _ g (h.far g cur hc).2), ((h.bel.setCell hp3 _).setCell hp3 _).setCell hp3 _⟩
end
theorem RF.setX {w wr : World} {p : Nat} {o : Option Addr} {n cap a : Nat} {ok : Bool} {pa re lo : Int} {VC : Value} {c : List md.Ins} (h : RF w wr p o n cap a ok pa re lo VC c) (hp : w.heap.size ≤ p) {q : Nat} (hq : p + 1 + 1 + 1 < q) (hg : ∀ g, VC.ownBlock = some g → g < q) (v : Value) : RF w (wr.setCell ⟨q, 1, none⟩ v) p o n cap a ok pa re lo VC c := by
  have hset : ∀ k, k ≠ q → (wr.setCell ⟨q, 1, none⟩ v).heap[k]? = wr.heap[k]? := fun k hk => Below.heap_setCell wr ⟨q, 1, none⟩ v k hk
  exact ⟨(hset _ (by omega)).trans h.st, (hset _ (by omega)).trans h.z, (hset _ (by omega)).trans h.y, (hset _ (by omega)).trans h.nd, own_keep h.row (fun g _ _ _ ho _ => hset g (by have := hg g ho; omega)), h.bel.setCell (by show w.heap.size ≤ q; omega) _⟩
abbrev setFn (X : World) (q : Nat) (a0 a1 a2 a3 : Value) : World := (((X.setCell ⟨q, 0, none⟩ a0).setCell ⟨q, 1, none⟩ a1).setCell ⟨q, 2, none⟩ a2).setCell ⟨q, 3, none⟩ a3
theorem setFn_far (X : World) (q : Nat) (a0 a1 a2 a3 : Value) (k : Nat) (hk : k ≠ q) : (setFn X q a0 a1 a2 a3).heap[k]? = X.heap[k]? :=
  (Below.heap_setCell _ ⟨q, 3, none⟩ a3 k hk).trans (setMod_far X q a0 a1 a2 k hk)
theorem fill_fn {w wr : World} {q r : Nat} {a0 a1 a2 a3 : Value} {VC : Value} {c : List md.Ins} (hz : wr.heap[q]? = some fnZ) (hy : wr.heap[r]? = some stZ) (hqr : r ≠ q) (hrow : wr.ownsRow w.heap.size 37 2 VC c.length (codeC c)) (hb : Below w.heap.size w wr) (hp : w.heap.size ≤ q) :
    (setFn wr q a0 a1 a2 a3).heap[q]? = some (.cells #[a0, a1, a2, a3] 40 (0, 0)) ∧ (setFn wr q a0 a1 a2 a3).heap[r]? = some stZ ∧ (setFn wr q a0 a1 a2 a3).ownsRow w.heap.size 37 2 VC c.length (codeC c) ∧ Below w.heap.size w (setFn wr q a0 a1 a2 a3) := by
  refine ⟨store4 hz a0 a1 a2 a3, (setFn_far wr q a0 a1 a2 a3 r hqr).trans hy, own_keep hrow (fun g cur _ _ _ hc => setFn_far wr q a0 a1 a2 a3 g ?_), (((hb.setCell hp a0).setCell hp a1).setCell hp a2).setCell hp a3⟩
  rintro rfl
  rw [hz] at hc
  injection hc with hc
  injection hc with _ e2
  exact absurd e2 (by decide)
theorem fill_st {w wr : World} {q r : Nat} {a0 a1 a2 : Value} {VC : Value} {c : List md.Ins} {O : Obj} (hz : wr.heap[q]? = some O) (hy : wr.heap[r]? = some stZ) (hqr : q ≠ r) (hrow : wr.ownsRow w.heap.size 37 2 VC c.length (codeC c)) (hb : Below w.heap.size w wr) (hp : w.heap.size ≤ r) :
    (setMod wr r a0 a1 a2).drew.heap[q]? = some O ∧ (setMod wr r a0 a1 a2).drew.heap[r]? = some (.cells #[a0, a1, a2] 46 (0, 0)) ∧ (setMod wr r a0 a1 a2).drew.ownsRow w.heap.size 37 2 VC c.length (codeC c) ∧ Below w.heap.size w (setMod wr r a0 a1 a2).drew := by
  refine ⟨(setMod_far wr r a0 a1 a2 q hqr).trans hz, store3 hy a0 a1 a2, own_keep hrow (fun g cur _ _ _ hc => setMod_far wr r a0 a1 a2 g ?_), below_dN (((hb.setCell hp a0).setCell hp a1).setCell hp a2) 1⟩
  rintro rfl
  rw [hy] at hc
  injection hc with hc
  injection hc with _ e2
  exact absurd e2 (by decide)
/-- what the document's function answers: the function counts only where the bytes haven't left the form -/
def FnAns (o : Option Addr) (cap : Nat) (b : List UInt8) (w w' : World) (e : Ending) (r : md.Fn × md.St) : Prop :=
  ∃ (a : Nat) (f : md.Fn) (VC : Value), e = .returned (.tuple #[fnV f VC, stV o b.length cap a (!r.2.bad)]) ∧ (r.2.bad = false → f = r.1) ∧ w'.ownsRow w.heap.size 37 2 VC f.code.length (codeC f.code) ∧ a ≤ b.length ∧ r.2.rest = b.drop a ∧ Below w.heap.size w w'

set_option maxRecDepth 100000 in
set_option maxHeartbeats 6400000 in
theorem rfn_any (D : Nat → Prop) (o : Option Addr) (cap : Nat) (b : List UInt8) (a : Nat) (bad : Bool) (w : World) (hin : BsIn w D (.slice o b.length cap) b) (ha : a ≤ b.length) :
    Calls Try.prog 13 #[stV o b.length cap a (!bad)] w fun e w' => FnAns o cap b w w' e (md.fn ⟨b.drop a, bad⟩) := by
  unfold FnAns
  obtain ⟨hc1, hc2⟩ := (RowIn.lens hin).2
  have H0 : Hid (RF w ((((w.alloc (stO o b.length cap a (!bad))).alloc fnZ).alloc stZ).alloc fnZ) w.heap.size o b.length cap a (!bad) 0 0 0 (.slice none 0 0) []) := Lib.hid (by
    have b1 := below_one w (stO o b.length cap a (!bad))
    have b2 := below_one (w.alloc (stO o b.length cap a (!bad))) fnZ
    have b3 := below_one ((w.alloc (stO o b.length cap a (!bad))).alloc fnZ) stZ
    have b4 := below_one (((w.alloc (stO o b.length cap a (!bad))).alloc fnZ).alloc stZ) fnZ
    have n1 := heap_alloc_new w (stO o b.length cap a (!bad))
    have n2 := heap_alloc_new (w.alloc (stO o b.length cap a (!bad))) fnZ
    have n3 := heap_alloc_new ((w.alloc (stO o b.length cap a (!bad))).alloc fnZ) stZ
    have n4 := heap_alloc_new (((w.alloc (stO o b.length cap a (!bad))).alloc fnZ).alloc stZ) fnZ
    simp only [World.size_alloc] at n2 n3 n4
    refine ⟨?_, ?_, ?_, n4, World.ownsRow_nil _ _ _ _, ?_⟩
    · exact (b4.block _ (by simp; omega)).trans ((b3.block _ (by simp; omega)).trans ((b2.block _ (by simp)).trans n1))
    · exact (b4.block _ (by simp)).trans ((b3.block _ (by simp)).trans n2)
    · exact (b4.block _ (by simp)).trans n3
    · exact b1.trans ((b2.trans ((b3.trans (b4.mono (by simp))).mono (by simp))).mono (by simp)))
  have HIN := Lib.hid hin
  have hR : md.fn ⟨b.drop a, bad⟩ = (md.bnd (md.one 0 1) fun r => md.bnd (md.one 0 (16 - (md.one 0 8 ⟨b.drop a, bad⟩).1)) fun l => md.bnd (md.two 1 400) fun n => md.bnd (md.many md.ins n) fun c => md.ret (⟨(md.one 0 8 ⟨b.drop a, bad⟩).1, r, l, c⟩ : md.Fn)) (md.one 0 8 ⟨b.drop a, bad⟩).2 := rfl
  obtain ⟨R, hRR⟩ : ∃ R, md.fn ⟨b.drop a, bad⟩ = R := ⟨_, rfl⟩
  rw [hRR]
  rw [hRR] at hR
  have HR := Lib.hid hR
  have HONE := Lib.hid (fun lo hi a bd W h h2 => rone_any D o cap b lo hi a bd W h h2)
  have HL := Lib.hid (md.one_le 0 8 ⟨b.drop a, bad⟩)
  clear hin hR hRR
  go_enter Try.func13, Try.ntmps13
  go_upto_region 2 with fail
  generalize (((w.alloc (stO o b.length cap a (!bad))).alloc fnZ).alloc stZ).alloc fnZ = W0 at *
  obtain ⟨p, hp⟩ : ∃ p, w.heap.size = p := ⟨_, rfl⟩
  have HP := Lib.hid hp
  have RF0 : Hid (RF w W0 p o b.length cap a (!bad) 0 0 0 (.slice none 0 0) []) := Lib.hid (by rw [← hp]; exact H0.out)
  rw [hp]
  clear hp H0
  have c0 : W0.cell? ⟨p, 0, none⟩ = some (.slice o b.length cap) := (cell_of_heap RF0.out.st).trans rfl
  have c1 : W0.cell? ⟨p, 1, none⟩ = some (.int .i64 a) := (cell_of_heap RF0.out.st).trans rfl
  have c2 : W0.cell? ⟨p, 2, none⟩ = some (.bool (!bad)) := (cell_of_heap RF0.out.st).trans rfl
  have hlc := heap_lt RF0.out.st
  have HC1 := Lib.hid (HONE.out 0 8 a bad W0 (RowIn.below HIN.out RF0.out.bel) ha)
  go_wp2_with fail
  refine HC1.out.mono ?_
  rintro e V1 ⟨a1, rfl, ha1, hr1, hb1⟩
  have hR1 := HR.out
  obtain ⟨X, hX⟩ : ∃ X, md.one 0 8 ⟨b.drop a, bad⟩ = X := ⟨_, rfl⟩
  have hv1 := HL.out
  rw [hX] at hr1 hR1 hv1 ⊢
  obtain ⟨v1, ⟨l1, bd1⟩⟩ := X
  dsimp only at hr1 hR1 hv1 ⊢
  subst hr1
  have hba := below_one V1 (stO o b.length cap a1 (!bd1))
  have RF1 := Lib.hid ((RF0.out.below hb1).below hba)
  have HQ1 := Lib.hid (heap_alloc_new V1 (stO o b.length cap a1 (!bd1)))
  have HR1 := Lib.hid hR1
  clear hX hba c0 c1 c2 hlc hb1 HC1 RF0 hR1
  go_upto_region 3 with fail
  generalize V1.alloc (stO o b.length cap a1 (!bd1)) = W1 at *
  generalize V1.heap.size = q1 at *
  have c0 : W1.cell? ⟨q1, 0, none⟩ = some (.slice o b.length cap) := (cell_of_heap HQ1.out).trans rfl
  have c1 : W1.cell? ⟨q1, 1, none⟩ = some (.int .i64 a1) := (cell_of_heap HQ1.out).trans rfl
  have c2 : W1.cell? ⟨q1, 2, none⟩ = some (.bool (!bd1)) := (cell_of_heap HQ1.out).trans rfl
  have hlc := heap_lt HQ1.out
  have HC2 := Lib.hid (HONE.out 0 1 a1 bd1 W1 (RowIn.below HIN.out RF1.out.bel) ha1)
  go_wp2_with fail
  refine HC2.out.mono ?_
  rintro e V2 ⟨a2, rfl, ha2, hr2, hb2⟩
  have hR2 : R = (md.bnd (md.one 0 (16 - v1)) fun l => md.bnd (md.two 1 400) fun n => md.bnd (md.many md.ins n) fun c => md.ret (⟨v1, (md.one 0 1 ⟨b.drop a1, bd1⟩).1, l, c⟩ : md.Fn)) (md.one 0 1 ⟨b.drop a1, bd1⟩).2 := HR1.out
  obtain ⟨X, hX⟩ : ∃ X, md.one 0 1 ⟨b.drop a1, bd1⟩ = X := ⟨_, rfl⟩
  rw [hX] at hr2 hR2 ⊢
  obtain ⟨v2, ⟨l2, bd2⟩⟩ := X
  dsimp only at hr2 hR2 ⊢
  subst hr2
  have hba := below_one V2 (stO o b.length cap a2 (!bd2))
  have RF2 := Lib.hid ((RF1.out.below hb2).below hba)
  have HQ2 := Lib.hid (heap_alloc_new V2 (stO o b.length cap a2 (!bd2)))
  have HR2 := Lib.hid hR2
  clear hX hba c0 c1 c2 hlc hb2 HC2 RF1 hR2
  go_upto_region 4 with fail
  generalize V2.alloc (stO o b.length cap a2 (!bd2)) = W2 at *
  generalize V2.heap.size = q2 at *
  have c0 : W2.cell? ⟨q2, 0, none⟩ = some (.slice o b.length cap) := (cell_of_heap HQ2.out).trans rfl
  have c1 : W2.cell? ⟨q2, 1, none⟩ = some (.int .i64 a2) := (cell_of_heap HQ2.out).trans rfl
  have c2 : W2.cell? ⟨q2, 2, none⟩ = some (.bool (!bd2)) := (cell_of_heap HQ2.out).trans rfl
  have hlc := heap_lt HQ2.out
  have HC3 := Lib.hid (HONE.out 0 (16 - v1) a2 bd2 W2 (RowIn.below HIN.out RF2.out.bel) ha2)
  rw [show (((16 - v1 : Nat)) : Int) = 16 - (v1 : Int) by omega] at HC3
  have hw16 : IntKind.i64.wrap (16 - (v1 : Int)) = 16 - (v1 : Int) := by rw [IntKind.wrap_i64]; omega
  go_wp2_with fail
  refine HC3.out.mono ?_
  rintro e V3 ⟨a3, rfl, ha3, hr3, hb3⟩
  have hR3 : R = (md.bnd (md.two 1 400) fun n => md.bnd (md.many md.ins n) fun c => md.ret (⟨v1, v2, (md.one 0 (16 - v1) ⟨b.drop a2, bd2⟩).1, c⟩ : md.Fn)) (md.one 0 (16 - v1) ⟨b.drop a2, bd2⟩).2 := HR2.out
  clear hw16
  obtain ⟨X, hX⟩ : ∃ X, md.one 0 (16 - v1) ⟨b.drop a2, bd2⟩ = X := ⟨_, rfl⟩
  rw [hX] at hr3 hR3 ⊢
  obtain ⟨v3, ⟨l3, bd3⟩⟩ := X
  dsimp only at hr3 hR3 ⊢
  subst hr3
  have hba := below_one V3 (stO o b.length cap a3 (!bd3))
  have RF3 := Lib.hid ((RF2.out.below hb3).below hba)
  have HQ3 := Lib.hid (heap_alloc_new V3 (stO o b.length cap a3 (!bd3)))
  have HR3 := Lib.hid hR3
  clear hX hba c0 c1 c2 hlc hb3 HC3 RF2 hR3
  go_upto_region 5 with fail
  generalize V3.alloc (stO o b.length cap a3 (!bd3)) = W3 at *
  generalize V3.heap.size = q3 at *
  have c0 : W3.cell? ⟨q3, 0, none⟩ = some (.slice o b.length cap) := (cell_of_heap HQ3.out).trans rfl
  have c1 : W3.cell? ⟨q3, 1, none⟩ = some (.int .i64 a3) := (cell_of_heap HQ3.out).trans rfl
  have c2 : W3.cell? ⟨q3, 2, none⟩ = some (.bool (!bd3)) := (cell_of_heap HQ3.out).trans rfl
  have hlc := heap_lt HQ3.out
  have HPR := Lib.hid (rpair_any D o cap b 1 400 a3 bd3 W3 (RowIn.below HIN.out RF3.out.bel) ha3 (by decide))
  have h400 := md.two400 ⟨b.drop a3, bd3⟩
  have hR4 : R = ((⟨v1, v2, v3, (md.many md.ins (md.two 1 400 ⟨b.drop a3, bd3⟩).1 (md.two 1 400 ⟨b.drop a3, bd3⟩).2).1⟩ : md.Fn), (md.many md.ins (md.two 1 400 ⟨b.drop a3, bd3⟩).1 (md.two 1 400 ⟨b.drop a3, bd3⟩).2).2) := HR3.out
  go_wp2_with fail
  refine HPR.out.mono ?_
  rintro e V4 ⟨a4, n, rfl, hn1, hn2, ha4, hr4, hb4⟩
  obtain ⟨X, hX⟩ : ∃ X, md.two 1 400 ⟨b.drop a3, bd3⟩ = X := ⟨_, rfl⟩
  rw [hX] at hn1 hn2 hr4 hR4 h400 ⊢
  obtain ⟨v4, ⟨l4, bd4⟩⟩ := X
  dsimp only at hn1 hn2 hr4 hR4 h400 ⊢
  subst hr4
  have hn400 : n ≤ 400 := by
    cases bd4 with
    | false => rw [hn1 rfl]; exact h400
    | true => rw [hn2 rfl]; decide
  have hba := below_one V4 (stO o b.length cap a4 (!bd4))
  have RF4 := Lib.hid ((RF3.out.below hb4).below hba)
  have HQ4 := Lib.hid (heap_alloc_new V4 (stO o b.length cap a4 (!bd4)))
  have HR4 := Lib.hid hR4
  have HN4 := Lib.hid (And.intro hn1 hn2)
  clear hX hba c0 c1 c2 hlc hb4 HPR RF3 hR4 hn1 hn2
  go_upto_region 6 with fail
  generalize V4.alloc (stO o b.length cap a4 (!bd4)) = W4 at *
  generalize V4.heap.size = q4 at *
  have c0 : W4.cell? ⟨q4, 0, none⟩ = some (.slice o b.length cap) := (cell_of_heap HQ4.out).trans rfl
  have c1 : W4.cell? ⟨q4, 1, none⟩ = some (.int .i64 a4) := (cell_of_heap HQ4.out).trans rfl
  have c2 : W4.cell? ⟨q4, 2, none⟩ = some (.bool (!bd4)) := (cell_of_heap HQ4.out).trans rfl
  have hlc := heap_lt HQ4.out
  have k0 : W4.cell? ⟨p, 0, none⟩ = some (.slice o b.length cap) := (cell_of_heap RF4.out.st).trans rfl
  have k1 : W4.cell? ⟨p, 1, none⟩ = some (.int .i64 a) := (cell_of_heap RF4.out.st).trans rfl
  have k2 : W4.cell? ⟨p, 2, none⟩ = some (.bool (!bad)) := (cell_of_heap RF4.out.st).trans rfl
  have n0 : W4.cell? ⟨p + 1 + 1 + 1, 0, none⟩ = some (.int .i64 0) := (cell_of_heap RF4.out.nd).trans rfl
  have n1 : W4.cell? ⟨p + 1 + 1 + 1, 1, none⟩ = some (.int .i64 0) := (cell_of_heap RF4.out.nd).trans rfl
  have n2 : W4.cell? ⟨p + 1 + 1 + 1, 2, none⟩ = some (.int .i64 0) := (cell_of_heap RF4.out.nd).trans rfl
  have n3 : W4.cell? ⟨p + 1 + 1 + 1, 3, none⟩ = some (.slice none 0 0) := (cell_of_heap RF4.out.nd).trans rfl
  have hln := heap_lt RF4.out.nd
  have f0 := thaw (k := 0) RF4.out.st
  have f1 := thaw (k := 1) RF4.out.st
  have f2 := thaw (k := 2) RF4.out.st
  have hlp := heap_lt RF4.out.st
  have f3 := thaw (k := 0) RF4.out.nd
  have f4 := thaw (k := 1) RF4.out.nd
  have f5 := thaw (k := 2) RF4.out.nd
  have hpw : w.heap.size ≤ p := by rw [HP.out]; exact Nat.le_refl _
  have RF5 := Lib.hid ((RF4.out.setSt (a' := a4) (ok' := !bd4) hpw).setF hpw v1 v2 v3)
  clear hpw
  go_upto_region 11 with fail
  clear c0 c1 c2 hlc k0 k1 k2 n0 n1 n2 n3 hln f0 f1 f2 f3 f4 f5 hlp RF4 HQ1 HQ2 HQ3 HQ4
  generalize ((((((W4.setCell ⟨p, 0, none⟩ (.slice o b.length cap)).setCell ⟨p, 1, none⟩ (.int .i64 a4)).setCell ⟨p, 2, none⟩ (.bool (!bd4))).setCell ⟨p + 1 + 1 + 1, 0, none⟩ (.int .i64 v1)).setCell ⟨p + 1 + 1 + 1, 1, none⟩ (.int .i64 v2)).setCell ⟨p + 1 + 1 + 1, 2, none⟩ (.int .i64 v3)) = W5 at *
  go_loopg [13] n (fun gg s13 wr => ∃ (k a' : Nat) (bd : Bool) (VC : Value) (c : List md.Ins), s13 = .int .i64 k ∧ k ≤ n ∧ n - k ≤ gg ∧ a' ≤ b.length ∧ c.length = k ∧ Hid (RF w wr p o b.length cap a' (!bd) v1 v2 v3 VC c ∧ (md.many md.ins k ⟨b.drop a4, bd4⟩).2 = ⟨b.drop a', bd⟩ ∧ (bd = false → c = (md.many md.ins k ⟨b.drop a4, bd4⟩).1)))
  case atStart => exact ⟨0, a4, bd4, .slice none 0 0, [], rfl, Nat.zero_le _, by omega, ha4, rfl, Lib.hid ⟨RF5.out, rfl, fun _ => rfl⟩⟩
  case round =>
    clear RF5
    obtain ⟨k, a', bd, VC, c, rfl, hk, hgg, ha', hck, HA⟩ := hrel
    obtain ⟨ao, ac, rfl⟩ := own_slice HA.out.1.row
    have HCK := Lib.hid hck
    clear hck
    have hkv : k ≤ v4 := by
      cases h4 : bd4 with
      | false => have := HN4.out.1 h4; omega
      | true => have := HN4.out.2 h4; omega
    have HKV := Lib.hid hkv
    have HRF := Lib.hid HA.out.1
    clear hkv
    by_cases hlt : k < n
    case neg =>
      have HEND : Hid (R.2 = ⟨b.drop a', bd⟩ ∧ (bd = false → (⟨v1, v2, v3, c⟩ : md.Fn) = R.1)) := Lib.hid (by
        have h2 := HA.out.2.1
        have h3 := HA.out.2.2
        cases bd with
        | true => exact ⟨by rw [HR4.out]; exact md.many_stuck md.Good.ins _ _ k h2 v4 HKV.out, fun h => by cases h⟩
        | false =>
          have hb4 : bd4 = false := by
            cases bd4 with
            | false => rfl
            | true =>
              have := (md.Good.ins.many k).stuck (b.drop a4)
              rw [h2] at this
              injection this with _ h
              cases h
          have hn : v4 = k := by have := HN4.out.1 hb4; omega
          rw [HR4.out, hn]
          exact ⟨h2, fun _ => by rw [h3 rfl]⟩)
      have hlti : ¬ (k : Int) < (n : Int) := by omega
      have hff := fill_fn (a0 := .int .i64 v1) (a1 := .int .i64 v2) (a2 := .int .i64 v3) (a3 := .slice ao c.length ac) HRF.out.z HRF.out.y (by omega) HRF.out.row HRF.out.bel (by rw [HP.out]; omega)
      have HF := Lib.hid (fill_st (a0 := .slice o b.length cap) (a1 := .int .i64 a') (a2 := .bool (!bd)) hff.1 hff.2.1 (by omega) hff.2.2.1 hff.2.2.2 (by rw [HP.out]; omega))
      clear hff
      have k0 : wr.cell? ⟨p, 0, none⟩ = some (.slice o b.length cap) := (cell_of_heap HRF.out.st).trans rfl
      have k1 : wr.cell? ⟨p, 1, none⟩ = some (.int .i64 a') := (cell_of_heap HRF.out.st).trans rfl
      have k2 : wr.cell? ⟨p, 2, none⟩ = some (.bool (!bd)) := (cell_of_heap HRF.out.st).trans rfl
      have n0 : wr.cell? ⟨p + 1 + 1 + 1, 0, none⟩ = some (.int .i64 v1) := (cell_of_heap HRF.out.nd).trans rfl
      have n1 : wr.cell? ⟨p + 1 + 1 + 1, 1, none⟩ = some (.int .i64 v2) := (cell_of_heap HRF.out.nd).trans rfl
      have n2 : wr.cell? ⟨p + 1 + 1 + 1, 2, none⟩ = some (.int .i64 v3) := (cell_of_heap HRF.out.nd).trans rfl
      have n3 : wr.cell? ⟨p + 1 + 1 + 1, 3, none⟩ = some (.slice ao c.length ac) := (cell_of_heap HRF.out.nd).trans rfl
      have hln := heap_lt HRF.out.nd
      have d0 : wr.cell? ⟨p + 1, 0, none⟩ = some (.int .i64 0) := (cell_of_heap HRF.out.z).trans rfl
      have d1 : wr.cell? ⟨p + 1, 1, none⟩ = some (.int .i64 0) := (cell_of_heap HRF.out.z).trans rfl
      have d2 : wr.cell? ⟨p + 1, 2, none⟩ = some (.int .i64 0) := (cell_of_heap HRF.out.z).trans rfl
      have d3 : wr.cell? ⟨p + 1, 3, none⟩ = some (.slice none 0 0) := (cell_of_heap HRF.out.z).trans rfl
      have g0 := thaw (k := 0) HRF.out.z
      have g1 := thaw (k := 1) HRF.out.z
      have g2 := thaw (k := 2) HRF.out.z
      have g3 := thaw (k := 3) HRF.out.z
      have e0 : wr.cell? ⟨p + 1 + 1, 0, none⟩ = some (.slice none 0 0) := (cell_of_heap HRF.out.y).trans rfl
      have e1 : wr.cell? ⟨p + 1 + 1, 1, none⟩ = some (.int .i64 0) := (cell_of_heap HRF.out.y).trans rfl
      have e2 : wr.cell? ⟨p + 1 + 1, 2, none⟩ = some (.bool false) := (cell_of_heap HRF.out.y).trans rfl
      have h0 := thaw (k := 0) HRF.out.y
      have h1 := thaw (k := 1) HRF.out.y
      have h2 := thaw (k := 2) HRF.out.y
      clear HRF HA
      go_upto_region 21 with fail
      go_region
      all_goals
        go_wp2_with fail
        refine bodyPost_ret (results_two_cells rfl _ _ (p + 1) (p + 1 + 1) 40 46 _ _ (0, 0) (0, 0) _ _ rfl HF.out.1 Try.underlying40 rfl (by kernel_rfl) rfl HF.out.2.1 Try.underlying46 rfl (by kernel_rfl)) rfl ?_
        rw [HEND.out.1]
        exact ⟨a', ⟨v1, v2, v3, c⟩, .slice ao c.length ac, rfl, HEND.out.2, HF.out.2.2.1, ha', rfl, HF.out.2.2.2⟩
    case pos =>
      have hlti : (k : Int) < (n : Int) := by omega
      cases bd with
      | true =>
        have HEND : Hid (R.2 = ⟨b.drop a', true⟩ ∧ (true = false → (⟨v1, v2, v3, c⟩ : md.Fn) = R.1)) := Lib.hid ⟨by rw [HR4.out]; exact md.many_stuck md.Good.ins _ _ k HA.out.2.1 v4 HKV.out, fun h => by cases h⟩
        have hff := fill_fn (a0 := .int .i64 v1) (a1 := .int .i64 v2) (a2 := .int .i64 v3) (a3 := .slice ao c.length ac) HRF.out.z HRF.out.y (by omega) HRF.out.row HRF.out.bel (by rw [HP.out]; omega)
        have HF := Lib.hid (fill_st (a0 := .slice o b.length cap) (a1 := .int .i64 a') (a2 := .bool false) hff.1 hff.2.1 (by omega) hff.2.2.1 hff.2.2.2 (by rw [HP.out]; omega))
        clear hff
        have k0 : wr.cell? ⟨p, 0, none⟩ = some (.slice o b.length cap) := (cell_of_heap HRF.out.st).trans rfl
        have k1 : wr.cell? ⟨p, 1, none⟩ = some (.int .i64 a') := (cell_of_heap HRF.out.st).trans rfl
        have k2 : wr.cell? ⟨p, 2, none⟩ = some (.bool false) := (cell_of_heap HRF.out.st).trans rfl
        have n0 : wr.cell? ⟨p + 1 + 1 + 1, 0, none⟩ = some (.int .i64 v1) := (cell_of_heap HRF.out.nd).trans rfl
        have n1 : wr.cell? ⟨p + 1 + 1 + 1, 1, none⟩ = some (.int .i64 v2) := (cell_of_heap HRF.out.nd).trans rfl
        have n2 : wr.cell? ⟨p + 1 + 1 + 1, 2, none⟩ = some (.int .i64 v3) := (cell_of_heap HRF.out.nd).trans rfl
        have n3 : wr.cell? ⟨p + 1 + 1 + 1, 3, none⟩ = some (.slice ao c.length ac) := (cell_of_heap HRF.out.nd).trans rfl
        have hln := heap_lt HRF.out.nd
        have d0 : wr.cell? ⟨p + 1, 0, none⟩ = some (.int .i64 0) := (cell_of_heap HRF.out.z).trans rfl
        have d1 : wr.cell? ⟨p + 1, 1, none⟩ = some (.int .i64 0) := (cell_of_heap HRF.out.z).trans rfl
        have d2 : wr.cell? ⟨p + 1, 2, none⟩ = some (.int .i64 0) := (cell_of_heap HRF.out.z).trans rfl
        have d3 : wr.cell? ⟨p + 1, 3, none⟩ = some (.slice none 0 0) := (cell_of_heap HRF.out.z).trans rfl
        have g0 := thaw (k := 0) HRF.out.z
        have g1 := thaw (k := 1) HRF.out.z
        have g2 := thaw (k := 2) HRF.out.z
        have g3 := thaw (k := 3) HRF.out.z
        have e0 : wr.cell? ⟨p + 1 + 1, 0, none⟩ = some (.slice none 0 0) := (cell_of_heap HRF.out.y).trans rfl
        have e1 : wr.cell? ⟨p + 1 + 1, 1, none⟩ = some (.int .i64 0) := (cell_of_heap HRF.out.y).trans rfl
        have e2 : wr.cell? ⟨p + 1 + 1, 2, none⟩ = some (.bool false) := (cell_of_heap HRF.out.y).trans rfl
        have h0 := thaw (k := 0) HRF.out.y
        have h1 := thaw (k := 1) HRF.out.y
        have h2 := thaw (k := 2) HRF.out.y
        clear HRF HA
        go_upto_region 21 with fail
        go_region
        all_goals
          go_wp2_with fail
          refine bodyPost_ret (results_two_cells rfl _ _ (p + 1) (p + 1 + 1) 40 46 _ _ (0, 0) (0, 0) _ _ rfl HF.out.1 Try.underlying40 rfl (by kernel_rfl) rfl HF.out.2.1 Try.underlying46 rfl (by kernel_rfl)) rfl ?_
          rw [HEND.out.1]
          exact ⟨a', ⟨v1, v2, v3, c⟩, .slice ao c.length ac, rfl, HEND.out.2, HF.out.2.2.1, ha', rfl, HF.out.2.2.2⟩
      | false =>
        have HSN : Hid ((md.many md.ins (k + 1) ⟨b.drop a4, bd4⟩).2 = (md.ins ⟨b.drop a', false⟩).2 ∧ (md.many md.ins (k + 1) ⟨b.drop a4, bd4⟩).1 = c ++ [(md.ins ⟨b.drop a', false⟩).1]) := Lib.hid (by
          rw [md.many_snoc, HA.out.2.1, ← HA.out.2.2 rfl]
          exact ⟨rfl, rfl⟩)
        have HI : Hid (md.ins ⟨b.drop a', false⟩ = _) := Lib.hid (md.ins_eq ⟨b.drop a', false⟩)
        have k0 : wr.cell? ⟨p, 0, none⟩ = some (.slice o b.length cap) := (cell_of_heap HRF.out.st).trans rfl
        have k1 : wr.cell? ⟨p, 1, none⟩ = some (.int .i64 a') := (cell_of_heap HRF.out.st).trans rfl
        have k2 : wr.cell? ⟨p, 2, none⟩ = some (.bool true) := (cell_of_heap HRF.out.st).trans rfl
        have hlp := heap_lt HRF.out.st
        have HC6 := Lib.hid (HONE.out 0 29 a' false wr (RowIn.below HIN.out HRF.out.bel) ha')
        go_wp2_with fail
        refine HC6.out.mono ?_
        rintro e V6 ⟨a6, rfl, ha6, hr6, hb6⟩
        have hR6 := HI.out
        obtain ⟨X, hX⟩ : ∃ X, md.one 0 29 ⟨b.drop a', false⟩ = X := ⟨_, rfl⟩
        rw [hX] at hr6 hR6 ⊢
        obtain ⟨op, ⟨l6, bd6⟩⟩ := X
        dsimp only at hr6 hR6 ⊢
        subst hr6
        have hba := below_one V6 (stO o b.length cap a6 (!bd6))
        have RF6 := Lib.hid ((HRF.out.below hb6).below hba)
        have HQ6 := Lib.hid (heap_alloc_new V6 (stO o b.length cap a6 (!bd6)))
        have HR6 := Lib.hid hR6
        clear hX hba k0 k1 k2 hlp hb6 HC6 HRF hR6 HI HA
        go_upto_region 14 with fail
        generalize V6.alloc (stO o b.length cap a6 (!bd6)) = W6 at *
        generalize V6.heap.size = q6 at *
        have c0 : W6.cell? ⟨q6, 0, none⟩ = some (.slice o b.length cap) := (cell_of_heap HQ6.out).trans rfl
        have c1 : W6.cell? ⟨q6, 1, none⟩ = some (.int .i64 a6) := (cell_of_heap HQ6.out).trans rfl
        have c2 : W6.cell? ⟨q6, 2, none⟩ = some (.bool (!bd6)) := (cell_of_heap HQ6.out).trans rfl
        have hlc := heap_lt HQ6.out
        have k0 : W6.cell? ⟨p, 0, none⟩ = some (.slice o b.length cap) := (cell_of_heap RF6.out.st).trans rfl
        have k1 : W6.cell? ⟨p, 1, none⟩ = some (.int .i64 a') := (cell_of_heap RF6.out.st).trans rfl
        have k2 : W6.cell? ⟨p, 2, none⟩ = some (.bool true) := (cell_of_heap RF6.out.st).trans rfl
        have f0 := thaw (k := 0) RF6.out.st
        have f1 := thaw (k := 1) RF6.out.st
        have f2 := thaw (k := 2) RF6.out.st
        have hlp := heap_lt RF6.out.st
        have RF7 : Hid (RF w (((W6.setCell ⟨p, 0, none⟩ (.slice o b.length cap)).setCell ⟨p, 1, none⟩ (.int .i64 a6)).setCell ⟨p, 2, none⟩ (.bool (!bd6))) p o b.length cap a6 (!bd6) v1 v2 v3 (.slice ao c.length ac) c) := Lib.hid (RF6.out.setSt (a' := a6) (ok' := !bd6) (by rw [HP.out]; exact Nat.le_refl _))
        go_upto_region 15 with fail
        clear c0 c1 c2 hlc k0 k1 k2 f0 f1 f2 hlp RF6 HQ6
        generalize ((W6.setCell ⟨p, 0, none⟩ (.slice o b.length cap)).setCell ⟨p, 1, none⟩ (.int .i64 a6)).setCell ⟨p, 2, none⟩ (.bool (!bd6)) = W7 at *
        have HH := Lib.hid (fun W => rhas_any (op : Int) W)
        have hba := below_one W7 (.cells #[.int .i64 op, .int .i64 0] 37)
        have RF8 := Lib.hid (RF7.out.below hba)
        have HX8 := Lib.hid (heap_alloc_new W7 (.cells #[.int .i64 op, .int .i64 0] 37))
        have hpq8 : p + 1 + 1 + 1 < W7.heap.size := heap_lt RF7.out.nd
        have HGQ := Lib.hid (fun g hg => (RF7.out.row.lt g hg).2)
        clear hba RF7
        go_upto_region 16 with fail
        generalize W7.alloc (.cells #[.int .i64 op, .int .i64 0] 37) = W8 at *
        generalize W7.heap.size = q8 at *
        go_wp2_with fail
        refine (HH.out _).mono ?_
        rintro e w' ⟨rfl, hw⟩
        replace hw := hw.symm
        subst hw
        cases hh : md.has (op : Int) with
        | false =>
          have HIN6 : Hid (md.ins ⟨b.drop a', false⟩ = (⟨op, 0⟩, ⟨b.drop a6, bd6⟩)) := Lib.hid (by have := HR6.out; rw [hh] at this; exact this)
          have HS6 : Hid ((md.many md.ins (k + 1) ⟨b.drop a4, bd4⟩).2 = ⟨b.drop a6, bd6⟩ ∧ (bd6 = false → c ++ [⟨op, 0⟩] = (md.many md.ins (k + 1) ⟨b.drop a4, bd4⟩).1)) := Lib.hid ⟨by rw [HSN.out.1, HIN6.out], fun _ => by rw [HSN.out.2, HIN6.out]⟩
          clear HSN HR6 HIN6
          have n0 : W8.cell? ⟨p + 1 + 1 + 1, 0, none⟩ = some (.int .i64 v1) := (cell_of_heap RF8.out.nd).trans rfl
          have n1 : W8.cell? ⟨p + 1 + 1 + 1, 1, none⟩ = some (.int .i64 v2) := (cell_of_heap RF8.out.nd).trans rfl
          have n2 : W8.cell? ⟨p + 1 + 1 + 1, 2, none⟩ = some (.int .i64 v3) := (cell_of_heap RF8.out.nd).trans rfl
          have n3 : W8.cell? ⟨p + 1 + 1 + 1, 3, none⟩ = some (.slice ao c.length ac) := (cell_of_heap RF8.out.nd).trans rfl
          have hln := heap_lt RF8.out.nd
          have x0 : W8.cell? ⟨q8, 0, none⟩ = some (.int .i64 op) := (cell_of_heap HX8.out).trans rfl
          have x1 : W8.cell? ⟨q8, 1, none⟩ = some (.int .i64 0) := (cell_of_heap HX8.out).trans rfl
          have hlx := heap_lt HX8.out
          have hbl := below_one W8 (.cells #[.int .i64 op, .int .i64 0] 37)
          have hnl := heap_alloc_new W8 (.cells #[.int .i64 op, .int .i64 0] 37)
          have HRL := Lib.hid (RF8.out.below hbl)
          have HNL := Lib.hid hnl
          clear hbl hnl
          go_wp2_with (at_builtin; go_loud (refine wpList_row 38 37 2 16 _ Try.underlying38 infoIns rfl (by decide) (by decide) rfl _ _ rfl w.heap.size (.slice ao c.length ac) c.length (codeC c) rfl HRL.out.row W8.heap.size (insC ⟨op, 0⟩) rfl HNL.out rfl (by unfold insC; intro u hu; simp at hu; rcases hu with rfl | rfl <;> rfl) (by have := HCK.out; omega) HRL.out.bel.size ?_))
          intro VC' w9 r1 r2
          have hn9 := HRL.out.ndg r2
          obtain ⟨ao9, ac9, rfl⟩ := own_slice r1
          have n9 : w9.cell? ⟨p + 1 + 1 + 1, 3, none⟩ = some (.slice ao c.length ac) := (cell_of_heap hn9).trans rfl
          have f9 := thaw (k := 3) hn9
          have hl9 := heap_lt hn9
          have H9 := Lib.hid (HRL.out.ins (by rw [HP.out]; exact Nat.le_refl _) ⟨op, 0⟩ r1 r2)
          clear r1 r2 hn9 HRL HNL x0 x1 hlx n0 n1 n2 n3 hln RF8 HX8
          go_wp2_with fail
          go_roundg (n - (k + 1))
          case measure => omega
          case rel => exact ⟨k + 1, a6, bd6, .slice ao9 (c.length + 1) ac9, c ++ [⟨op, 0⟩], by go_num, by omega, Nat.le_refl _, ha6, by rw [List.length_append, List.length_singleton, HCK.out], Lib.hid ⟨H9.out, HS6.out.1, HS6.out.2⟩⟩
        | true =>
          have hR9 : md.ins ⟨b.drop a', false⟩ = (⟨op, (md.number ⟨b.drop a6, bd6⟩).1⟩, (md.number ⟨b.drop a6, bd6⟩).2) := by have := HR6.out; rw [hh] at this; exact this
          have HNB := Lib.hid (rnum_any D o cap b a6 bd6 W8 (RowIn.below HIN.out RF8.out.bel) ha6)
          have k0 : W8.cell? ⟨p, 0, none⟩ = some (.slice o b.length cap) := (cell_of_heap RF8.out.st).trans rfl
          have k1 : W8.cell? ⟨p, 1, none⟩ = some (.int .i64 a6) := (cell_of_heap RF8.out.st).trans rfl
          have k2 : W8.cell? ⟨p, 2, none⟩ = some (.bool (!bd6)) := (cell_of_heap RF8.out.st).trans rfl
          have hlp := heap_lt RF8.out.st
          go_wp2_with fail
          refine HNB.out.mono ?_
          rintro e V9 ⟨a9, v9, rfl, hv9, ha9, hr9, hb9⟩
          obtain ⟨X, hX⟩ : ∃ X, md.number ⟨b.drop a6, bd6⟩ = X := ⟨_, rfl⟩
          rw [hX] at hv9 hr9 hR9 ⊢
          obtain ⟨v10, ⟨l9, bd9⟩⟩ := X
          dsimp only at hv9 hr9 hR9 ⊢
          subst hr9
          have hx9 := (hb9.block _ (heap_lt HX8.out)).trans HX8.out
          have hba := below_one V9 (stO o b.length cap a9 (!bd9))
          have RF9 := Lib.hid ((RF8.out.below hb9).below hba)
          have HQ9 := Lib.hid (heap_alloc_new V9 (stO o b.length cap a9 (!bd9)))
          have HX9 := Lib.hid ((hba.block _ (heap_lt hx9)).trans hx9)
          have hq89 := heap_lt hx9
          have HS9 : Hid ((md.many md.ins (k + 1) ⟨b.drop a4, bd4⟩).2 = ⟨b.drop a9, bd9⟩ ∧ (bd9 = false → c ++ [⟨op, v9⟩] = (md.many md.ins (k + 1) ⟨b.drop a4, bd4⟩).1)) := Lib.hid ⟨by rw [HSN.out.1, hR9], fun h => by rw [HSN.out.2, hR9, hv9 h]⟩
          clear hX hba k0 k1 k2 hlp hb9 HNB RF8 hR9 hx9 HX8 hv9 HSN HR6
          go_upto_region 18 with fail
          generalize V9.alloc (stO o b.length cap a9 (!bd9)) = W9 at *
          generalize V9.heap.size = q9 at *
          have x1 : W9.cell? ⟨q8, 1, none⟩ = some (.int .i64 0) := (cell_of_heap HX9.out).trans rfl
          have fx := thaw (k := 1) HX9.out
          have hlx := heap_lt HX9.out
          have c0 : W9.cell? ⟨q9, 0, none⟩ = some (.slice o b.length cap) := (cell_of_heap HQ9.out).trans rfl
          have c1 : W9.cell? ⟨q9, 1, none⟩ = some (.int .i64 a9) := (cell_of_heap HQ9.out).trans rfl
          have c2 : W9.cell? ⟨q9, 2, none⟩ = some (.bool (!bd9)) := (cell_of_heap HQ9.out).trans rfl
          have hlc := heap_lt HQ9.out
          have k0 : W9.cell? ⟨p, 0, none⟩ = some (.slice o b.length cap) := (cell_of_heap RF9.out.st).trans rfl
          have k1 : W9.cell? ⟨p, 1, none⟩ = some (.int .i64 a6) := (cell_of_heap RF9.out.st).trans rfl
          have k2 : W9.cell? ⟨p, 2, none⟩ = some (.bool (!bd6)) := (cell_of_heap RF9.out.st).trans rfl
          have f0 := thaw (k := 0) RF9.out.st
          have f1 := thaw (k := 1) RF9.out.st
          have f2 := thaw (k := 2) RF9.out.st
          have hlp := heap_lt RF9.out.st
          have RF10 : Hid (RF w ((((W9.setCell ⟨q8, 1, none⟩ (.int .i64 v9)).setCell ⟨p, 0, none⟩ (.slice o b.length cap)).setCell ⟨p, 1, none⟩ (.int .i64 a9)).setCell ⟨p, 2, none⟩ (.bool (!bd9))) p o b.length cap a9 (!bd9) v1 v2 v3 (.slice ao c.length ac) c) := Lib.hid ((RF9.out.setX (by rw [HP.out]; exact Nat.le_refl _) hpq8 HGQ.out (.int .i64 v9)).setSt (by rw [HP.out]; exact Nat.le_refl _))
          have hx10 : ((((W9.setCell ⟨q8, 1, none⟩ (.int .i64 v9)).setCell ⟨p, 0, none⟩ (.slice o b.length cap)).setCell ⟨p, 1, none⟩ (.int .i64 a9)).setCell ⟨p, 2, none⟩ (.bool (!bd9))).heap[q8]? = some (.cells #[.int .i64 op, .int .i64 v9] 37 (0, 0)) := (setMod_far _ p _ _ _ q8 (by omega)).trans (heap_setCell_same W9 q8 1 _ _ (.int .i64 v9) HX9.out)
          have HX10 := Lib.hid hx10
          clear hx10
          go_upto_region 20 with fail
          clear c0 c1 c2 hlc k0 k1 k2 f0 f1 f2 hlp RF9 HQ9 HX9 x1 fx hlx
          generalize (((W9.setCell ⟨q8, 1, none⟩ (.int .i64 v9)).setCell ⟨p, 0, none⟩ (.slice o b.length cap)).setCell ⟨p, 1, none⟩ (.int .i64 a9)).setCell ⟨p, 2, none⟩ (.bool (!bd9)) = W10 at *
          have n0 : W10.cell? ⟨p + 1 + 1 + 1, 0, none⟩ = some (.int .i64 v1) := (cell_of_heap RF10.out.nd).trans rfl
          have n1 : W10.cell? ⟨p + 1 + 1 + 1, 1, none⟩ = some (.int .i64 v2) := (cell_of_heap RF10.out.nd).trans rfl
          have n2 : W10.cell? ⟨p + 1 + 1 + 1, 2, none⟩ = some (.int .i64 v3) := (cell_of_heap RF10.out.nd).trans rfl
          have n3 : W10.cell? ⟨p + 1 + 1 + 1, 3, none⟩ = some (.slice ao c.length ac) := (cell_of_heap RF10.out.nd).trans rfl
          have hln := heap_lt RF10.out.nd
          have x0 : W10.cell? ⟨q8, 0, none⟩ = some (.int .i64 op) := (cell_of_heap HX10.out).trans rfl
          have x1 : W10.cell? ⟨q8, 1, none⟩ = some (.int .i64 v9) := (cell_of_heap HX10.out).trans rfl
          have hlx := heap_lt HX10.out
          have hbl := below_one W10 (.cells #[.int .i64 op, .int .i64 v9] 37)
          have hnl := heap_alloc_new W10 (.cells #[.int .i64 op, .int .i64 v9] 37)
          have HRL := Lib.hid (RF10.out.below hbl)
          have HNL := Lib.hid hnl
          clear hbl hnl
          go_wp2_with (at_builtin; go_loud (refine wpList_row 38 37 2 16 _ Try.underlying38 infoIns rfl (by decide) (by decide) rfl _ _ rfl w.heap.size (.slice ao c.length ac) c.length (codeC c) rfl HRL.out.row W10.heap.size (insC ⟨op, v9⟩) rfl HNL.out rfl (by unfold insC; intro u hu; simp at hu; rcases hu with rfl | rfl <;> rfl) (by have := HCK.out; omega) HRL.out.bel.size ?_))
          intro VC' w9 r1 r2
          have hn9 := HRL.out.ndg r2
          obtain ⟨ao9, ac9, rfl⟩ := own_slice r1
          have n9 : w9.cell? ⟨p + 1 + 1 + 1, 3, none⟩ = some (.slice ao c.length ac) := (cell_of_heap hn9).trans rfl
          have f9 := thaw (k := 3) hn9
          have hl9 := heap_lt hn9
          have H9 := Lib.hid (HRL.out.ins (by rw [HP.out]; exact Nat.le_refl _) ⟨op, v9⟩ r1 r2)
          clear r1 r2 hn9 HRL HNL x0 x1 hlx n0 n1 n2 n3 hln RF10 HX10
          go_wp2_with fail
          go_roundg (n - (k + 1))
          case measure => omega
          case rel => exact ⟨k + 1, a9, bd9, .slice ao9 (c.length + 1) ac9, c ++ [⟨op, v9⟩], by go_num, by omega, Nat.le_refl _, ha9, by rw [List.length_append, List.length_singleton, HCK.out], Lib.hid ⟨H9.out, HS9.out.1, HS9.out.2⟩⟩
end Go.Proofs.Ytibpbnffennmeaa
