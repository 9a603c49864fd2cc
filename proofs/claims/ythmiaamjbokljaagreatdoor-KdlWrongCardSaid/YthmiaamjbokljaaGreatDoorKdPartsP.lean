/- Where parts stands: the parser, the node, its two rows, the names that were there. -/
import Derived.Test.YthmiaamjbokljaaGreatDoorKdTwice
import Derived.Test.YthmiaamjbokljaaGreatDoorKdRun
import Derived.Deep.AppendLies
namespace Go.Proofs.YthmiaamjbokljaaGreatDoor
open Go.RowKit
theorem own_type {w : World} {B : Nat} {e : TypeId} {size : Nat} {v : Value} {n : Nat} {xs : List Value} (h : w.ownsRow B e size v n xs) {g : Nat} (hg : v.ownBlock = some g) : ∃ cur, w.heap[g]? = some (.cells cur e (0, 0)) := by
  rcases h.2 with ⟨rfl, _⟩ | ⟨g', cap, cur, rfl, hB, hgg, rest⟩
  · cases hg
  · obtain rfl : g' = g := Option.some.inj hg
    exact ⟨cur, hgg⟩
/-- a row is kept where its block is -/
theorem own_keep {w w' : World} {B : Nat} {e : TypeId} {size : Nat} {v : Value} {n : Nat} {xs : List Value} (h : w.ownsRow B e size v n xs) (hk : ∀ g cur, B ≤ g → g < w.heap.size → v.ownBlock = some g → w.heap[g]? = some (.cells cur e (0, 0)) → w'.heap[g]? = w.heap[g]?) : w'.ownsRow B e size v n xs := by
  refine ⟨h.1, ?_⟩
  rcases h.2 with h' | ⟨g, cap, cur, rfl, hB, hg, rest⟩
  · exact .inl h'
  · exact .inr ⟨g, cap, cur, rfl, hB, (hk g cur hB (Array.getElem?_eq_some_iff.1 hg).1 rfl hg).trans hg, rest⟩
theorem infoVal : (Tryz.prog.info? 44).map (fun i => (i.zero, i.size, i.bytes)) = some (some (Value.agg #[.int .i64 0, .string ByteArray.empty, .int .i64 0, .bool false]), 4, 40) := by kernel_rfl
abbrev valO (v : kd.Val) : Obj := .cells #[.int .i64 v.kind, str v.text, .int .i64 v.int, .bool v.flag] 44
abbrev prpO (x : kd.Prp) : Obj := .cells #[str x.name, .int .i64 x.val.kind, str x.val.text, .int .i64 x.val.int, .bool x.val.flag] 46
/-- a value more, as one step of a region that draws -/
theorem step_append_val {w : World} {ops : Array Oper} {o : Oper} {a : Act} {K : Act → World → Prop} {Q : Exit → Act → World → Prop} {E : Prop} (hgd : o.guard = none) (s x : Operand)
    (ho : o.op = Op.call { callee := Callee.builtin Builtin.append, args := #[s, x], argTypes := #[36, 36] }) (B : Nat) (V : Value) (l : List kd.Val) (hs : a.eval s = V) (hown : w.ownsRow B 44 4 V l.length (argsC l))
    (g : Nat) (v : kd.Val) (hx : a.eval x = .slice (some ⟨g, 0, none⟩) 1 1) (hg : w.heap[g]? = some (valO v)) (hlen : l.length ≤ 1048576) (hbase : B ≤ w.heap.size)
    (hK : ∀ V' w', w'.ownsRow B 44 4 V' (l.length + 1) (argsC l ++ valC v) → w.grownBy w' V.ownBlock → K (a.put o.dst V') w') :
    if Region.wanted o (yielded ops a.tmps) = true then Oper.wp Tryz.prog o a w K Q else E := by
  have hw : Region.wanted o (yielded ops a.tmps) = true := by simp [Region.wanted, hgd]
  rw [if_pos hw]
  obtain ⟨i0, hi, hz0, hz1, hz2⟩ := info_parts infoVal
  obtain ⟨V', w', hrun, r1, r2, _⟩ := run_append_own (P := Tryz.prog) w B 36 o.type 44 i0 _ 4 40 Tryz.underlying36 hi hz0 hz1 hz2 rfl (by omega) V l.length (argsC l) hown
    ⟨g, 0, none⟩ 1 1 (valC v) (by simp [valC]) (fun j u hu => by rw [addr_b0, cell_of_heap hg]; simpa [valC] using hu) (fun u hu => by
      simp [valC] at hu
      rcases hu with rfl | rfl | rfl | rfl <;> rfl) (by unfold maxLen; omega) (by omega) hbase
  have hq := hK V' w' r1 r2
  unfold Oper.wp
  simp [execOp, ho, resolve, invoke, builtin, hs, hx, hrun, Result.andThen]
  exact hq
theorem infoPrp : (Tryz.prog.info? 46).map (fun i => (i.zero, i.size, i.bytes)) = some (some (Value.agg #[.string ByteArray.empty, .int .i64 0, .string ByteArray.empty, .int .i64 0, .bool false]), 5, 56) := by kernel_rfl
/-- a property more, as one step of a region that draws -/
theorem step_append_prp {w : World} {ops : Array Oper} {o : Oper} {a : Act} {K : Act → World → Prop} {Q : Exit → Act → World → Prop} {E : Prop} (hgd : o.guard = none) (s x : Operand)
    (ho : o.op = Op.call { callee := Callee.builtin Builtin.append, args := #[s, x], argTypes := #[37, 37] }) (B : Nat) (V : Value) (l : List kd.Prp) (hs : a.eval s = V) (hown : w.ownsRow B 46 5 V l.length (prpsC l))
    (g : Nat) (v : kd.Prp) (hx : a.eval x = .slice (some ⟨g, 0, none⟩) 1 1) (hg : w.heap[g]? = some (prpO v)) (hlen : l.length ≤ 1048576) (hbase : B ≤ w.heap.size)
    (hK : ∀ V' w', w'.ownsRow B 46 5 V' (l.length + 1) (prpsC l ++ prpC v) → w.grownBy w' V.ownBlock → K (a.put o.dst V') w') :
    if Region.wanted o (yielded ops a.tmps) = true then Oper.wp Tryz.prog o a w K Q else E := by
  have hw : Region.wanted o (yielded ops a.tmps) = true := by simp [Region.wanted, hgd]
  rw [if_pos hw]
  obtain ⟨i0, hi, hz0, hz1, hz2⟩ := info_parts infoPrp
  obtain ⟨V', w', hrun, r1, r2, _⟩ := run_append_own (P := Tryz.prog) w B 37 o.type 46 i0 _ 5 56 Tryz.underlying37 hi hz0 hz1 hz2 rfl (by omega) V l.length (prpsC l) hown
    ⟨g, 0, none⟩ 1 1 (prpC v) (by simp [prpC, valC]) (fun j u hu => by rw [addr_b0, cell_of_heap hg]; simpa [prpC, valC] using hu) (fun u hu => by
      simp [prpC, valC] at hu
      rcases hu with rfl | rfl | rfl | rfl | rfl <;> rfl) (by unfold maxLen; omega) (by omega) hbase
  have hq := hK V' w' r1 r2
  unfold Oper.wp
  simp [execOp, ho, resolve, invoke, builtin, hs, hx, hrun, Result.andThen]
  exact hq
abbrev tokO (t : tk.Tok) : Obj := .cells #[.int .i64 t.kind, str t.text, .int .i64 t.int, .int .i64 t.at_] 82
theorem tokCells {w : World} {g : Nat} {t : tk.Tok} (h : w.heap[g]? = some (tokO t)) : w.cell? ⟨g, 0, none⟩ = some (.int .i64 t.kind) ∧ w.cell? ⟨g, 1, none⟩ = some (str t.text) ∧ w.cell? ⟨g, 2, none⟩ = some (.int .i64 t.int) ∧ w.cell? ⟨g, 3, none⟩ = some (.int .i64 t.at_) :=
  ⟨(cell_of_heap h).trans rfl, (cell_of_heap h).trans rfl, (cell_of_heap h).trans rfl, (cell_of_heap h).trans rfl⟩
/-- a row that a value lies behind now, and its block -/
theorem val_laid {w9 : World} {B : Nat} {V : Value} {l : List kd.Val} (h : w9.ownsRow B 44 4 V l.length (argsC l)) (v : kd.Val) (hB : B ≤ w9.heap.size) : (w9.alloc (valO v)).ownsRow B 44 4 V l.length (argsC l) ∧ (w9.alloc (valO v)).heap[w9.heap.size]? = some (valO v) ∧ B ≤ (w9.alloc (valO v)).heap.size :=
  ⟨h.alloc _, heap_alloc_new _ _, by simp; omega⟩
/-- a row that a property lies behind now, and its block -/
theorem prp_laid {w9 : World} {B : Nat} {V : Value} {l : List kd.Prp} (h : w9.ownsRow B 46 5 V l.length (prpsC l)) (v : kd.Prp) (hB : B ≤ w9.heap.size) : (w9.alloc (prpO v)).ownsRow B 46 5 V l.length (prpsC l) ∧ (w9.alloc (prpO v)).heap[w9.heap.size]? = some (prpO v) ∧ B ≤ (w9.alloc (prpO v)).heap.size :=
  ⟨h.alloc _, heap_alloc_new _ _, by simp; omega⟩
structure PA (w wr : World) (p q e : Nat) (nm : List UInt8) (VK : Value) (s : kd.Ps) (vs : List kd.Val) (ps : List kd.Prp) (seen : List (List UInt8)) (o : Option Addr) (cap : Nat) (VA VP : Value) : Prop where
  pr : PrAt wr p e s o cap
  nd : wr.heap[q]? = some (.cells #[str nm, VA, VP, VK] 39 (0, 0))
  ra : wr.ownsRow w.heap.size 44 4 VA vs.length (argsC vs)
  rp : wr.ownsRow w.heap.size 46 5 VP ps.length (prpsC ps)
  ag : AgAt wr (w.heap.size + 2) (w.heap.size + 1) seen
  fl : wr.heap[w.heap.size]? = some (.cells #[.int .i64 0, .int .i64 0] 30 (0, 0))
  fr : Fr (fun k => k = p ∨ k = q) w wr
section
variable {w wr wr' : World} {p q e : Nat} {nm : List UInt8} {VK : Value} {s s' : kd.Ps} {vs : List kd.Val} {ps : List kd.Prp} {seen seen' : List (List UInt8)} {o o' : Option Addr} {cap cap' : Nat} {VA VP : Value}
theorem heap_lt {w : World} {k : Nat} {o : Obj} (h : w.heap[k]? = some o) : k < w.heap.size := (Array.getElem?_eq_some_iff.1 h).1
theorem AgAt.keep {w w' : World} {b m : Nat} {seen : List (List UInt8)} (h : AgAt w b m seen) (hb : w'.heap[b]? = w.heap[b]?) (hm : w'.heap[m]? = w.heap[m]?) : AgAt w' b m seen := by
  refine ⟨hb.trans h.box, ?_⟩
  obtain ⟨D, hown, hD⟩ := h.map
  obtain ⟨es, ck, hmm, rest⟩ := hown
  exact ⟨D, ⟨es, ck, hm.trans hmm, rest⟩, hD⟩
theorem AgAt.ltm {w : World} {b m : Nat} {seen : List (List UInt8)} (h : AgAt w b m seen) : m < w.heap.size := by
  obtain ⟨D, hown, hD⟩ := h.map
  exact hown.lt
theorem AgAt.mapObj {w : World} {b m : Nat} {seen : List (List UInt8)} (h : AgAt w b m seen) : ∃ es ck, w.heap[m]? = some (.map es ck) := by
  obtain ⟨D, hown, hD⟩ := h.map
  obtain ⟨es, ck, hmm, rest⟩ := hown
  exact ⟨es, ck, hmm⟩
theorem PA.below (h : PA w wr p q e nm VK s vs ps seen o cap VA VP) (hb : Below wr.heap.size wr wr') : PA w wr' p q e nm VK s vs ps seen o cap VA VP :=
  ⟨h.pr.below hb, (hb.block _ (heap_lt h.nd)).trans h.nd, row_below h.ra hb, row_below h.rp hb, h.ag.keep (hb.block _ (heap_lt h.ag.box)) (hb.block _ h.ag.ltm), (hb.block _ (heap_lt h.fl)).trans h.fl, h.fr.below hb⟩
theorem PA.drewN_below {k : Nat} (h : PA w wr p q e nm VK s vs ps seen o cap VA VP) (hb : Below (wr.drewN k).heap.size (wr.drewN k) wr') : PA w wr' p q e nm VK s vs ps seen o cap VA VP := h.below ⟨hb.os, hb.tape, hb.output, hb.size, hb.block⟩
/-- behind take -/
theorem PA.taken (h : PA w wr p q e nm VK s vs ps seen o cap VA VP) (hpq : p < q) (hq : q < w.heap.size) (hp : PrAt wr' p e s' o' cap') (hf : Fr (· = p) wr wr') : PA w wr' p q e nm VK s' vs ps seen o' cap' VA VP :=
  ⟨hp, (hf.block _ (heap_lt h.nd) (show ¬ q = p by omega)).trans h.nd, own_keep h.ra (fun g _ hB hg _ _ => hf.block g hg (show ¬ g = p by omega)), own_keep h.rp (fun g _ hB hg _ _ => hf.block g hg (show ¬ g = p by omega)),
    h.ag.keep (hf.block _ (heap_lt h.ag.box) (show ¬ _ = p by omega)) (hf.block _ h.ag.ltm (show ¬ _ = p by omega)), (hf.block _ (heap_lt h.fl) (show ¬ _ = p by omega)).trans h.fl, h.fr.trans hf fun k _ e => .inl e⟩
/-- behind again -/
theorem PA.told (h : PA w wr p q e nm VK s vs ps seen o cap VA VP) (hpq : p < q) (hq : q < w.heap.size) (ha : AgAt wr' (w.heap.size + 2) (w.heap.size + 1) seen') (hf : Fr (· = w.heap.size + 1) wr wr') : PA w wr' p q e nm VK s vs ps seen' o cap VA VP := by
  obtain ⟨es, ck, hm⟩ := h.ag.mapObj
  refine ⟨h.pr.keep (fun k hk => hf.block k (Nat.lt_of_le_of_lt hk h.pr.lt) (show ¬ k = _ by omega)) hf.size, (hf.block _ (heap_lt h.nd) (show ¬ q = _ by omega)).trans h.nd, own_keep h.ra (fun g cur hB hg _ hc => hf.block g hg ?_), own_keep h.rp (fun g cur hB hg _ hc => hf.block g hg ?_), ha, (hf.block _ (heap_lt h.fl) (show ¬ _ = _ by omega)).trans h.fl, h.fr.trans hf fun k hk e => absurd e (by omega)⟩
  · rintro rfl
    rw [hm] at hc; cases hc
  · rintro rfl
    rw [hm] at hc; cases hc
theorem ownBlock_ge {w : World} {B : Nat} {e : TypeId} {size : Nat} {v : Value} {n : Nat} {xs : List Value} (h : w.ownsRow B e size v n xs) {g : Nat} (hg : v.ownBlock = some g) : B ≤ g ∧ g < w.heap.size := h.lt g hg
theorem PA.node_arg (h : PA w wr p q e nm VK s vs ps seen o cap VA VP) (hq : q < w.heap.size) (hf : wr.grownBy wr' VA.ownBlock) : wr'.heap[q]? = some (.cells #[str nm, VA, VP, VK] 39 (0, 0)) :=
  (hf.block q (heap_lt h.nd) (fun e => by have := (ownBlock_ge h.ra e.symm).1; omega)).trans h.nd
theorem PA.node_prop (h : PA w wr p q e nm VK s vs ps seen o cap VA VP) (hq : q < w.heap.size) (hf : wr.grownBy wr' VP.ownBlock) : wr'.heap[q]? = some (.cells #[str nm, VA, VP, VK] 39 (0, 0)) :=
  (hf.block q (heap_lt h.nd) (fun e => by have := (ownBlock_ge h.rp e.symm).1; omega)).trans h.nd
/-- behind an append to the row of values, and the store of where it lies now -/
theorem PA.arg (h : PA w wr p q e nm VK s vs ps seen o cap VA VP) (hpq : p < q) (hq : q < w.heap.size) (v : kd.Val) {VA' : Value} (hr : wr'.ownsRow w.heap.size 44 4 VA' (vs.length + 1) (argsC vs ++ valC v)) (hf : Fr (fun k => VA.ownBlock = some k) wr wr') :
    PA w (wr'.setCell ⟨q, 1, none⟩ VA') p q e nm VK s (vs ++ [v]) ps seen o cap VA' VP := by
  have hlow : ∀ k, k < w.heap.size → k < wr.heap.size → wr'.heap[k]? = wr.heap[k]? := fun k hk hk2 => hf.block k hk2 (fun e => by have := (ownBlock_ge h.ra e).1; omega)
  have hty : ∀ k o, wr.heap[k]? = some o → (∀ cur, o ≠ Obj.cells cur 44 (0, 0)) → wr'.heap[k]? = some o := fun k o hk ho => (hf.block k (heap_lt hk) (fun e => by
    obtain ⟨cur, hc⟩ := own_type h.ra e
    rw [hk] at hc
    exact ho cur (Option.some.inj hc))).trans hk
  obtain ⟨es, ck, hm⟩ := h.ag.mapObj
  have hset : ∀ k, k ≠ q → (wr'.setCell ⟨q, 1, none⟩ VA').heap[k]? = wr'.heap[k]? := fun k hk => Below.heap_setCell wr' ⟨q, 1, none⟩ VA' k hk
  have hnd : wr'.heap[q]? = _ := hty q _ h.nd (fun cur e => by injection e with _ e2; exact absurd e2 (by decide))
  refine ⟨(h.pr.keep (w' := wr') (fun k hk => hlow k (by omega) (Nat.lt_of_le_of_lt hk h.pr.lt)) hf.size).set _ _ hpq, heap_setCell_same wr' q 1 _ _ VA' hnd, ?_, ?_, ?_, ?_, (h.fr.trans hf fun k hk e => by have := (ownBlock_ge h.ra e).1; omega).setCell _ _ (.inr (.inr rfl))⟩
  · rw [argsC_snoc, List.length_append, List.length_singleton]
    exact own_keep hr (fun g _ hB _ _ _ => hset g (by omega))
  · refine own_keep h.rp (fun g cur hB hg _ hc => (hset g (by omega)).trans ((hty g _ hc (fun cur e => by injection e with _ e2; exact absurd e2 (by decide))).trans hc.symm))
  · refine h.ag.keep ((hset _ (by omega)).trans ((hty _ _ h.ag.box (fun cur e => by injection e with _ e2; exact absurd e2 (by decide))).trans h.ag.box.symm)) ((hset _ (by omega)).trans ((hty _ _ hm (fun cur e => by cases e)).trans hm.symm))
  · exact (hset _ (by omega)).trans (hty _ _ h.fl (fun cur e => by injection e with _ e2; exact absurd e2 (by decide)))
/-- the same for the row of properties -/
theorem PA.prop (h : PA w wr p q e nm VK s vs ps seen o cap VA VP) (hpq : p < q) (hq : q < w.heap.size) (x : kd.Prp) {VP' : Value} (hr : wr'.ownsRow w.heap.size 46 5 VP' (ps.length + 1) (prpsC ps ++ prpC x)) (hf : Fr (fun k => VP.ownBlock = some k) wr wr') :
    PA w (wr'.setCell ⟨q, 2, none⟩ VP') p q e nm VK s vs (ps ++ [x]) seen o cap VA VP' := by
  have hlow : ∀ k, k < w.heap.size → k < wr.heap.size → wr'.heap[k]? = wr.heap[k]? := fun k hk hk2 => hf.block k hk2 (fun e => by have := (ownBlock_ge h.rp e).1; omega)
  have hty : ∀ k o, wr.heap[k]? = some o → (∀ cur, o ≠ Obj.cells cur 46 (0, 0)) → wr'.heap[k]? = some o := fun k o hk ho => (hf.block k (heap_lt hk) (fun e => by
    obtain ⟨cur, hc⟩ := own_type h.rp e
    rw [hk] at hc
    exact ho cur (Option.some.inj hc))).trans hk
  obtain ⟨es, ck, hm⟩ := h.ag.mapObj
  have hset : ∀ k, k ≠ q → (wr'.setCell ⟨q, 2, none⟩ VP').heap[k]? = wr'.heap[k]? := fun k hk => Below.heap_setCell wr' ⟨q, 2, none⟩ VP' k hk
  have hnd : wr'.heap[q]? = _ := hty q _ h.nd (fun cur e => by injection e with _ e2; exact absurd e2 (by decide))
  refine ⟨(h.pr.keep (w' := wr') (fun k hk => hlow k (by omega) (Nat.lt_of_le_of_lt hk h.pr.lt)) hf.size).set _ _ hpq, heap_setCell_same wr' q 2 _ _ VP' hnd, ?_, ?_, ?_, ?_, (h.fr.trans hf fun k hk e => by have := (ownBlock_ge h.rp e).1; omega).setCell _ _ (.inr (.inr rfl))⟩
  · refine own_keep h.ra (fun g cur hB hg _ hc => (hset g (by omega)).trans ((hty g _ hc (fun cur e => by injection e with _ e2; exact absurd e2 (by decide))).trans hc.symm))
  · rw [prpsC_snoc, List.length_append, List.length_singleton]
    exact own_keep hr (fun g _ hB _ _ _ => hset g (by omega))
  · refine h.ag.keep ((hset _ (by omega)).trans ((hty _ _ h.ag.box (fun cur e => by injection e with _ e2; exact absurd e2 (by decide))).trans h.ag.box.symm)) ((hset _ (by omega)).trans ((hty _ _ hm (fun cur e => by cases e)).trans hm.symm))
  · exact (hset _ (by omega)).trans (hty _ _ h.fl (fun cur e => by injection e with _ e2; exact absurd e2 (by decide)))
/-- the answer's cells -/
theorem PA.fault (h : PA w wr p q e nm VK s vs ps seen o cap VA VP) (c x : Int) :
    ((wr.setCell ⟨w.heap.size, 0, none⟩ (.int .i64 c)).setCell ⟨w.heap.size, 1, none⟩ (.int .i64 x)).heap[w.heap.size]? = some (.cells #[.int .i64 c, .int .i64 x] 30 (0, 0)) ∧ Fr (fun k => k = p ∨ k = q) w ((wr.setCell ⟨w.heap.size, 0, none⟩ (.int .i64 c)).setCell ⟨w.heap.size, 1, none⟩ (.int .i64 x)) :=
  ⟨heap_setCell_same _ _ 1 _ _ (.int .i64 x) (heap_setCell_same wr _ 0 _ _ (.int .i64 c) h.fl), (h.fr.setCell _ _ (.inl (Nat.le_refl _))).setCell _ _ (.inl (Nat.le_refl _))⟩
theorem PA.done (h : PA w wr p q e nm VK s vs ps seen o cap VA VP) (hpq : p < q) (hq : q < w.heap.size) (c x : Int) :
    PrAt ((wr.setCell ⟨w.heap.size, 0, none⟩ (.int .i64 c)).setCell ⟨w.heap.size, 1, none⟩ (.int .i64 x)) p e s o cap ∧ ((wr.setCell ⟨w.heap.size, 0, none⟩ (.int .i64 c)).setCell ⟨w.heap.size, 1, none⟩ (.int .i64 x)).heap[q]? = some (.cells #[str nm, VA, VP, VK] 39 (0, 0)) ∧
      ((wr.setCell ⟨w.heap.size, 0, none⟩ (.int .i64 c)).setCell ⟨w.heap.size, 1, none⟩ (.int .i64 x)).ownsRow w.heap.size 44 4 VA vs.length (argsC vs) ∧ ((wr.setCell ⟨w.heap.size, 0, none⟩ (.int .i64 c)).setCell ⟨w.heap.size, 1, none⟩ (.int .i64 x)).ownsRow w.heap.size 46 5 VP ps.length (prpsC ps) := by
  have hs : ∀ k, k ≠ w.heap.size → ((wr.setCell ⟨w.heap.size, 0, none⟩ (.int .i64 c)).setCell ⟨w.heap.size, 1, none⟩ (.int .i64 x)).heap[k]? = wr.heap[k]? := fun k hk => (Below.heap_setCell _ ⟨w.heap.size, 1, none⟩ _ k hk).trans (Below.heap_setCell wr ⟨w.heap.size, 0, none⟩ _ k hk)
  refine ⟨(h.pr.set _ _ (show p < w.heap.size by omega)).set _ _ (show p < w.heap.size by omega), (hs q (by omega)).trans h.nd, own_keep h.ra fun g cur hB hg _ hc => hs g ?_, own_keep h.rp fun g cur hB hg _ hc => hs g ?_⟩
  · rintro rfl
    rw [h.fl] at hc
    exact absurd (Option.some.inj hc) (by intro e; injection e with _ e2; exact absurd e2 (by decide))
  · rintro rfl
    rw [h.fl] at hc
    exact absurd (Option.some.inj hc) (by intro e; injection e with _ e2; exact absurd e2 (by decide))
end
end Go.Proofs.YthmiaamjbokljaaGreatDoor
