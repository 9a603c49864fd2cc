/- The document's put: a list with a number at a place. -/
import Derived.Test.YtoknolljfeaapaaDoorCkRefE
import Derived.Test.YtoknolljfeaapaaDoorCkPlaysM
namespace Go.Proofs.YtoknolljfeaapaaDoor
open Go.RowKit
theorem inC_snoc (l : List Int) (i : Int) : inC (l ++ [i]) = inC l ++ [.int .i64 i] := by simp [inC]
/-- a number more behind a row of one's own; the world ahead of the literal is w0 -/
theorem wpList_num (w0 : World) (i : Int) {ops : Array Oper} {rest : List Oper} {op : Oper} {a : Act} {Q : Exit → Act → World → Prop} (hgd : op.guard = none) (s x : Operand)
    (ho : op.op = Op.call { callee := Callee.builtin Builtin.append, args := #[s, x], argTypes := #[34, 34] }) (B : Nat) (V : Value) (l l' : List Int) (hl' : l ++ [i] = l') (hs : a.eval s = V) (hown : w0.ownsRow B 3 1 V l.length (inC l))
    (g : Nat) (hg0 : g = w0.heap.size) (hx : a.eval x = .slice (some ⟨g, 0, none⟩) 1 1) (hlen : l.length ≤ 1000) (hB : B ≤ w0.heap.size)
    (h : ∀ V' w', w'.ownsRow B 3 1 V' l'.length (inC l') → w0.grownBy w' V.ownBlock → wpList Tryd.prog ops Q rest (a.put op.dst V') w') : wpList Tryd.prog ops Q (op :: rest) a (w0.alloc (.cells #[.int .i64 i] 3)) := by
  subst hg0
  subst hl'
  refine wpList_plain hgd fun K hK => ?_
  obtain ⟨i0, hi, hz0, hz1, hz2⟩ := info_parts infoInt
  have hb0 := below_one w0 (.cells #[.int .i64 i] 3)
  have hn := heap_alloc_new w0 (.cells #[.int .i64 i] 3)
  obtain ⟨V', w', hrun, r1, r2, _⟩ := run_append_own (P := Tryd.prog) _ B 34 op.type 3 i0 _ 1 8 Tryd.underlying34 hi hz0 hz1 hz2 rfl (by decide) V l.length (inC l) (row_below hown hb0)
    ⟨w0.heap.size, 0, none⟩ 1 1 [.int .i64 i] rfl (fun j u hu => by rw [addr_b0, cell_of_heap hn]; simpa using hu) (fun u hu => by simp at hu; subst hu; rfl) (by unfold maxLen; omega) (by omega) (by simp; omega)
  unfold Oper.wp execOp
  simp only [ho, resolve, invoke, builtin, Sem.run_bind, Sem.run_pure, Result.andThen_ok, List.map_toArray, List.map_cons, List.map_nil, hs, hx, hrun]
  refine hK _ _ (h V' w' ?_ ⟨r2.os, r2.tape, r2.output, Nat.le_trans hb0.size r2.size, fun k hk hne => (r2.block k (Nat.lt_of_lt_of_le hk hb0.size) hne).trans (hb0.block k hk)⟩)
  rw [List.length_append, List.length_singleton, inC_snoc]
  exact r1
/-- a row of numbers that is one's own, from B on; all ahead of B stays -/
structure NR (B : Nat) (W0 W : World) (V : Value) (l : List Int) : Prop where
  own : W.ownsRow B 3 1 V l.length (inC l)
  bel : Below B W0 W
theorem NR.push {B : Nat} {W0 W W' : World} {V V' : Value} {l l' : List Int} (h : NR B W0 W V l) (hB : B ≤ W.heap.size) (hr : W'.ownsRow B 3 1 V' l'.length (inC l')) (hg : W.grownBy W' V.ownBlock) : NR B W0 W' V' l' :=
  ⟨hr, h.bel.trans ((Below.refl B W).grown hg hB (fun k hk => (h.own.lt k hk).1))⟩
set_option maxRecDepth 100000 in
set_option maxHeartbeats 3200000 in
theorem put_any (D : Nat → Prop) (V : Value) (hs : List Int) (at_ : Nat) (v : Int) (w : World) (h : NsIn w D V hs) (hn : hs.length ≤ 400) :
    Calls Tryd.prog 37 #[V, .int .i64 at_, .int .i64 v] w fun e w' => IntsAns w w' e (hs.set at_ v) := by
  obtain ⟨oh, ch, rfl⟩ : ∃ o c, V = .slice o hs.length c := by
    obtain ⟨o, c, e, -⟩ := id h
    exact ⟨o, c, e⟩
  have hch := (RowIn.lens h).2
  have HH := Lib.hid (fun (W : World) (hb : Below w.heap.size w W) => RowIn.below h hb)
  have H0 : Hid (NR w.heap.size w (w.alloc (.cells #[] 3)) (.slice (some ⟨w.heap.size, 0, none⟩) 0 0) ((hs.set at_ v).take 0)) := Lib.hid ⟨by
    rw [List.take_zero]
    exact World.ownsRow_lit w #[] 0 (Nat.le_refl _) (by unfold maxLen; omega) rfl, below_one w _⟩
  have HL : Hid ((hs.set at_ v).length = hs.length) := Lib.hid (List.length_set)
  have HA : Hid (∀ k (hk : k < hs.length), (hs.set at_ v).take (k + 1) = (hs.set at_ v).take k ++ [if k = at_ then v else hs[k]]) := Lib.hid (fun k hk => by
    rw [List.take_add_one, List.getElem?_eq_getElem (by simpa using hk), Option.toList_some, List.getElem_set]
    congr 2
    by_cases e : at_ = k
    · rw [if_pos e, if_pos e.symm]
    · rw [if_neg e, if_neg (fun x => e x.symm)])
  clear h
  go_enter Tryd.func37, Tryd.ntmps37
  go_upto_region 3 with fail
  go_loopg [7, 8] hs.length (fun gg s7 s8 wr => ∃ (k : Nat) (ao : Option Addr) (ac : Nat), s8 = .int .i64 k ∧ s7 = .slice ao k ac ∧ k ≤ hs.length ∧ hs.length - k ≤ gg ∧ Hid (NR w.heap.size w wr (.slice ao k ac) ((hs.set at_ v).take k)))
  case atStart => exact ⟨0, _, _, rfl, rfl, Nat.zero_le _, by omega, H0⟩
  case round =>
    clear H0
    obtain ⟨k, ao, ac, rfl, rfl, hk, hgk, HR⟩ := hrel
    by_cases hkt : k < hs.length
    case neg =>
      obtain rfl : k = hs.length := by omega
      have hki : ¬ (hs.length : Int) < (hs.length : Int) := by omega
      have HF : Hid (NR w.heap.size w wr (.slice ao hs.length ac) (hs.set at_ v)) := Lib.hid (by
        have := HR.out
        rw [List.take_of_length_le (by rw [HL.out]; exact Nat.le_refl _)] at this
        exact this)
      go_wp2_with fail
      go_ret
      exact ⟨_, rfl, HF.out.own, HF.out.bel⟩
    case pos =>
      have hki : (k : Int) < (hs.length : Int) := by omega
      have hta := HA.out k hkt
      obtain ⟨b, off, rfl, hlb, c0⟩ := NsIn.cell (HH.out wr HR.out.bel) k hkt
      have HLT : Hid (((hs.set at_ v).take k).length = k) := Lib.hid (by rw [List.length_take, HL.out]; omega)
      have HTA := Lib.hid hta
      clear hta
      generalize (hs.set at_ v).take k = L at *
      generalize hs[k] = x at *
      by_cases e : k = at_
      · have e1 : ((k : Int) == (at_ : Int)) = true := by simp [e]
        obtain ⟨LL, hLL⟩ : ∃ LL : List Int, L ++ [v] = LL := ⟨_, rfl⟩
        have HLL := Lib.hid hLL
        have HTB := Lib.hid (HTA.out.trans (by rw [if_pos e]))
        clear hLL HTA e
        go_wp2_with (at_builtin; go_loud (refine wpList_num wr v rfl _ _ rfl w.heap.size (.slice ao k ac) L LL HLL.out rfl HR.out.own wr.heap.size rfl rfl (by rw [HLT.out]; omega) HR.out.bel.size ?_))
        intro V' w5 r1 r2
        have H5 : Hid (NR w.heap.size w w5 V' ((hs.set at_ v).take (k + 1))) := Lib.hid (by
          rw [HTB.out, HLL.out]
          exact HR.out.push HR.out.bel.size r1 r2)
        obtain ⟨ao', ac', rfl⟩ : ∃ ao ac, V' = .slice ao (k + 1) ac := by
          obtain ⟨ao, ac, e⟩ := own_slice r1
          refine ⟨ao, ac, e.trans ?_⟩
          rw [← HLL.out, List.length_append, HLT.out, List.length_singleton]
        clear r1 r2
        go_wp2_with fail
        go_roundg (hs.length - (k + 1))
        case measure => omega
        case rel => exact ⟨k + 1, ao', ac', by go_num, rfl, by omega, Nat.le_refl _, H5⟩
      · have e1 : ((k : Int) == (at_ : Int)) = false := by simp; omega
        obtain ⟨LL, hLL⟩ : ∃ LL : List Int, L ++ [x] = LL := ⟨_, rfl⟩
        have HLL := Lib.hid hLL
        have HTB := Lib.hid (HTA.out.trans (by rw [if_neg e]))
        clear hLL HTA e
        go_wp2_with (at_builtin; go_loud (refine wpList_num wr x rfl _ _ rfl w.heap.size (.slice ao k ac) L LL HLL.out rfl HR.out.own wr.heap.size rfl rfl (by rw [HLT.out]; omega) HR.out.bel.size ?_))
        intro V' w5 r1 r2
        have H5 : Hid (NR w.heap.size w w5 V' ((hs.set at_ v).take (k + 1))) := Lib.hid (by
          rw [HTB.out, HLL.out]
          exact HR.out.push HR.out.bel.size r1 r2)
        obtain ⟨ao', ac', rfl⟩ : ∃ ao ac, V' = .slice ao (k + 1) ac := by
          obtain ⟨ao, ac, e⟩ := own_slice r1
          refine ⟨ao, ac, e.trans ?_⟩
          rw [← HLL.out, List.length_append, HLT.out, List.length_singleton]
        clear r1 r2
        go_wp2_with fail
        go_roundg (hs.length - (k + 1))
        case measure => omega
        case rel => exact ⟨k + 1, ao', ac', by go_num, rfl, by omega, Nat.le_refl _, H5⟩
end Go.Proofs.YtoknolljfeaapaaDoor
