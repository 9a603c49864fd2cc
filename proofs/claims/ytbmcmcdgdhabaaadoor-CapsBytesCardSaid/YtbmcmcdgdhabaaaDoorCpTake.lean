/- How many arguments a host call takes; read for any call; bytes that are appended. -/
import Derived.Test.YtbmcmcdgdhabaaaDoorCpReadK
import Derived.Test.YtbmcmcdgdhabaaaDoorCpReadL
import Derived.Test.YtbmcmcdgdhabaaaDoorCpReadM
import Derived.Test.YtbmcmcdgdhabaaaDoorCpReadN
namespace Go.Proofs.YtbmcmcdgdhabaaaDoor
open Go.RowKit
def cp.m0 : md.Mod := ⟨0, [], [⟨0, 0, 0, []⟩]⟩
theorem cp.m0_effect (n : Int) : ck.effect cp.m0 0 ⟨28, n⟩ = ck.hostEff n := rfl
theorem m0_in (w : World) : ModIn (w.alloc (.cells #[.int .i64 0, .int .i64 0, .int .i64 0, .slice none 0 0] 66)) (fun _ => True) (.slice none 0 0) (.slice (some ⟨w.heap.size, 0, none⟩) 1 1) cp.m0 := by
  have hn := heap_alloc_new w (.cells #[.int .i64 0, .int .i64 0, .int .i64 0, .slice none 0 0] 66)
  refine ⟨RowIn.nil _ _ _, [.int .i64 0, .int .i64 0, .int .i64 0, .slice none 0 0], ⟨some ⟨w.heap.size, 0, none⟩, 1, rfl, Nat.le_refl _, by decide, rfl, .inr ⟨w.heap.size, 0, rfl, trivial, heap_lt hn, fun k v hv => ?_⟩⟩, ?_⟩
  · rw [Nat.zero_add, cell_of_heap hn]
    simpa using hv
  · exact ⟨[.int .i64 0, .int .i64 0, .int .i64 0, .slice none 0 0], [], rfl, ⟨.slice none 0 0, rfl, RowIn.nil _ _ _⟩, rfl⟩
theorem infoFnC : (Tryd.prog.info? 66).map (fun i => (i.zero, i.size, i.bytes)) = some (some (Value.agg #[.int .i64 0, .int .i64 0, .int .i64 0, .slice none 0 0]), 4, 48) := by kernel_rfl
theorem run_make_fn (W : World) : (Instr.makeSlice 52 (.int .i64 1) (.int .i64 1)).run Tryd.prog W = .ok (.slice (some ⟨W.heap.size, 0, none⟩) 1 1) (W.alloc (.cells #[.int .i64 0, .int .i64 0, .int .i64 0, .slice none 0 0] 66)) := by
  obtain ⟨i, hi, h1, h2, h3⟩ := info_parts infoFnC
  have := run_make (P := Tryd.prog) W 52 66 i _ Tryd.underlying52 hi h1 .i64 .i64 1 1 (by omega) (by omega) (by rw [h3]; decide) (by decide)
  have e : madeCells (Value.agg #[.int .i64 0, .int .i64 0, .int .i64 0, .slice none 0 0]).cells (Int.toNat 1 * 4) = #[.int .i64 0, .int .i64 0, .int .i64 0, .slice none 0 0] := by kernel_rfl
  rw [this, h2, e]
  rfl
def TakeAns (w w' : World) (e : Ending) (r : Int × Int × Bool) : Prop := e = .returned (.tuple #[.int .i64 r.1, .bool r.2.2]) ∧ Below w.heap.size w w'
set_option maxRecDepth 100000 in
set_option maxHeartbeats 1600000 in
theorem taken_any (n : Int) (w : World) (ht : HT w) : Calls Tryd.prog 15 #[.int .i64 n] w fun e w' => TakeAns w w' e (ck.hostEff n) := by
  have hb1 := below_one w (.cells #[.int .i64 0, .int .i64 0, .int .i64 0, .slice none 0 0] 66)
  have hb2 := below_one (w.alloc (.cells #[.int .i64 0, .int .i64 0, .int .i64 0, .slice none 0 0] 66)) (modB 0 (.slice none 0 0) (.slice (some ⟨w.heap.size, 0, none⟩) 1 1))
  have hb12 := hb1.trans (hb2.mono hb1.size)
  have HX := Lib.hid (heap_alloc_new (w.alloc (.cells #[.int .i64 0, .int .i64 0, .int .i64 0, .slice none 0 0] 66)) (modB 0 (.slice none 0 0) (.slice (some ⟨w.heap.size, 0, none⟩) 1 1)))
  have HEF := Lib.hid (effect_any _ cp.m0 _ _ 0 28 n _ ((m0_in w).below hb2) (ht.below hb12))
  rw [cp.m0_effect] at HEF
  generalize ck.hostEff n = R at *
  have HB := Lib.hid hb12
  clear hb1 hb2 hb12 ht
  have hmk := run_make_fn w
  go_enter Tryd.func15, Tryd.ntmps15
  go_upto_region 2 with fail
  generalize (w.alloc (.cells #[.int .i64 0, .int .i64 0, .int .i64 0, .slice none 0 0] 66)).alloc (modB 0 (.slice none 0 0) (.slice (some ⟨w.heap.size, 0, none⟩) 1 1)) = w2 at *
  rw [World.size_alloc] at HX
  have x0 : w2.cell? ⟨w.heap.size + 1, 0, none⟩ = some (.int .i64 0) := (cell_of_heap HX.out).trans rfl
  have x1 : w2.cell? ⟨w.heap.size + 1, 1, none⟩ = some (.slice none 0 0) := (cell_of_heap HX.out).trans rfl
  have x2 : w2.cell? ⟨w.heap.size + 1, 2, none⟩ = some (.slice (some ⟨w.heap.size, 0, none⟩) 1 1) := (cell_of_heap HX.out).trans rfl
  have hl := heap_lt HX.out
  go_wp2_with fail
  refine HEF.out.mono ?_
  rintro e w3 ⟨rfl, hb3⟩
  have HB3 := Lib.hid (HB.out.trans (hb3.mono HB.out.size))
  clear hb3 HEF HX HB x0 x1 x2 hl
  obtain ⟨T, p, ok⟩ := R
  dsimp only
  go_wp2_with fail
  go_ret2
  exact ⟨rfl, HB3.out⟩
/-- read, for any call with as many arguments as it takes -/
theorem read_any (D : Nat → Prop) (V : Value) (k : Nat) (a : List Int) (w : World) (h : NsIn w D V a) (hk : k < 12) (hl : (a.length : Int) = (ck.hostEff k).1) :
    Calls Tryd.prog 16 #[.int .i64 (k : Int), V] w fun e w' => ReadAns w w' e (cp.read k a) := by
  have hT : (ck.hostEff (k : Int)).1 = ck.hostT.getD k 0 := by
    unfold ck.hostEff
    rw [if_pos (ck.below_iff.2 ⟨by omega, by omega⟩), Int.toNat_natCast]
  rw [hT] at hl
  have l0 : ∀ a : List Int, (a.length : Int) = 0 → a = [] := fun a h => List.length_eq_zero_iff.1 (by omega)
  have l1 : ∀ a : List Int, (a.length : Int) = 1 → ∃ x, a = [x] := fun a h => by
    match a, h with
    | [x], _ => exact ⟨x, rfl⟩
    | [], h => simp at h
    | _ :: _ :: _, h => simp only [List.length_cons] at h; omega
  have l2 : ∀ a : List Int, (a.length : Int) = 2 → ∃ x y, a = [x, y] := fun a h => by
    match a, h with
    | [x, y], _ => exact ⟨x, y, rfl⟩
    | [], h => simp at h
    | [_], h => simp at h
    | _ :: _ :: _ :: _, h => simp only [List.length_cons] at h; omega
  have l3 : ∀ a : List Int, (a.length : Int) = 3 → ∃ x y z, a = [x, y, z] := fun a h => by
    match a, h with
    | [x, y, z], _ => exact ⟨x, y, z, rfl⟩
    | [], h => simp at h
    | [_], h => simp at h
    | [_, _], h => simp at h
    | _ :: _ :: _ :: _ :: _, h => simp only [List.length_cons] at h; omega
  have hs : k = 0 ∨ k = 1 ∨ k = 2 ∨ k = 3 ∨ k = 4 ∨ k = 5 ∨ k = 6 ∨ k = 7 ∨ k = 8 ∨ k = 9 ∨ k = 10 ∨ k = 11 := by omega
  rcases hs with rfl | rfl | rfl | rfl | rfl | rfl | rfl | rfl | rfl | rfl | rfl | rfl
  · obtain ⟨x, y, z, rfl⟩ := l3 a hl; exact read0_any D V x y z w h
  · obtain ⟨x, y, z, rfl⟩ := l3 a hl; exact read1_any D V x y z w h
  · obtain rfl := l0 a hl; exact read2_any V w
  · obtain ⟨x, rfl⟩ := l1 a hl; exact read3_any D V x w h
  · obtain ⟨x, rfl⟩ := l1 a hl; exact read4_any D V x w h
  · obtain ⟨x, y, z, rfl⟩ := l3 a hl; exact read5_any D V x y z w h
  · obtain ⟨x, rfl⟩ := l1 a hl; exact read6_any D V x w h
  · obtain rfl := l0 a hl; exact read7_any V w
  · obtain ⟨x, rfl⟩ := l1 a hl; exact read8_any D V x w h
  · obtain ⟨x, y, z, rfl⟩ := l3 a hl; exact read9_any D V x y z w h
  · obtain rfl := l0 a hl; exact read10_any V w
  · obtain ⟨x, y, rfl⟩ := l2 a hl; exact read11_any D V x y w h
theorem cp.read_short (k : Nat) (a : List Int) (h : (cp.read k a).ok = true) : cp.short (cp.read k a).len = true := by
  unfold cp.read at h ⊢
  split at h <;> first | rfl | (simp only [Bool.and_eq_true] at h ⊢; first | exact h | exact h.2)
abbrev BR (w : World) (B : Nat) (v : Value) (l : List UInt8) : Prop := w.ownsRow B 5 1 v l.length (byC l)
theorem infoByte : (Tryd.prog.info? 5).map (fun i => (i.zero, i.size, i.bytes)) = some (some (Value.int .u8 0), 1, 1) := by kernel_rfl
/-- bytes behind a row of bytes, as one step of a region that draws -/
theorem step_append_bytes {w : World} {ops : Array Oper} {op : Oper} {a : Act} {K : Act → World → Prop} {Q : Exit → Act → World → Prop} {E : Prop} (hgd : op.guard = none) (s x : Operand)
    (ho : op.op = .call { callee := .builtin .append, args := #[s, x], argTypes := #[23, 23] }) (B : Nat) (v : Value) (l : List UInt8) (hs : a.eval s = v) (hown : BR w B v l)
    (o : Option Addr) (m cap : Nat) (D : Nat → Prop) (ks : List UInt8) (hx : a.eval x = .slice o m cap) (hk : BsIn w D (.slice o m cap) ks)
    (hlen : l.length + ks.length ≤ 1099511627776) (hbase : B ≤ w.heap.size)
    (hK : ∀ v' w', BR w' B v' (l ++ ks) → w.grownBy w' v.ownBlock → K (a.put op.dst v') w') :
    if Region.wanted op (yielded ops a.tmps) = true then Oper.wp Tryd.prog op a w K Q else E := by
  have hw : Region.wanted op (yielded ops a.tmps) = true := by simp [Region.wanted, hgd]
  rw [if_pos hw]
  obtain ⟨i0, hi, hz0, hz1, hz2⟩ := info_parts infoByte
  suffices hq : ∃ V' w', (Builtin.append_ #[23, 23] op.type #[v, .slice o m cap]).run Tryd.prog w = .ok V' w' ∧ w'.ownsRow B 5 1 V' (l.length + m) (byC l ++ byC ks) ∧ w.grownBy w' v.ownBlock by
    obtain ⟨V', w', hr, h2, h3⟩ := hq
    unfold Oper.wp
    simp [execOp, ho, resolve, invoke, builtin, hs, hx, hr, Result.andThen]
    refine hK _ _ ?_ h3
    unfold BR
    rw [byC_app, List.length_append, ← (RowIn.lens hk).1]
    exact h2
  obtain ⟨o', cap', e, h1, h2, h3, h4⟩ := hk
  obtain ⟨rfl, rfl, rfl⟩ := Value.slice.inj e
  cases o with
  | none =>
    have h0 : ks.length = 0 := by
      rcases h4 with h4 | ⟨b, off, e1, -⟩
      · exact h4
      · cases e1
    obtain rfl : ks = [] := List.length_eq_zero_iff.1 h0
    refine ⟨v, w, ?_, by simpa [BR, byC] using hown, World.grownBy.refl w _⟩
    rcases hown.2 with ⟨rfl, h5⟩ | ⟨g, cap, cur, rfl, _, _, hnc, _⟩
    · simp [Builtin.append_, run_underlying Tryd.underlying23, sizeOf, typeInfo, hi, Builtin.lenOf, Builtin.firstCells]
    · simp [Builtin.append_, run_underlying Tryd.underlying23, sizeOf, typeInfo, hi, Builtin.lenOf, Builtin.firstCells, hnc, storeCells]
  | some ad =>
    have hnews : ∀ j u, (byC ks)[j]? = some u → w.cell? (ad.add j) = some u := fun j u hu => by
      rcases h4 with h4 | ⟨b, off, e1, hD, hlt, hc⟩
      · obtain rfl : ks = [] := List.length_eq_zero_iff.1 h4
        simp [byC] at hu
      · obtain rfl := Option.some.inj e1
        rw [addr_plain]
        exact hc j u hu
    obtain ⟨V', w', hrun, r1, r2, r3, r4⟩ := run_append_own_at (P := Tryd.prog) w B 23 op.type 5 i0 _ 1 1 Tryd.underlying23 hi hz0 hz1 hz2 rfl (by omega) v l.length (byC l) hown ad ks.length cap (byC ks) (by rw [byC_len, Nat.mul_one]) hnews (fun u hu => by
      unfold byC at hu
      obtain ⟨c, -, rfl⟩ := List.mem_map.1 hu
      rfl) (by unfold maxLen; omega) (by omega) hbase
    exact ⟨V', w', hrun, r1, r2⟩
set_option maxRecDepth 100000 in
theorem run_blh (o : Option Addr) (n cap l h : Nat) (hl : l ≤ h) (hc : h ≤ cap) (wx : World) : (Instr.slice 23 (.slice o n cap) (some (.int .i64 (l : Int))) (some (.int .i64 (h : Int))) none).run Tryd.prog wx = .ok (.slice (slo o cap l) (h - l) (cap - l)) wx := by
  rw [run_slice_lh wx 23 o n cap Tryd.underlying23 .i64 .i64 l h (by omega) (by omega) (by omega)]
  have hz : (sizeOf (Tryd.prog.elem 23)).run Tryd.prog wx = .ok 1 wx := by kernel_rfl
  rw [hz]
  simp [Result.andThen, sliced, slo]
end Go.Proofs.YtbmcmcdgdhabaaaDoor
