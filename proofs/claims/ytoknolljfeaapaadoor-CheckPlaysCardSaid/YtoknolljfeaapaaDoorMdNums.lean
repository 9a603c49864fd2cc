/- Numbers: Has, within, folded; bytes behind a row of bytes; appendTwo, appendNumber, appendIns. -/
import Derived.Test.YtoknolljfeaapaaDoorMdMem
import Derived.Laws.BitsAllLaws
namespace Go.Proofs.YtoknolljfeaapaaDoor
open Go.RowKit
theorem has_any (op : Int) (w : World) : Calls Tryd.prog 85 #[.int .i64 op] w fun e w' => e = .returned (.bool (md.has op)) ∧ w' = w := by
  have HD : Hid (md.has op = decide (op = 1 ∨ op = 5 ∨ op = 6 ∨ op = 24 ∨ op = 25 ∨ op = 26 ∨ op = 28)) := Lib.hid rfl
  generalize md.has op = R at *
  have h8 : op = 1 ∨ op = 5 ∨ op = 6 ∨ op = 24 ∨ op = 25 ∨ op = 26 ∨ op = 28 ∨ (op ≠ 1 ∧ op ≠ 5 ∧ op ≠ 6 ∧ op ≠ 24 ∧ op ≠ 25 ∧ op ≠ 26 ∧ op ≠ 28) := by omega
  rcases h8 with rfl | rfl | rfl | rfl | rfl | rfl | rfl | ⟨g0, g1, g2, g3, g4, g5, g6⟩
  case inr.inr.inr.inr.inr.inr.inr =>
    have e0 : (op == 1) = false := by simpa using g0
    have e1 : (op == 5) = false := by simpa using g1
    have e2 : (op == 6) = false := by simpa using g2
    have e3 : (op == 24) = false := by simpa using g3
    have e4 : (op == 25) = false := by simpa using g4
    have e5 : (op == 26) = false := by simpa using g5
    have e6 : (op == 28) = false := by simpa using g6
    go_enter Tryd.func85, Tryd.ntmps85
    go_wp2
    go_ret
    exact ⟨ret_bool (by rw [HD.out]; simp [g0, g1, g2, g3, g4, g5, g6]), rfl⟩
  all_goals
    go_enter Tryd.func85, Tryd.ntmps85
    go_wp2
    go_ret
    exact ⟨ret_bool (by rw [HD.out]; rfl), rfl⟩
theorem within_any (n a b : Int) (w : World) : Calls Tryd.prog 64 #[.int .i64 n, .int .i64 a, .int .i64 b] w fun e w' => e = .returned (.bool (decide (a ≤ n ∧ n ≤ b))) ∧ w' = w := by
  by_cases h1 : a ≤ n
  · by_cases h2 : n ≤ b
    · go_enter Tryd.func64, Tryd.ntmps64
      go_wp2
      go_ret
      exact ⟨ret_bool (decide_eq_true ⟨h1, h2⟩).symm, rfl⟩
    · go_enter Tryd.func64, Tryd.ntmps64
      go_wp2
      go_ret
      exact ⟨ret_bool (by simp; omega), rfl⟩
  · go_enter Tryd.func64, Tryd.ntmps64
    go_wp2
    go_ret
    exact ⟨ret_bool (by simp; omega), rfl⟩
/-- a number without a sign -/
abbrev u64V (u : Nat) : Value := .int .u64 (u : Int)
theorem u64_not (a : Nat) (ha : a < 18446744073709551616) : bits .xor .u64 IntKind.u64.max (a : Int) = ((18446744073709551615 - a : Nat) : Int) := by
  show IntKind.u64.wrap ((BitVec.ofInt 64 IntKind.u64.max ^^^ BitVec.ofInt 64 (a : Int)).toNat : Int) = _
  have h1 : BitVec.ofInt 64 IntKind.u64.max = BitVec.allOnes 64 := by decide
  rw [h1, BitVec.allOnes_xor, BitVec.toNat_not, ofInt_u64 a (by omega), IntKind.wrap_u64]
  omega
theorem folded_any (n : Int) (w : World) (h0 : -9223372036854775808 ≤ n) (h1 : n ≤ 9223372036854775807) : Calls Tryd.prog 92 #[.int .i64 n] w fun e w' => e = .returned (u64V (md.fold n)) ∧ w' = w := by
  by_cases h : n < 0
  · have e2 : bits .xor .u64 IntKind.u64.max (IntKind.u64.wrap (IntKind.u64.wrap n * 2)) = (md.fold n : Nat) := by
      have hf : md.fold n = 2 * (-n - 1).toNat + 1 := by unfold md.fold; rw [if_pos h]
      have e1 : IntKind.u64.wrap (IntKind.u64.wrap n * 2) = ((2 * n + 18446744073709551616).toNat : Nat) := by
        rw [IntKind.wrap_u64, IntKind.wrap_u64]; omega
      rw [e1, u64_not _ (by omega), hf]
      omega
    go_enter Tryd.func92, Tryd.ntmps92
    go_wp2
    go_ret
    exact ⟨rfl, rfl⟩
  · have e2 : n * 2 = (md.fold n : Nat) := by
      have hf : md.fold n = 2 * n.toNat := by unfold md.fold; rw [if_neg h]
      rw [hf]; omega
    have E2 := Lib.hid e2
    clear e2
    go_enter Tryd.func92, Tryd.ntmps92
    go_wp2
    go_ret
    exact ⟨congrArg (fun x => Ending.returned (.int .u64 x)) E2.out, rfl⟩
/-- a row of bytes, from B on -/
abbrev BRow (w : World) (B : Nat) (v : Value) (l : List UInt8) : Prop := w.ownsRow B 5 1 v l.length (byC l)
theorem infoByte : (Tryd.prog.info? 5).map (fun i => (i.zero, i.size, i.bytes)) = some (some (Value.int .u8 0), 1, 1) := by kernel_rfl
/-- bytes that are written out, behind a row of bytes -/
theorem wpList_bytes {w : World} {ops : Array Oper} {rest : List Oper} {op : Oper} {a : Act} {Q : Exit → Act → World → Prop} (hgd : op.guard = none) (s x : Operand)
    (ho : op.op = .call { callee := .builtin .append, args := #[s, x], argTypes := #[22, 22] }) (B : Nat) (v : Value) (l : List UInt8) (hs : a.eval s = v) (hown : w.ownsRow B 5 1 v l.length (byC l))
    (o : Option Addr) (m cap : Nat) (D : Nat → Prop) (ks : List UInt8) (hx : a.eval x = .slice o m cap) (hk : BsIn w D (.slice o m cap) ks)
    (hlen : l.length + ks.length ≤ 1099511627776) (hbase : B ≤ w.heap.size)
    (h : ∀ v' w', BRow w' B v' (l ++ ks) → w.grownBy w' v.ownBlock → wpList Tryd.prog ops Q rest (a.put op.dst v') w') : wpList Tryd.prog ops Q (op :: rest) a w := by
  refine wpList_plain hgd fun K hK => ?_
  obtain ⟨i0, hi, hz0, hz1, hz2⟩ := info_parts infoByte
  suffices hq : ∃ V' w', (Builtin.append_ #[22, 22] op.type #[v, .slice o m cap]).run Tryd.prog w = .ok V' w' ∧ w'.ownsRow B 5 1 V' (l.length + m) (byC l ++ byC ks) ∧ w.grownBy w' v.ownBlock by
    obtain ⟨V', w', hr, h2, h3⟩ := hq
    unfold Oper.wp execOp
    simp only [ho, resolve, invoke, builtin, Sem.run_bind, Sem.run_pure, Result.andThen_ok, List.map_toArray, List.map_cons, List.map_nil, hs, hx, hr]
    refine hK _ _ (h V' w' ?_ h3)
    unfold BRow
    rw [byC_app, List.length_append, ← (RowIn.lens hk).1]
    exact h2
  obtain ⟨o', cap', e, h1, h2, h3, h4⟩ := hk
  obtain ⟨rfl, rfl, rfl⟩ := Value.slice.inj e
  cases o with
  | none =>
    have h0 : ks.length = 0 := by
      rcases h4 with h4 | ⟨b, off, e1, -⟩
      · exact h4
      · cases e1
    obtain rfl : ks = [] := List.length_eq_zero_iff.1 h0
    refine ⟨v, w, ?_, by simpa [byC] using hown, World.grownBy.refl w _⟩
    rcases hown.2 with ⟨rfl, h5⟩ | ⟨g, cap, cur, rfl, _, _, hnc, _⟩
    · simp [Builtin.append_, run_underlying Tryd.underlying22, sizeOf, typeInfo, hi, Builtin.lenOf, Builtin.firstCells]
    · simp [Builtin.append_, run_underlying Tryd.underlying22, sizeOf, typeInfo, hi, Builtin.lenOf, Builtin.firstCells, hnc, storeCells]
  | some ad =>
    have hnews : ∀ j u, (byC ks)[j]? = some u → w.cell? (ad.add j) = some u := fun j u hu => by
      rcases h4 with h4 | ⟨b, off, e1, hD, hlt, hc⟩
      · obtain rfl : ks = [] := List.length_eq_zero_iff.1 h4
        simp [byC] at hu
      · obtain rfl := Option.some.inj e1
        rw [addr_plain]
        exact hc j u hu
    obtain ⟨V', w', hrun, r1, r2, r3, r4⟩ := run_append_own_at (P := Tryd.prog) w B 22 op.type 5 i0 _ 1 1 Tryd.underlying22 hi hz0 hz1 hz2 rfl (by omega) v l.length (byC l) hown ad ks.length cap (byC ks) (by rw [byC_len, Nat.mul_one]) hnews (fun u hu => by
      unfold byC at hu
      obtain ⟨c, -, rfl⟩ := List.mem_map.1 hu
      rfl) (by unfold maxLen; omega) (by omega) hbase
    exact ⟨V', w', hrun, r1, r2⟩
/-- what appending bytes turns: rows of bytes from B on, new blocks -/
structure Tb (B : Nat) (w w' : World) : Prop where
  bel : Below B w w'
  size : w.heap.size ≤ w'.heap.size
  keep : ∀ (k : Nat) (o : Obj), w.heap[k]? = some o → (∀ cur, o ≠ Obj.cells cur 5 (0, 0)) → w'.heap[k]? = some o
theorem Tb.refl (B : Nat) (w : World) : Tb B w w := ⟨Below.refl B w, Nat.le_refl _, fun _ _ h _ => h⟩
theorem Tb.trans {B : Nat} {a b c : World} (h : Tb B a b) (g : Tb B b c) : Tb B a c := ⟨h.bel.trans g.bel, Nat.le_trans h.size g.size, fun k o hk ho => g.keep k o (h.keep k o hk ho) ho⟩
theorem Tb.of_below {B : Nat} {w w' : World} (h : Below w.heap.size w w') (hB : B ≤ w.heap.size) : Tb B w w' := ⟨h.mono hB, h.size, fun k _ hk _ => (h.block k (heap_lt hk)).trans hk⟩
theorem Tb.then {B : Nat} {a b c : World} (h : Tb B a b) (g : Below b.heap.size b c) (hB : B ≤ b.heap.size) : Tb B a c := h.trans (Tb.of_below g hB)
theorem Tb.alloc {B : Nat} {a b : World} (h : Tb B a b) (o : Obj) (hB : B ≤ b.heap.size) : Tb B a (b.alloc o) := h.then (below_one b o) hB
theorem Tb.drew {B : Nat} {a b : World} (h : Tb B a b) : Tb B a b.drew := ⟨⟨h.bel.os, h.bel.tape, h.bel.output, h.bel.size, h.bel.block⟩, h.size, h.keep⟩
theorem Tb.grown {B : Nat} {a b c : World} (h : Tb B a b) {v : Value} {n : Nat} {xs : List Value} (hown : b.ownsRow B 5 1 v n xs) (hg : b.grownBy c v.ownBlock) (hB : B ≤ b.heap.size) : Tb B a c :=
  h.trans ⟨(Below.refl B b).grown hg hB (fun k hk => (hown.lt k hk).1), hg.size, fun k o hk ho => (hg.block k (heap_lt hk) (fun e => by
    obtain ⟨cur, hc⟩ := own_type hown e.symm
    rw [hk] at hc
    exact ho cur (Option.some.inj hc))).trans hk⟩
theorem BsIn.new (w : World) (ks : List UInt8) (cs : Array Value) (hcs : cs = (byC ks).toArray) (n : Nat) (hn : n = ks.length) (hl : ks.length ≤ 9223372036854775807) : BsIn (w.alloc (.cells cs 5)) (fun _ => True) (.slice (some ⟨w.heap.size, 0, none⟩) n n) ks := by
  subst hcs hn
  refine ⟨_, _, rfl, Nat.le_refl _, hl, by rw [byC_len, Nat.mul_one], .inr ⟨w.heap.size, 0, rfl, trivial, by simp, fun k v hv => ?_⟩⟩
  rw [Nat.zero_add, cell_of_heap (heap_alloc_new w _)]
  simpa using hv
/-- bytes that are written out, behind a row of bytes -/
theorem wpList_lit (w0 : World) (cs : Array Value) {ops : Array Oper} {rest : List Oper} {op : Oper} {a : Act} {Q : Exit → Act → World → Prop} (hgd : op.guard = none) (s x : Operand)
    (ho : op.op = .call { callee := .builtin .append, args := #[s, x], argTypes := #[22, 22] }) (B : Nat) (v : Value) (l : List UInt8) (hs : a.eval s = v) (hown : BRow w0 B v l)
    (g : Nat) (hgs : g = w0.heap.size) (n : Nat) (ks : List UInt8) (hx : a.eval x = .slice (some ⟨g, 0, none⟩) n n) (hcs : cs = (byC ks).toArray) (hn : n = ks.length)
    (hlen : l.length + ks.length ≤ 1099511627776) (hB : B ≤ w0.heap.size)
    (h : ∀ v' w', BRow w' B v' (l ++ ks) → Tb B w0 w' → wpList Tryd.prog ops Q rest (a.put op.dst v') w') : wpList Tryd.prog ops Q (op :: rest) a (w0.alloc (.cells cs 5)) := by
  subst hgs
  have hb0 := below_one w0 (.cells cs 5)
  refine wpList_bytes hgd s x ho B v l hs (row_below hown hb0) _ n n (fun _ => True) ks hx (BsIn.new w0 ks cs hcs n hn (by omega)) hlen (by simp; omega) fun v' w' r1 r2 => h v' w' r1 ?_
  exact ((Tb.refl B w0).then hb0 hB).grown (row_below hown hb0) r2 (by simp; omega)
set_option maxRecDepth 100000 in
theorem appendTwo_any (B : Nat) (v : Value) (l : List UInt8) (n : Nat) (w : World) (h : BRow w B v l) (hB : B ≤ w.heap.size) (hl : l.length ≤ 1073741824) (hn : n < 65536) :
    Calls Tryd.prog 66 #[v, .int .i64 n] w fun e w' => ∃ v', e = .returned v' ∧ BRow w' B v' (l ++ md.twoB n) ∧ Tb B w w' := by
  obtain ⟨ao, ac, rfl⟩ := own_slice h
  have hc : #[Value.int .u8 ((n : Int) % 256), Value.int .u8 ((n : Int) / 256)] = (byC (md.twoB n)).toArray := by
    have e1 := md.u8_toNat (show n % 256 < 256 by omega)
    have e2 := md.u8_toNat (show n / 256 < 256 by omega)
    unfold md.twoB byC
    simp only [List.map_cons, List.map_nil, e1, e2]
    congr 3
  have HR := Lib.hid h
  have HC := Lib.hid hc
  clear h hc
  go_enter Tryd.func66, Tryd.ntmps66
  go_wp2_with (at_builtin; go_loud (refine wpList_lit w _ rfl _ _ rfl B (.slice ao l.length ac) l rfl HR.out w.heap.size rfl 2 (md.twoB n) rfl HC.out rfl (show l.length + 2 ≤ _ by omega) hB ?_))
  intro v' w1 r1 r2
  have HX := Lib.hid (And.intro r1 r2)
  clear r1 r2
  go_wp2_with fail
  go_ret
  exact ⟨v', rfl, HX.out⟩
set_option maxRecDepth 100000 in
set_option maxHeartbeats 800000 in
theorem appendNumber_any (B : Nat) (v : Value) (l : List UInt8) (n : Int) (w : World) (h : BRow w B v l) (hB : B ≤ w.heap.size) (hl : l.length ≤ 1073741824) (hn : md.i64 n) :
    Calls Tryd.prog 86 #[v, .int .i64 n] w fun e w' => ∃ v', e = .returned v' ∧ BRow w' B v' (l ++ md.numB n) ∧ Tb B w w' := by
  have HF := Lib.hid (folded_any n w hn.1 hn.2)
  have hu := md.fold_lt hn.1 hn.2
  have HN : Hid ([] ++ md.grp 9 (md.fold n) = md.numB n) := Lib.hid rfl
  have HR := Lib.hid (And.intro h (Tb.refl B w))
  generalize md.fold n = u0 at *
  generalize md.numB n = NB at *
  clear h hn
  go_enter Tryd.func86, Tryd.ntmps86
  go_wp2_with fail
  refine HF.out.mono ?_
  rintro e w' ⟨rfl, hw⟩
  replace hw := hw.symm
  subst hw
  go_wp2_with fail
  go_loopg [0, 5] 9 (fun gg s0 s5 wr => ∃ (v' : Value) (u f : Nat) (acc : List UInt8), v' = s0 ∧ s5 = u64V u ∧ f ≤ gg ∧ u < 2 * 128 ^ f ∧ acc.length + f = l.length + 9 ∧ Hid (BRow wr B v' acc ∧ Tb B w wr ∧ acc ++ md.grp f u = l ++ NB))
  case atStart => exact ⟨v, u0, 9, l, rfl, rfl, Nat.le_refl _, by omega, rfl, Lib.hid ⟨HR.out.1, HR.out.2, by rw [← HN.out]; rfl⟩⟩
  case round =>
    clear HR HN HF hu
    obtain ⟨v', u, f, acc, rfl, rfl, hgg, hu, hf, HA⟩ := hrel
    have hB2 : B ≤ wr.heap.size := Nat.le_trans hB HA.out.2.1.size
    obtain ⟨ao, ac, rfl⟩ := own_slice HA.out.1
    by_cases hge : 128 ≤ u
    · have hgi : (128 : Int) ≤ (u : Int) := by omega
      obtain ⟨g, rfl⟩ : ∃ g, f = g + 1 := ⟨f - 1, by cases f with | zero => simp at hu; omega | succ f => rfl⟩
      have hor : bits .or .u8 128 ((u : Int) % 128) = ((128 + u % 128 : Nat) : Int) := by
        have := u8_or_nat 128 (u % 128) (by decide) (by omega)
        rw [nat_join 7 128 (u % 128) (by decide) (by omega)] at this
        exact this
      have hc : #[Value.int .u8 ((128 + u % 128 : Nat) : Int)] = (byC [UInt8.ofNat (128 + u % 128)]).toArray := by
        unfold byC
        simp only [List.map_cons, List.map_nil, md.u8_toNat (show 128 + u % 128 < 256 by omega)]
      have HNX : Hid (acc ++ [UInt8.ofNat (128 + u % 128)] ++ md.grp g (u / 128) = l ++ NB ∧ u / 128 < 2 * 128 ^ g) := Lib.hid ⟨by
        rw [← HA.out.2.2, md.grp, if_neg (by omega)]
        simp, by rw [Nat.pow_succ] at hu; omega⟩
      have HC := Lib.hid hc
      have HU := Lib.hid hu
      clear hc hge hu
      generalize 128 + u % 128 = q at *
      go_wp2_with (at_builtin; go_loud (refine wpList_lit wr _ rfl _ _ rfl B (.slice ao acc.length ac) acc rfl HA.out.1 wr.heap.size rfl 1 [UInt8.ofNat q] rfl HC.out rfl (show acc.length + 1 ≤ _ by omega) hB2 ?_))
      intro v' w1 r1 r2
      have HX := Lib.hid (And.intro r1 r2)
      clear r1 r2
      go_wp2_with fail
      go_roundg g
      case measure => omega
      case rel =>
        exact ⟨v', u / 128, g, acc ++ [UInt8.ofNat q], rfl, congrArg (Value.int .u64) (by omega), Nat.le_refl _, HNX.out.2, by rw [List.length_append, List.length_singleton]; omega, Lib.hid ⟨HX.out.1, HA.out.2.1.trans HX.out.2, HNX.out.1⟩⟩
    · have hgi : ¬ (128 : Int) ≤ (u : Int) := by omega
      have hc : #[Value.int .u8 (u : Int)] = (byC [UInt8.ofNat u]).toArray := by
        unfold byC
        simp only [List.map_cons, List.map_nil, md.u8_toNat (show u < 256 by omega)]
      have HNX : Hid (acc ++ [UInt8.ofNat u] = l ++ NB) := Lib.hid (by
        rw [← HA.out.2.2]
        cases f with
        | zero => rfl
        | succ f => rw [md.grp, if_pos (by omega)])
      have HC := Lib.hid hc
      have hu2 : (u : Int) < 128 := by omega
      clear hc hge hu
      go_wp2_with (at_builtin; go_loud (refine wpList_lit wr _ rfl _ _ rfl B (.slice ao acc.length ac) acc rfl HA.out.1 wr.heap.size rfl 1 [UInt8.ofNat u] rfl HC.out rfl (show acc.length + 1 ≤ _ by omega) hB2 ?_))
      intro v' w1 r1 r2
      have HX := Lib.hid (And.intro r1 (HA.out.2.1.trans r2))
      clear r1 r2
      go_wp2_with fail
      go_ret
      refine ⟨v', rfl, ?_, HX.out.2⟩
      rw [← HNX.out]
      exact HX.out.1
abbrev insO (i : md.Ins) : Obj := .cells #[.int .i64 i.op, .int .i64 i.n] 59
theorem md.numB_len (n : Int) : (md.numB n).length ≤ 10 := md.grp_len 9 _
set_option maxRecDepth 100000 in
set_option maxHeartbeats 800000 in
theorem appendIns_any (B : Nat) (v : Value) (l : List UInt8) (k : Nat) (n : Int) (w : World) (h : BRow w B v l) (hB : B ≤ w.heap.size) (hl : l.length ≤ 1000000000) (hk : k ≤ 29) (hn : md.i64 n) :
    Calls Tryd.prog 67 #[v, .agg #[.int .i64 k, .int .i64 n]] w fun e w' => ∃ v', e = .returned v' ∧ BRow w' B v' (l ++ md.insB ⟨k, n⟩) ∧ Tb B w w' := by
  obtain ⟨ao, ac, rfl⟩ := own_slice h
  have hb0 := below_one w (.cells #[.int .i64 k, .int .i64 n] 59)
  have HR := Lib.hid (And.intro (row_below h hb0) (And.intro (Tb.of_below hb0 hB) (heap_alloc_new w (.cells #[.int .i64 k, .int .i64 n] 59))))
  have hB1 : B ≤ (w.alloc (.cells #[.int .i64 k, .int .i64 n] 59)).heap.size := by simp; omega
  have HC : Hid (#[Value.int .u8 (k : Int)] = (byC [UInt8.ofNat k]).toArray) := Lib.hid (by
    unfold byC
    simp only [List.map_cons, List.map_nil, md.u8_toNat (show k < 256 by omega)])
  have HI : Hid (md.insB ⟨k, n⟩ = UInt8.ofNat k :: (if md.has k = true then md.numB n else [])) := Lib.hid rfl
  have HH := Lib.hid (fun W => has_any (k : Int) W)
  have HNUM := Lib.hid (fun W v' l' (h1 : BRow W B v' l') (h2 : B ≤ W.heap.size) (h3 : l'.length ≤ 1073741824) => appendNumber_any B v' l' n W h1 h2 h3 hn)
  generalize md.has k = hs at *
  clear h hb0
  have hk8 : (k : Int) ≤ 255 := by omega
  go_enter Tryd.func67, Tryd.ntmps67
  go_wp2_with (at_builtin; go_loud (refine wpList_lit (w.alloc (.cells #[.int .i64 k, .int .i64 n] 59)) _ rfl _ _ rfl B (.slice ao l.length ac) l rfl HR.out.1 (w.heap.size + 1) (World.size_alloc w _).symm 1 [UInt8.ofNat k] rfl HC.out rfl (show l.length + 1 ≤ _ by omega) hB1 ?_))
  intro v' w1 r1 r2
  have HX := Lib.hid (And.intro r1 (HR.out.2.1.trans r2))
  have hbx := r2.keep _ _ HR.out.2.2 (fun cur e => by injection e with _ e2; exact absurd e2 (by decide))
  have k0 : w1.cell? ⟨w.heap.size, 0, none⟩ = some (.int .i64 k) := (cell_of_heap hbx).trans rfl
  have k1 : w1.cell? ⟨w.heap.size, 1, none⟩ = some (.int .i64 n) := (cell_of_heap hbx).trans rfl
  have hlt := heap_lt hbx
  have hB3 : B ≤ w1.heap.size := by omega
  clear r1 r2 hbx HR
  go_wp2_with fail
  refine (HH.out _).mono ?_
  rintro e w' ⟨rfl, hw⟩
  replace hw := hw.symm
  subst hw
  cases hs with
  | true =>
    go_wp2_with fail
    refine (HNUM.out _ v' _ HX.out.1 hB3 (by simp; omega)).mono ?_
    rintro e w2 ⟨v2, rfl, r1, r2⟩
    have HY := Lib.hid (And.intro r1 (HX.out.2.trans r2))
    clear r1 r2
    go_wp2_with fail
    go_ret
    refine ⟨v2, rfl, ?_, HY.out.2⟩
    rw [HI.out]
    simpa using HY.out.1
  | false =>
    go_wp2_with fail
    go_ret
    refine ⟨v', rfl, ?_, HX.out.2⟩
    rw [HI.out]
    exact HX.out.1
end Go.Proofs.YtoknolljfeaapaaDoor
