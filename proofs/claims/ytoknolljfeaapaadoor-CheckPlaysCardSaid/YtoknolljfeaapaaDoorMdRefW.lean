/- The document's two, join, Number. -/
import Derived.Test.YtoknolljfeaapaaDoorMdEmpty
namespace Go.Proofs.YtoknolljfeaapaaDoor
open Go.RowKit
theorem lit_row (w : World) (ks : List UInt8) (cs : Array Value) (hcs : cs = (byC ks).toArray) (n : Nat) (hn : n = ks.length) (hl : ks.length ≤ 1099511627776) : BRow (w.alloc (.cells cs 5)) w.heap.size (.slice (some ⟨w.heap.size, 0, none⟩) n n) ks := by
  subst hcs hn
  refine ⟨by rw [byC_len, Nat.mul_one], .inr ⟨w.heap.size, ks.length, (byC ks).toArray, rfl, Nat.le_refl _, heap_alloc_new w _, Nat.le_refl _, by unfold maxLen; omega, by simp [byC_len], ?_⟩⟩
  rw [Nat.mul_one]
  exact List.take_of_length_le (by simp [byC_len])
theorem BRow.toNew {w : World} {B : Nat} {v : Value} {l : List UInt8} (h : BRow w B v l) : BsIn w (fun k => B ≤ k) v l := RowIn.of_own h (by rw [byC_len, Nat.mul_one]) _ (fun g hg => (h.lt g hg).1)
set_option maxRecDepth 100000 in
theorem rtwo_any (n : Nat) (w : World) (hn : n < 65536) :
    Calls Tryd.prog 70 #[.int .i64 n] w fun e w' => ∃ v', e = .returned v' ∧ BRow w' w.heap.size v' (md.twoB n) ∧ Below w.heap.size w w' := by
  have hc : #[Value.int .u8 ((n : Int) % 256), Value.int .u8 ((n : Int) / 256)] = (byC (md.twoB n)).toArray := by
    have e1 := md.u8_toNat (show n % 256 < 256 by omega)
    have e2 := md.u8_toNat (show n / 256 < 256 by omega)
    unfold md.twoB byC
    simp only [List.map_cons, List.map_nil, e1, e2]
    congr 3
  have HR := Lib.hid (And.intro (lit_row w (md.twoB n) _ hc 2 rfl (by show 2 ≤ _; decide)) (below_one w (.cells #[Value.int .u8 ((n : Int) % 256), Value.int .u8 ((n : Int) / 256)] 5)))
  clear hc
  go_enter Tryd.func70, Tryd.ntmps70
  go_wp2_with fail
  go_ret
  exact ⟨_, rfl, HR.out⟩
theorem own_len (o : Option Addr) (n m c : Nat) : (Value.slice o n c).ownBlock = (Value.slice o m c).ownBlock := by cases o <;> rfl
set_option maxRecDepth 100000 in
/-- one byte behind a row of bytes: where the row lies then -/
theorem wpList_one (w0 : World) (cs : Array Value) {ops : Array Oper} {rest : List Oper} {op : Oper} {a : Act} {Q : Exit → Act → World → Prop} (hgd : op.guard = none) (s x : Operand)
    (ho : op.op = .call { callee := .builtin .append, args := #[s, x], argTypes := #[22, 22] }) (B : Nat) (v : Value) (l : List UInt8) (hs : a.eval s = v) (hown : BRow w0 B v l)
    (g : Nat) (hgs : g = w0.heap.size) (n : Nat) (ks : List UInt8) (hx : a.eval x = .slice (some ⟨g, 0, none⟩) n n) (hcs : cs = (byC ks).toArray) (hn : n = ks.length)
    (hlen : l.length + ks.length ≤ 1099511627776) (hB : B ≤ w0.heap.size)
    (h : ∀ v' w', BRow w' B v' (l ++ ks) → Tb B w0 w' → (∀ k, k < w0.heap.size → v.ownBlock ≠ some k → w'.heap[k]? = w0.heap[k]?) → (v'.ownBlock = v.ownBlock ∨ ∃ k, v'.ownBlock = some k ∧ w0.heap.size ≤ k) → wpList Tryd.prog ops Q rest (a.put op.dst v') w') : wpList Tryd.prog ops Q (op :: rest) a (w0.alloc (.cells cs 5)) := by
  subst hgs
  have hb0 := below_one w0 (.cells cs 5)
  have hk := BsIn.new w0 ks cs hcs n hn (by omega)
  have hown1 := row_below hown hb0
  refine wpList_plain hgd fun K hK => ?_
  obtain ⟨i0, hi, hz0, hz1, hz2⟩ := info_parts infoByte
  obtain ⟨o', cap', e, h1, h2, h3, h4⟩ := hk
  obtain ⟨rfl, rfl, rfl⟩ := Value.slice.inj e
  have hnews : ∀ j u, (byC ks)[j]? = some u → (w0.alloc (.cells cs 5)).cell? ((⟨w0.heap.size, 0, none⟩ : Addr).add j) = some u := fun j u hu => by
    rcases h4 with h4 | ⟨b, off, e1, hD, hlt, hc⟩
    · obtain rfl : ks = [] := List.length_eq_zero_iff.1 h4
      simp [byC] at hu
    · injection e1 with e1
      rw [e1, addr_plain]
      exact hc j u hu
  obtain ⟨V', w', hrun, r1, r2, r3, r4⟩ := run_append_own_at (P := Tryd.prog) (w0.alloc (.cells cs 5)) B 22 op.type 5 i0 _ 1 1 Tryd.underlying22 hi hz0 hz1 hz2 rfl (by omega) v l.length (byC l) hown1 ⟨w0.heap.size, 0, none⟩ ks.length ks.length (byC ks) (by rw [byC_len, Nat.mul_one]) hnews (fun u hu => by
    unfold byC at hu
    obtain ⟨c, -, rfl⟩ := List.mem_map.1 hu
    rfl) (by unfold maxLen; omega) (by omega) (by simp; omega)
  unfold Oper.wp execOp
  simp only [ho, resolve, invoke, builtin, Sem.run_bind, Sem.run_pure, Result.andThen_ok, List.map_toArray, List.map_cons, List.map_nil, hs, hx, hrun]
  refine hK _ _ (h V' w' ?_ ?_ ?_ ?_)
  · unfold BRow
    rw [byC_app, List.length_append]
    exact r1
  · exact ((Tb.refl B w0).then hb0 hB).grown hown1 r2 (by simp; omega)
  · intro k hk hne
    exact (r2.block k (by simp; omega) (fun e => hne e.symm)).trans (hb0.block k hk)
  · rcases r4 with r4 | r4
    · exact .inl r4
    · exact .inr ⟨_, r4, by simp⟩
set_option maxRecDepth 100000 in
set_option maxHeartbeats 1600000 in
theorem rjoin_any (D : Nat → Prop) (B : Nat) (v : Value) (l : List UInt8) (o : Option Addr) (cap : Nat) (ks : List UInt8) (w : World) (h : BRow w B v l) (hB : B ≤ w.heap.size) (hk : BsIn w D (.slice o ks.length cap) ks)
    (hD : ∀ k, D k → k < w.heap.size ∧ v.ownBlock ≠ some k) (hl : l.length + ks.length ≤ 1073741824) :
    Calls Tryd.prog 69 #[v, .slice o ks.length cap] w fun e w' => ∃ v', e = .returned v' ∧ BRow w' B v' (l ++ ks) ∧ Tb B w w' := by
  obtain ⟨n, hn⟩ : ∃ n, ks.length = n := ⟨_, rfl⟩
  have HN := Lib.hid hn
  have HA0 := Lib.hid (And.intro h (And.intro (Tb.refl B w) (And.intro hk (fun k hd => (hD k hd).2))))
  have HD := Lib.hid (fun k hd => (hD k hd).1)
  have hcap := (RowIn.lens hk).2
  rw [hn] at hl hcap
  rw [hn]
  clear h hk hD hn
  go_enter Tryd.func69, Tryd.ntmps69
  go_wp2_with fail
  go_loopg [0, 5] n (fun gg s0 s5 wr => ∃ (k : Nat) (v' : Value) (acc : List UInt8), v' = s0 ∧ s5 = .int .i64 k ∧ k ≤ n ∧ n - k ≤ gg ∧ acc.length = l.length + k ∧ Hid (BRow wr B v' acc ∧ Tb B w wr ∧ BsIn wr D (.slice o ks.length cap) ks ∧ (∀ k, D k → v'.ownBlock ≠ some k) ∧ acc = l ++ ks.take k))
  case atStart => exact ⟨0, v, l, rfl, rfl, Nat.zero_le _, by omega, rfl, Lib.hid ⟨HA0.out.1, HA0.out.2.1, HA0.out.2.2.1, HA0.out.2.2.2, by simp⟩⟩
  case round =>
    clear HA0
    obtain ⟨k, v', acc, rfl, rfl, hk, hgg, hal, HA⟩ := hrel
    have hB2 : B ≤ wr.heap.size := Nat.le_trans hB HA.out.2.1.size
    obtain ⟨ao, ac, rfl⟩ := own_slice HA.out.1
    by_cases hlt : k < n
    case neg =>
      obtain rfl : k = n := by omega
      have HF : Hid (acc = l ++ ks) := Lib.hid (by rw [HA.out.2.2.2.2, List.take_of_length_le (by rw [HN.out]; exact Nat.le_refl _)])
      have HZ := Lib.hid (And.intro HA.out.1 HA.out.2.1)
      clear HA
      go_wp2_with fail
      go_ret
      refine ⟨_, rfl, ?_, HZ.out.2⟩
      rw [← HF.out]
      exact HZ.out.1
    case pos =>
      have hki : (k : Int) < (n : Int) := by omega
      have hkl : k < ks.length := by rw [HN.out]; exact hlt
      obtain ⟨b, off, rfl, hb, k0⟩ := BsIn.cell HA.out.2.2.1 k hkl
      have hsn : ks.take (k + 1) = ks.take k ++ [ks[k]] := by rw [List.take_add_one, List.getElem?_eq_getElem hkl, Option.toList_some]
      generalize ks[k] = c at *
      have HS := Lib.hid hsn
      have HC : Hid (#[Value.int .u8 (c.toNat : Int)] = (byC [c]).toArray) := Lib.hid rfl
      clear hsn
      go_wp2_with (at_builtin; go_loud (refine wpList_one wr _ rfl _ _ rfl B (.slice ao acc.length ac) acc rfl HA.out.1 wr.heap.size rfl 1 [c] rfl HC.out rfl (show acc.length + 1 ≤ _ by omega) hB2 ?_))
      intro v2 w1 r1 r2 r3 r4
      have HX := Lib.hid (And.intro r1 (And.intro (HA.out.2.1.trans r2) (And.intro (RowIn.keep (D' := D) HA.out.2.2.1 (fun k hd hk => r3 k hk (fun e => HA.out.2.2.2.1 k hd ((own_len ao _ _ ac).trans e))) r2.size (fun _ h _ => h)) (And.intro (fun (k : Nat) (hd : D k) => (by
        rcases r4 with r4 | ⟨k2, r4, r5⟩
        · rw [r4]; exact fun e => HA.out.2.2.2.1 k hd ((own_len ao _ _ ac).trans e)
        · rw [r4]
          intro e
          have e1 := Option.some.inj e
          have := HD.out k hd
          have := HA.out.2.1.size
          omega : v2.ownBlock ≠ some k)) (show acc ++ [c] = l ++ ks.take (k + 1) by rw [HS.out, HA.out.2.2.2.2, List.append_assoc])))))
      have HL : Hid ((acc ++ [c]).length = acc.length + 1) := Lib.hid (by simp)
      clear r1 r2 r3 r4 HA k0 hb HS HC
      generalize acc ++ [c] = acc2 at *
      go_wp2_with fail
      go_roundg (n - (k + 1))
      case measure => omega
      case rel => exact ⟨k + 1, v2, acc2, rfl, by go_num, by omega, Nat.le_refl _, by have := HL.out; omega, HX⟩
set_option maxRecDepth 100000 in
set_option maxHeartbeats 1600000 in
theorem rnumber_any (n : Int) (w : World) (hn : md.i64 n) :
    Calls Tryd.prog 71 #[.int .i64 n] w fun e w' => ∃ v', e = .returned v' ∧ BRow w' w.heap.size v' (md.numB n) ∧ Below w.heap.size w w' := by
  have hu := md.fold_lt hn.1 hn.2
  have HN : Hid ([] ++ md.grp 9 (md.fold n) = md.numB n) := Lib.hid rfl
  obtain ⟨h0, h1⟩ := hn
  have hA : (0 ≤ n ∧ 2 * n = (md.fold n : Nat)) ∨ (n < 0 ∧ -2 * n - 1 = (md.fold n : Nat)) := by
    unfold md.fold
    by_cases h : n < 0
    · refine .inr ⟨h, ?_⟩
      rw [if_pos h]
      omega
    · refine .inl ⟨by omega, ?_⟩
      rw [if_neg h]
      omega
  have HW := Lib.hid (And.intro (empty_row w w.heap.size (Nat.le_refl _)) (below_one w (.cells #[] 5)))
  have HL : Hid (Value.slice (some ⟨w.heap.size, 0, none⟩) 0 0 = Value.slice (some ⟨w.heap.size, 0, none⟩) ([] : List UInt8).length 0) := Lib.hid rfl
  generalize md.fold n = u0 at *
  generalize md.numB n = NB at *
  go_enter Tryd.func71, Tryd.ntmps71
  rcases hA with ⟨hA, hE⟩ | ⟨hA, hE⟩
  all_goals
    go_upto_region 5 with fail
    generalize w.alloc (.cells #[] 5) = w1 at *
    go_loopg [3, 4] 9 (fun gg s3 s4 wr => ∃ (v' : Value) (u f : Nat) (acc : List UInt8), v' = s4 ∧ s3 = u64V u ∧ f ≤ gg ∧ u < 18446744073709551616 ∧ u < 2 * 128 ^ f ∧ acc.length + f = 9 ∧ Hid (BRow wr w.heap.size v' acc ∧ Below w.heap.size w wr ∧ acc ++ md.grp f u = NB))
    case atStart => exact ⟨_, u0, 9, [], rfl, congrArg (Value.int .u64) (by (try simp only [IntKind.wrap_u64]); omega), Nat.le_refl _, by omega, by omega, rfl, Lib.hid ⟨HW.out.1, HW.out.2, HN.out⟩⟩
    case round =>
      clear HW HN HL hu hE hA
      obtain ⟨v', u, f, acc, rfl, rfl, hgg, hu64, hu, hf, HA⟩ := hrel
      obtain ⟨ao, ac, rfl⟩ := own_slice HA.out.1
      by_cases hge : 128 ≤ u
      · have hgi : (127 : Int) < (u : Int) := by omega
        obtain ⟨g, rfl⟩ : ∃ g, f = g + 1 := ⟨f - 1, by cases f with | zero => simp at hu; omega | succ f => rfl⟩
        have hc : #[Value.int .u8 ((u : Int) % 128 + 128)] = (byC [UInt8.ofNat (128 + u % 128)]).toArray := by
          unfold byC
          simp only [List.map_cons, List.map_nil, md.u8_toNat (show 128 + u % 128 < 256 by omega)]
          congr 3
          omega
        have HNX : Hid (acc ++ [UInt8.ofNat (128 + u % 128)] ++ md.grp g (u / 128) = NB ∧ u / 128 < 2 * 128 ^ g) := Lib.hid ⟨by
          rw [← HA.out.2.2, md.grp, if_neg (by omega)]
          simp, by rw [Nat.pow_succ] at hu; omega⟩
        have HC := Lib.hid hc
        have HU := Lib.hid hu
        clear hc hge hu
        generalize UInt8.ofNat (128 + u % 128) = q at *
        go_wp2_with (at_builtin; go_loud (refine wpList_lit wr _ rfl _ _ rfl w.heap.size (.slice ao acc.length ac) acc rfl HA.out.1 wr.heap.size rfl 1 [q] rfl HC.out rfl (show acc.length + 1 ≤ _ by omega) HA.out.2.1.size ?_))
        intro v' w2 r1 r2
        have HX := Lib.hid (And.intro r1 (HA.out.2.1.trans r2.bel))
        clear r1 r2
        go_wp2_with fail
        go_roundg g
        case measure => omega
        case rel =>
          exact ⟨v', u / 128, g, acc ++ [q], rfl, congrArg (Value.int .u64) (by omega), Nat.le_refl _, by omega, HNX.out.2, by rw [List.length_append, List.length_singleton]; omega, Lib.hid ⟨HX.out.1, HX.out.2, HNX.out.1⟩⟩
      · have hgi : ¬ (127 : Int) < (u : Int) := by omega
        have hc : #[Value.int .u8 (u : Int)] = (byC [UInt8.ofNat u]).toArray := by
          unfold byC
          simp only [List.map_cons, List.map_nil, md.u8_toNat (show u < 256 by omega)]
        have HNX : Hid (acc ++ [UInt8.ofNat u] = NB) := Lib.hid (by
          rw [← HA.out.2.2]
          cases f with
          | zero => rfl
          | succ f => rw [md.grp, if_pos (by omega)])
        have HC := Lib.hid hc
        have hu2 : (u : Int) < 128 := by omega
        clear hc hge hu
        go_wp2_with (at_builtin; go_loud (refine wpList_lit wr _ rfl _ _ rfl w.heap.size (.slice ao acc.length ac) acc rfl HA.out.1 wr.heap.size rfl 1 [UInt8.ofNat u] rfl HC.out rfl (show acc.length + 1 ≤ _ by omega) HA.out.2.1.size ?_))
        intro v' w2 r1 r2
        have HX := Lib.hid (And.intro r1 (HA.out.2.1.trans r2.bel))
        clear r1 r2
        go_wp2_with fail
        go_ret
        refine ⟨v', rfl, ?_, HX.out.2⟩
        rw [← HNX.out]
        exact HX.out.1
end Go.Proofs.YtoknolljfeaapaaDoor
