/- write, Encode. -/
import Derived.Test.YtoknolljfeaapaaDoorMdRight
namespace Go.Proofs.YtoknolljfeaapaaDoor
open Go.RowKit
/-- bytes that are written out as a text: their row bears the run-time's mark -/
abbrev litB (l : List UInt8) : Obj := .cells (byC l).toArray 5 (l.length, l.length + 1)
theorem conv_lit (W : World) (l : List UInt8) (n m : Nat) (hn : W.heap.size = n) (hm : m = l.length) (cs : Array Value) (hcs : cs = (byC l).toArray) : (convert 22 22 (.slice (some ⟨n, 0, none⟩) m m)).run Tryd.prog (W.alloc (.cells cs 5)) = .ok (.slice (some ⟨n, 0, none⟩) m m) (W.alloc (litB l)) := by
  subst hcs hm
  have h := Go.Joins.run_convert_bytes_const_at (P := Tryd.prog) W 22 5 (byC l).toArray l.length l.length n hn.symm Tryd.underlying22 Tryd.underlying5
  rw [h]
  simp [litB, byC_len]
theorem BsIn.lit (W : World) (l : List UInt8) (n : Nat) (hn : W.heap.size = n) (hl : l.length ≤ 9223372036854775807) : BsIn (W.alloc (litB l)) (fun _ => True) (.slice (some ⟨n, 0, none⟩) l.length l.length) l := by
  subst hn
  refine ⟨_, _, rfl, Nat.le_refl _, hl, by rw [byC_len, Nat.mul_one], .inr ⟨W.heap.size, 0, rfl, trivial, by simp, fun k v hv => ?_⟩⟩
  rw [World.cell?_alloc_mark, Nat.zero_add]
  simpa using hv
set_option maxRecDepth 100000 in
/-- bytes that are written out, behind bytes that came in and have no room -/
theorem wpList_litG (w0 : World) (cs : Array Value) {ops : Array Oper} {rest : List Oper} {op : Oper} {a : Act} {Q : Exit → Act → World → Prop} (hgd : op.guard = none) (s x : Operand)
    (ho : op.op = .call { callee := .builtin .append, args := #[s, x], argTypes := #[22, 22] }) (D : Nat → Prop) (g0 : Nat) (l : List UInt8) (m : Nat) (hm : m = l.length) (hs : a.eval s = .slice (some ⟨g0, 0, none⟩) m m) (hin : BsIn w0 D (.slice (some ⟨g0, 0, none⟩) m m) l) (hl0 : 0 < l.length)
    (g : Nat) (hgs : g = w0.heap.size) (n : Nat) (ks : List UInt8) (hx : a.eval x = .slice (some ⟨g, 0, none⟩) n n) (hcs : cs = (byC ks).toArray) (hn : n = ks.length) (hn0 : 0 < n)
    (hlen : l.length + ks.length ≤ 1099511627776)
    (hh : ∀ v' w', BRow w' w0.heap.size v' (l ++ ks) → Below w0.heap.size w0 w' → wpList Tryd.prog ops Q rest (a.put op.dst v') w') : wpList Tryd.prog ops Q (op :: rest) a (w0.alloc (.cells cs 5)) := by
  subst hgs hm
  have hb0 := below_one w0 (.cells cs 5)
  have hin1 := RowIn.below hin hb0
  have hnew := BsIn.new w0 ks cs hcs n hn (by omega)
  refine wpList_plain hgd fun K hK => ?_
  obtain ⟨i0, hi, hz0, hz1, hz2⟩ := info_parts infoByte
  obtain ⟨b, off, e1, -, -, hc⟩ := RowIn.at_ hin1 0 hl0
  obtain ⟨b2, off2, e2, -, -, hc2⟩ := RowIn.at_ hnew 0 (by omega)
  obtain ⟨V', w', hrun, r1, r2⟩ := run_append_arg_grows (P := Tryd.prog) (w0.alloc (.cells cs 5)) 22 op.type 5 i0 _ 1 1 Tryd.underlying22 hi hz0 hz1 hz2 rfl (by decide) ⟨g0, 0, none⟩ l.length l.length (byC l) (by rw [byC_len, Nat.mul_one])
    (fun j u hu => by rw [addr_b0]; injection e1 with e1; injection e1 with e3 e4; subst e3 e4; have := hc j u hu; rwa [Nat.zero_add] at this) ⟨w0.heap.size, 0, none⟩ n n (byC ks) (by rw [byC_len, Nat.mul_one, hn])
    (fun j u hu => by rw [addr_b0]; injection e2 with e2; injection e2 with e3 e4; subst e3 e4; have := hc2 j u hu; rwa [Nat.zero_add] at this) (by omega) (by unfold maxLen; omega) (by omega)
  unfold Oper.wp execOp
  simp only [ho, resolve, invoke, builtin, Sem.run_bind, Sem.run_pure, Result.andThen_ok, List.map_toArray, List.map_cons, List.map_nil, hs, hx, hrun]
  refine hK _ _ (hh V' w' ?_ ?_)
  · unfold BRow
    rw [byC_app, List.length_append, ← hn]
    exact own_base r1 (by simp)
  · exact hb0.trans (((Below.refl _ _).grown r2 (Nat.le_refl _) (fun k hk => by cases hk)).mono (by simp))
set_option maxRecDepth 100000 in
theorem appendTwo0_any (D : Nat → Prop) (g : Nat) (l : List UInt8) (m : Nat) (hm : m = l.length) (n : Nat) (w : World) (h : BsIn w D (.slice (some ⟨g, 0, none⟩) m m) l) (h0 : 0 < l.length) (hl : l.length ≤ 1073741824) (hn : n < 65536) :
    Calls Tryd.prog 66 #[.slice (some ⟨g, 0, none⟩) m m, .int .i64 n] w fun e w' => ∃ v', e = .returned v' ∧ BRow w' w.heap.size v' (l ++ md.twoB n) ∧ Below w.heap.size w w' := by
  have hc : #[Value.int .u8 ((n : Int) % 256), Value.int .u8 ((n : Int) / 256)] = (byC (md.twoB n)).toArray := by
    have e1 := md.u8_toNat (show n % 256 < 256 by omega)
    have e2 := md.u8_toNat (show n / 256 < 256 by omega)
    unfold md.twoB byC
    simp only [List.map_cons, List.map_nil, e1, e2]
    congr 3
  have HR := Lib.hid h
  have HC := Lib.hid hc
  have hml : m ≤ 1073741824 := by omega
  clear h hc
  go_enter Tryd.func66, Tryd.ntmps66
  go_wp2_with (at_builtin; go_loud (refine wpList_litG w _ rfl _ _ rfl D g l m hm rfl HR.out h0 w.heap.size rfl 2 (md.twoB n) rfl HC.out rfl (by decide) (show l.length + 2 ≤ _ by omega) ?_))
  intro v' w1 r1 r2
  have HX := Lib.hid (And.intro r1 r2)
  clear r1 r2
  go_wp2_with fail
  go_ret
  exact ⟨v', rfl, HX.out⟩
theorem md.insB_len (i : md.Ins) : (md.insB i).length ≤ 11 := by
  unfold md.insB
  have := md.numB_len i.n
  split <;> simp <;> omega
theorem md.codeB_len (l : List md.Ins) : (md.codeB l).length ≤ l.length * 11 := by
  induction l with
  | nil => simp [md.codeB]
  | cons i l ih =>
    have := md.insB_len i
    have e : md.codeB (i :: l) = md.insB i ++ md.codeB l := by simp [md.codeB]
    rw [e, List.length_append, List.length_cons]
    omega
theorem md.codeB_snoc (l : List md.Ins) (k : Nat) (h : k < l.length) : md.codeB (l.take (k + 1)) = md.codeB (l.take k) ++ md.insB l[k] := by
  rw [List.take_add_one, List.getElem?_eq_getElem h, Option.toList_some]
  unfold md.codeB
  rw [List.flatMap_append, List.flatMap_cons, List.flatMap_nil, List.append_nil]
theorem md.fnsB_snoc (l : List md.Fn) (k : Nat) (h : k < l.length) : md.fnsB (l.take (k + 1)) = md.fnsB (l.take k) ++ md.fnB l[k] := by
  rw [List.take_add_one, List.getElem?_eq_getElem h, Option.toList_some]
  unfold md.fnsB
  rw [List.flatMap_append, List.flatMap_cons, List.flatMap_nil, List.append_nil]
theorem tb_mod {w w' : World} {D : Nat → Prop} {VF : Value} {fs : List md.Fn} (h : FnsIn w D VF fs) {B : Nat} (ht : Tb B w w') (hB : B = w.heap.size) : FnsIn w' D VF fs := by
  subst hB
  exact h.keep (fun k _ hk => ht.bel.block k hk) ht.size fun _ h _ => h
set_option maxRecDepth 100000 in
set_option maxHeartbeats 3200000 in
theorem write_any (D : Nat → Prop) (m : md.Mod) (VD VF : Value) (w : World) (hs : ModIn w D VD VF m) (hD : ∀ k, D k → k < w.heap.size) (hr : md.right m = true) (hi : md.fnsI m.funcs) :
    Calls Tryd.prog 51 #[modV m VD VF] w fun e w' => ∃ v', e = .returned v' ∧ BRow w' w.heap.size v' (md.write m) ∧ Below w.heap.size w w' := by
  obtain ⟨od, cd, of, cf, rfl, rfl, hd1, hd2, hf1, hf2⟩ := hs.slices
  obtain ⟨mem, d, fs⟩ := m
  unfold md.right at hr
  simp only [Bool.and_eq_true, decide_eq_true_eq] at hr
  obtain ⟨⟨⟨⟨m0, m1⟩, hd⟩, n0, n1⟩, ha⟩ := hr
  obtain ⟨mem, rfl⟩ := Int.eq_ofNat_of_zero_le m0
  have HW : Hid (md.write ⟨mem, d, fs⟩ = md.head ++ md.twoB mem ++ md.twoB d.length ++ d ++ [UInt8.ofNat fs.length] ++ md.fnsB fs) := Lib.hid (by unfold md.write; simp)
  have HDI := Lib.hid hs
  have HRF := Lib.hid (fun k (h : k < fs.length) => And.intro (List.all_eq_true.1 ha fs[k] (List.getElem_mem h)) (hi fs[k] (List.getElem_mem h)))
  clear hs hi ha m0
  dsimp only at hd1 hf1
  have hb0 := below_one w (modO ⟨mem, d, fs⟩ (.slice od d.length cd) (.slice of fs.length cf))
  have hbx := heap_alloc_new w (modO ⟨mem, d, fs⟩ (.slice od d.length cd) (.slice of fs.length cf))
  have hT1 : Tb w.heap.size w (w.alloc (modO ⟨mem, d, fs⟩ (.slice od d.length cd) (.slice of fs.length cf))) := Tb.of_below hb0 (Nat.le_refl _)
  have HX := Lib.hid (And.intro hbx hT1)
  clear hb0 hbx hT1
  have hkc := fun (W : World) (n : Nat) (hn : W.heap.size = n) => conv_lit W md.head n 4 hn rfl #[.int .u8 67, .int .u8 83, .int .u8 77, .int .u8 1] rfl
  go_enter Tryd.func51, Tryd.ntmps51
  go_upto_region 2 with fail
  have hb2 := below_one (w.alloc (modO ⟨mem, d, fs⟩ (.slice od d.length cd) (.slice of fs.length cf))) (litB md.head)
  have hl2 := BsIn.lit (w.alloc (modO ⟨mem, d, fs⟩ (.slice od d.length cd) (.slice of fs.length cf))) md.head (w.heap.size + 1) (World.size_alloc w _) (by decide)
  have H2 := Lib.hid (And.intro hl2 (And.intro (HX.out.2.then hb2 (by simp)) ((hb2.block _ (heap_lt HX.out.1)).trans HX.out.1)))
  clear hb2 hl2 HX hkc
  generalize (w.alloc (.cells #[.int .i64 mem, .slice od d.length cd, .slice of fs.length cf] 25)).alloc (litB md.head) = w2 at *
  have k0 : w2.cell? ⟨w.heap.size, 0, none⟩ = some (.int .i64 mem) := (cell_of_heap H2.out.2.2).trans rfl
  have hlt2 := heap_lt H2.out.2.2
  go_wp2_with fail
  refine (appendTwo0_any _ (w.heap.size + 1) md.head 4 rfl mem w2 H2.out.1 (by decide) (by decide) (by omega)).mono ?_
  rintro e w3 ⟨v3, rfl, r1, r2⟩
  have H3 := Lib.hid (And.intro (own_base r1 (Nat.le_of_lt hlt2)) (And.intro (H2.out.2.1.then r2 (Nat.le_of_lt hlt2)) ((r2.block _ hlt2).trans H2.out.2.2)))
  clear r1 r2 H2 k0 hlt2
  have HA3 : Hid ((md.head ++ md.twoB mem).length = 6) := Lib.hid rfl
  generalize md.head ++ md.twoB mem = acc3 at *
  have k1 : w3.cell? ⟨w.heap.size, 1, none⟩ = some (.slice od d.length cd) := (cell_of_heap H3.out.2.2).trans rfl
  have hlt3 := heap_lt H3.out.2.2
  go_wp2_with fail
  refine (appendTwo_any w.heap.size v3 acc3 d.length w3 H3.out.1 (Nat.le_of_lt hlt3) (by rw [HA3.out]; decide) (by omega)).mono ?_
  rintro e w4 ⟨v4, rfl, r1, r2⟩
  have H4 := Lib.hid (And.intro r1 (And.intro (H3.out.2.1.trans r2) (r2.keep _ _ H3.out.2.2 (fun cur e => by injection e with _ e2; exact absurd e2 (by decide)))))
  have HA4 : Hid ((acc3 ++ md.twoB d.length).length = 8) := Lib.hid (by rw [List.length_append, HA3.out]; rfl)
  clear r1 r2 H3 k1 hlt3 HA3
  generalize acc3 ++ md.twoB d.length = acc4 at *
  have k1 : w4.cell? ⟨w.heap.size, 1, none⟩ = some (.slice od d.length cd) := (cell_of_heap H4.out.2.2).trans rfl
  have hlt4 := heap_lt H4.out.2.2
  have hd4 : BsIn w4 D (.slice od d.length cd) d := RowIn.keep HDI.out.data (fun k _ hk => H4.out.2.1.bel.block k hk) H4.out.2.1.size (fun _ h _ => h)
  have HD4 := Lib.hid hd4
  have HA4' := HA4.out
  obtain ⟨ao4, ac4, rfl⟩ := own_slice H4.out.1
  clear hd4 HA4'
  go_wp2_with (at_builtin; go_loud (refine wpList_bytes rfl _ _ rfl w.heap.size (.slice ao4 acc4.length ac4) acc4 rfl H4.out.1 od d.length cd D d rfl HD4.out (by rw [HA4.out]; omega) (Nat.le_of_lt hlt4) ?_))
  intro v5 w5 r1 r2
  have ht5 := (Tb.refl w.heap.size w4).grown H4.out.1 r2 (Nat.le_of_lt hlt4)
  have H5 := Lib.hid (And.intro r1 (And.intro (H4.out.2.1.trans ht5) (ht5.keep _ _ H4.out.2.2 (fun cur e => by injection e with _ e2; exact absurd e2 (by decide)))))
  have HA5 : Hid ((acc4 ++ d).length ≤ 1032) := Lib.hid (by rw [List.length_append, HA4.out]; omega)
  clear r1 r2 ht5 H4 k1 hlt4 HA4 HD4
  generalize acc4 ++ d = acc5 at *
  have k2 : w5.cell? ⟨w.heap.size, 2, none⟩ = some (.slice of fs.length cf) := (cell_of_heap H5.out.2.2).trans rfl
  have hlt5 := heap_lt H5.out.2.2
  obtain ⟨ao5, ac5, rfl⟩ := own_slice H5.out.1
  have HC5 : Hid (#[Value.int .u8 (fs.length : Int)] = (byC [UInt8.ofNat fs.length]).toArray) := Lib.hid (by
    unfold byC
    simp only [List.map_cons, List.map_nil, md.u8_toNat (show fs.length < 256 by omega)])
  go_wp2_with (at_builtin; go_loud (refine wpList_lit w5 _ rfl _ _ rfl w.heap.size (.slice ao5 acc5.length ac5) acc5 rfl H5.out.1 w5.heap.size rfl 1 [UInt8.ofNat fs.length] rfl HC5.out rfl (by rw [List.length_singleton]; have := HA5.out; omega) (Nat.le_of_lt hlt5) ?_))
  intro v6 w6 r1 r2
  have H6 := Lib.hid (And.intro r1 (And.intro (H5.out.2.1.trans r2) (r2.keep _ _ H5.out.2.2 (fun cur e => by injection e with _ e2; exact absurd e2 (by decide)))))
  have HA6 : Hid ((acc5 ++ [UInt8.ofNat fs.length]).length ≤ 1033) := Lib.hid (by rw [List.length_append, List.length_singleton]; have := HA5.out; omega)
  clear r1 r2 H5 k2 hlt5 HA5 HC5
  generalize acc5 ++ [UInt8.ofNat fs.length] = acc6 at *
  have k2 : w6.cell? ⟨w.heap.size, 2, none⟩ = some (.slice of fs.length cf) := (cell_of_heap H6.out.2.2).trans rfl
  have hlt6 := heap_lt H6.out.2.2
  have HFS := Lib.hid HDI.out.fns
  obtain ⟨n, hn⟩ : ∃ n, fs.length = n := ⟨_, rfl⟩
  have HN := Lib.hid hn
  rw [hn] at n0 n1 hf1 k2
  rw [hn]
  clear hn
  have HB6 := Lib.hid (Nat.le_of_lt hlt6)
  go_upto_region 7 with fail
  clear k2 hlt6
  go_loopg [3, 33] n (fun gg s3 s33 wr => ∃ (k : Nat) (v' : Value) (acc : List UInt8), v' = s3 ∧ s33 = .int .i64 k ∧ k ≤ n ∧ n - k ≤ gg ∧ acc.length ≤ 1033 + k * 4405 ∧ Hid (BRow wr w.heap.size v' acc ∧ Tb w.heap.size w wr ∧ acc = acc6 ++ md.fnsB (fs.take k)))
  case atStart => exact ⟨0, v6, acc6, rfl, rfl, Nat.zero_le _, by omega, by have := HA6.out; omega, Lib.hid ⟨H6.out.1, H6.out.2.1, by simp [md.fnsB]⟩⟩
  case round =>
    clear H6 HA6 HB6
    obtain ⟨k, v', acc, rfl, rfl, hk, hgg, hal, HA⟩ := hrel
    obtain ⟨ao, ac, rfl⟩ := own_slice HA.out.1
    have hBw : w.heap.size ≤ wr.heap.size := HA.out.2.1.size
    by_cases hlt : k < n
    case neg =>
      obtain rfl : k = n := by omega
      have HF : Hid (acc = md.write ⟨mem, d, fs⟩) := Lib.hid (by rw [HA.out.2.2, HW.out, List.take_of_length_le (by rw [HN.out]; exact Nat.le_refl _)])
      have HZ := Lib.hid (And.intro HA.out.1 HA.out.2.1.bel)
      clear HA
      go_wp2_with fail
      go_ret
      refine ⟨_, rfl, ?_, HZ.out.2⟩
      rw [← HF.out]
      exact HZ.out.1
    case pos =>
      have hki : (k : Int) < (n : Int) := by omega
      have hkl : k < fs.length := by rw [HN.out]; exact hlt
      obtain ⟨b, off, oc, cc, rfl, -, hb, k0, k1, k2, k3, hin⟩ := FnsIn.cell (tb_mod HFS.out HA.out.2.1 rfl) k hkl
      have hsn := md.fnsB_snoc fs k hkl
      obtain ⟨hrf, hci⟩ := HRF.out k hkl
      generalize fs[k] = f at *
      obtain ⟨p, r, l, c⟩ := f
      unfold md.rightFn at hrf
      simp only [Bool.and_eq_true, decide_eq_true_eq] at hrf
      obtain ⟨⟨⟨⟨⟨p0, p1⟩, r0, r1⟩, l0, l1⟩, c0, c1⟩, hall⟩ := hrf
      obtain ⟨p, rfl⟩ := Int.eq_ofNat_of_zero_le p0
      obtain ⟨r, rfl⟩ := Int.eq_ofNat_of_zero_le r0
      obtain ⟨l, rfl⟩ := Int.eq_ofNat_of_zero_le l0
      dsimp only at k0 k1 k2 k3 hin hci
      have HSN := Lib.hid hsn
      have HTW := Lib.hid HA.out.2.1
      have HCI := Lib.hid (fun j (h : j < c.length) => And.intro (List.all_eq_true.1 hall c[j] (List.getElem_mem h)) (hci c[j] (List.getElem_mem h)))
      have HIN := Lib.hid hin
      obtain ⟨hcc1, hcc2⟩ := (RowIn.lens hin).2
      obtain ⟨nc, hnc⟩ : ∃ nc, c.length = nc := ⟨_, rfl⟩
      have HNC := Lib.hid hnc
      rw [hnc] at k3 c0 c1 hcc1
      have hb7 := below_one wr (.cells #[.int .i64 p, .int .i64 r, .int .i64 l, .slice oc nc cc] 72)
      have H7 := Lib.hid (And.intro (row_below HA.out.1 hb7) (And.intro (HA.out.2.1.then hb7 hBw) (heap_alloc_new wr (.cells #[.int .i64 p, .int .i64 r, .int .i64 l, .slice oc nc cc] 72))))
      have HC7 : Hid (#[Value.int .u8 (p : Int), .int .u8 (r : Int), .int .u8 (l : Int)] = (byC [UInt8.ofNat p, UInt8.ofNat r, UInt8.ofNat l]).toArray) := Lib.hid (by
        unfold byC
        simp only [List.map_cons, List.map_nil, md.u8_toNat (show p < 256 by omega), md.u8_toNat (show r < 256 by omega), md.u8_toNat (show l < 256 by omega)])
      have hp8 : (p : Int) ≤ 255 := by omega
      have hr8 : (r : Int) ≤ 255 := by omega
      have hl8 : (l : Int) ≤ 255 := by omega
      clear hsn hall hci hin hnc hb7 p0 p1 r0 r1 l0 l1
      go_wp2_with (at_builtin; go_loud (refine wpList_lit (wr.alloc (.cells #[.int .i64 p, .int .i64 r, .int .i64 l, .slice oc nc cc] 72)) _ rfl _ _ rfl w.heap.size (.slice ao acc.length ac) acc rfl H7.out.1 (wr.heap.size + 1) (World.size_alloc wr _).symm 3 [UInt8.ofNat p, UInt8.ofNat r, UInt8.ofNat l] rfl HC7.out rfl (show acc.length + 3 ≤ _ by omega) (by simp; omega) ?_))
      intro v8 w8 r1 r2
      have H8 := Lib.hid (And.intro r1 (And.intro (H7.out.2.1.trans r2) (r2.keep _ _ H7.out.2.2 (fun cur e => by injection e with _ e2; exact absurd e2 (by decide)))))
      have HA8 : Hid ((acc ++ [UInt8.ofNat p, UInt8.ofNat r, UInt8.ofNat l]).length = acc.length + 3) := Lib.hid (by simp)
      have HE8 : Hid (acc ++ [UInt8.ofNat p, UInt8.ofNat r, UInt8.ofNat l] = acc6 ++ md.fnsB (fs.take k) ++ [UInt8.ofNat p, UInt8.ofNat r, UInt8.ofNat l]) := Lib.hid (by rw [HA.out.2.2])
      clear r1 r2 H7 k0 k1 k2 k3 HC7 HA hb
      generalize acc ++ [UInt8.ofNat p, UInt8.ofNat r, UInt8.ofNat l] = acc8 at *
      have k3 : w8.cell? ⟨wr.heap.size, 3, none⟩ = some (.slice oc nc cc) := (cell_of_heap H8.out.2.2).trans rfl
      have hlt8 := heap_lt H8.out.2.2
      go_wp2_with fail
      refine (appendTwo_any w.heap.size v8 acc8 nc w8 H8.out.1 (by omega) (by rw [HA8.out]; omega) (by omega)).mono ?_
      rintro e w9 ⟨v9, rfl, r1, r2⟩
      have H9 := Lib.hid (And.intro r1 (And.intro (H8.out.2.1.trans r2) (r2.keep _ _ H8.out.2.2 (fun cur e => by injection e with _ e2; exact absurd e2 (by decide)))))
      have HA9 : Hid ((acc8 ++ md.twoB nc).length = acc.length + 5) := Lib.hid (by rw [List.length_append, HA8.out]; rfl)
      have HE9 : Hid (acc8 ++ md.twoB nc = acc6 ++ md.fnsB (fs.take k) ++ [UInt8.ofNat p, UInt8.ofNat r, UInt8.ofNat l] ++ md.twoB nc) := Lib.hid (by rw [HE8.out])
      clear r1 r2 H8 k3 hlt8 HA8 HE8
      generalize acc8 ++ md.twoB nc = acc9 at *
      have k3 : w9.cell? ⟨wr.heap.size, 3, none⟩ = some (.slice oc nc cc) := (cell_of_heap H9.out.2.2).trans rfl
      have hlt9 := heap_lt H9.out.2.2
      go_upto_region 12 with fail
      have HL9 := Lib.hid (Nat.le_of_lt hlt9)
      clear k3 hlt9
      have HTO := Lib.hid HTW.out
      generalize wr = wo at *
      go_loopg [3, 57] nc (fun gg s3 s57 wr => ∃ (j : Nat) (v' : Value) (bcc : List UInt8), v' = s3 ∧ s57 = .int .i64 j ∧ j ≤ nc ∧ nc - j ≤ gg ∧ bcc.length ≤ acc.length + 5 + j * 11 ∧ Hid (BRow wr w.heap.size v' bcc ∧ Tb w.heap.size w wr ∧ bcc = acc9 ++ md.codeB (c.take j) ∧ wo.heap.size ≤ wr.heap.size))
      case atStart => exact ⟨0, v9, acc9, rfl, rfl, Nat.zero_le _, by omega, by have := HA9.out; omega, Lib.hid ⟨H9.out.1, H9.out.2.1, by simp [md.codeB], HL9.out⟩⟩
      case round =>
        clear H9 HA9
        obtain ⟨j, v', bcc, rfl, rfl, hj, hgj, hbl, HB⟩ := hrel
        obtain ⟨ao2, ac2, rfl⟩ := own_slice HB.out.1
        have hBw2 : w.heap.size ≤ wr.heap.size := HB.out.2.1.size
        by_cases hjlt : j < nc
        case neg =>
          obtain rfl : j = nc := by omega
          have HF : Hid (bcc = acc6 ++ md.fnsB (fs.take (k + 1))) := Lib.hid (by
            rw [HB.out.2.2.1, HSN.out, HE9.out, show c.take j = c from List.take_of_length_le (by rw [HNC.out]; exact Nat.le_refl _)]
            unfold md.fnB
            dsimp only
            rw [HNC.out]
            simp)
          have HZ := Lib.hid (And.intro HB.out.1 HB.out.2.1)
          clear HB
          go_wp2_with fail
          go_roundg (n - (k + 1))
          case measure => omega
          case rel => exact ⟨k + 1, _, bcc, rfl, by go_num, by omega, Nat.le_refl _, by omega, Lib.hid ⟨HZ.out.1, HZ.out.2, HF.out⟩⟩
        case pos =>
          have hji : (j : Int) < (nc : Int) := by omega
          have hjl : j < c.length := by rw [HNC.out]; exact hjlt
          have hin2 := RowIn.keep HIN.out (fun k hk _ => (HB.out.2.1.bel.block k (hD k hk)).trans (HTO.out.bel.block k (hD k hk)).symm) HB.out.2.2.2 (fun _ h _ => h)
          obtain ⟨b2, off2, rfl, -, hb2, q0, q1⟩ := InsIn.cell hin2 j hjl
          have hsn2 := md.codeB_snoc c j hjl
          obtain ⟨hri, hii⟩ := HCI.out j hjl
          generalize c[j] = i at *
          obtain ⟨op, nn⟩ := i
          unfold md.rightIns at hri
          simp only [Bool.and_eq_true, decide_eq_true_eq] at hri
          obtain ⟨⟨o0, o1⟩, -⟩ := hri
          obtain ⟨op, rfl⟩ := Int.eq_ofNat_of_zero_le o0
          dsimp only at q0 q1 hii
          have HS2 := Lib.hid hsn2
          have hb3 := below_one wr (.cells #[.int .i64 op, .int .i64 nn] 59)
          have H10 := Lib.hid (And.intro (row_below HB.out.1 hb3) (HB.out.2.1.then hb3 hBw2))
          have HCALL := Lib.hid (appendIns_any w.heap.size (.slice ao2 bcc.length ac2) bcc op nn _ H10.out.1 (by simp; omega) (by omega) (by omega) hii)
          clear hsn2 hb3 o0 hin2
          go_wp2_with fail
          refine HCALL.out.mono ?_
          rintro e w11 ⟨v11, rfl, r1, r2⟩
          have H11 := Lib.hid (And.intro r1 (And.intro (H10.out.2.trans r2) (And.intro (show bcc ++ md.insB ⟨op, nn⟩ = acc9 ++ md.codeB (c.take (j + 1)) by rw [HB.out.2.2.1, HS2.out, List.append_assoc]) (show wo.heap.size ≤ w11.heap.size by have := HB.out.2.2.2; have := r2.size; simp at this; omega))))
          have HL11 : Hid ((bcc ++ md.insB ⟨op, nn⟩).length ≤ bcc.length + 11) := Lib.hid (by rw [List.length_append]; have := md.insB_len ⟨op, nn⟩; omega)
          clear r1 r2 H10 HCALL HB q0 q1
          generalize bcc ++ md.insB ⟨op, nn⟩ = bcc2 at *
          go_wp2_with fail
          go_roundg (nc - (j + 1))
          case measure => omega
          case rel => exact ⟨j + 1, v11, bcc2, rfl, by go_num, by omega, Nat.le_refl _, by have := HL11.out; omega, H11⟩
/-- what Encode answers: the bytes, where there are any; the error -/
def EncAns (w w' : World) (m : md.Mod) (e : Ending) : Prop := ∃ v', e = .returned (.tuple #[v', .int .i64 (md.err m : Nat)]) ∧ BRow w' w.heap.size v' (md.enc m) ∧ Below w.heap.size w w'
set_option maxRecDepth 100000 in
set_option maxHeartbeats 1600000 in
theorem encode_any (D : Nat → Prop) (m : md.Mod) (VD VF : Value) (w : World) (hs : ModIn w D VD VF m) (hD : ∀ k, D k → k < w.heap.size) (hi : md.fnsI m.funcs) :
    Calls Tryd.prog 30 #[modV m VD VF] w fun e w' => EncAns w w' m e := by
  obtain ⟨od, cd, of, cf, rfl, rfl, hd1, hd2, hf1, hf2⟩ := hs.slices
  have hb0 := below_one w (modO m (.slice od m.data.length cd) (.slice of m.funcs.length cf))
  have hs1 := hs.below hb0
  have HB := Lib.hid (And.intro hb0 (heap_alloc_new w (modO m (.slice od m.data.length cd) (.slice of m.funcs.length cf))))
  have HR := Lib.hid (right_any D m _ _ _ hs1)
  have HE : Hid (md.right m = false → md.err m = 1 ∧ md.enc m = []) := Lib.hid (fun h => by
    have e1 : md.err m = 1 := by unfold md.err; rw [h]; rfl
    exact ⟨e1, by unfold md.enc; rw [e1]; rfl⟩)
  have HL : Hid (md.right m = true → 4096 < (md.write m).length → md.err m = 2 ∧ md.enc m = []) := Lib.hid (fun h h2 => by
    have e1 : md.err m = 2 := by unfold md.err; rw [if_pos h, if_pos h2]
    exact ⟨e1, by unfold md.enc; rw [e1]; rfl⟩)
  have HO : Hid (md.right m = true → ¬ 4096 < (md.write m).length → md.err m = 0 ∧ md.enc m = md.write m) := Lib.hid (fun h h2 => by
    have e1 : md.err m = 0 := by unfold md.err; rw [if_pos h, if_neg h2]
    exact ⟨e1, by unfold md.enc; rw [e1]; rfl⟩)
  have HWR := Lib.hid (fun (hr : md.right m = true) W h2 h3 => write_any D m (.slice od m.data.length cd) (.slice of m.funcs.length cf) W h2 h3 hr hi)
  have HS1 := Lib.hid hs1
  clear hs hs1 hb0
  unfold EncAns
  obtain ⟨mem, d, fs⟩ := m
  dsimp only at hd1 hf1
  generalize md.right ⟨mem, d, fs⟩ = R at *
  go_enter Tryd.func30, Tryd.ntmps30
  go_wp2_with fail
  refine HR.out.mono ?_
  rintro e w2 ⟨rfl, hb2⟩
  have HB2 := Lib.hid (And.intro (HB.out.1.trans (hb2.mono HB.out.1.size)) ((hb2.block _ (heap_lt HB.out.2)).trans HB.out.2))
  have HS2 := Lib.hid (HS1.out.below hb2)
  clear hb2 HR HS1 HB
  cases R with
  | false =>
    have h2 := HE.out rfl
    have HZ := Lib.hid h2
    clear h2 HE HL HO HWR
    go_wp2_with fail
    go_ret2
    refine ⟨.slice none 0 0, by rw [HZ.out.1]; rfl, ?_, HB2.out.1⟩
    rw [HZ.out.2]
    exact World.ownsRow_nil _ _ _ _
  | true =>
    have k0 : w2.cell? ⟨w.heap.size, 0, none⟩ = some (.int .i64 mem) := (cell_of_heap HB2.out.2).trans rfl
    have k1 : w2.cell? ⟨w.heap.size, 1, none⟩ = some (.slice od d.length cd) := (cell_of_heap HB2.out.2).trans rfl
    have k2 : w2.cell? ⟨w.heap.size, 2, none⟩ = some (.slice of fs.length cf) := (cell_of_heap HB2.out.2).trans rfl
    have hlt := heap_lt HB2.out.2
    go_wp2_with fail
    refine (HWR.out trivial w2 HS2.out (fun k hk => Nat.lt_trans (hD k hk) hlt)).mono ?_
    rintro e w3 ⟨v3, rfl, r1, r2⟩
    have H3 := Lib.hid (And.intro (own_base r1 (Nat.le_of_lt hlt)) (HB2.out.1.trans (r2.mono (Nat.le_of_lt hlt))))
    have HL2 := Lib.hid (HL.out trivial)
    have HO2 := Lib.hid (HO.out trivial)
    clear r1 r2 HE HL HO HWR k0 k1 k2
    generalize md.write ⟨mem, d, fs⟩ = WR at *
    obtain ⟨ao, ac, rfl⟩ := own_slice H3.out.1
    by_cases hl : 4096 < WR.length
    · have hli : (4096 : Int) < (WR.length : Int) := by omega
      have HZ := Lib.hid (HL2.out hl)
      clear HO2 HL2
      go_wp2_with fail
      go_ret2
      refine ⟨.slice none 0 0, by rw [HZ.out.1]; rfl, ?_, H3.out.2⟩
      rw [HZ.out.2]
      exact World.ownsRow_nil _ _ _ _
    · have hli : ¬ (4096 : Int) < (WR.length : Int) := by omega
      have HZ := Lib.hid (HO2.out hl)
      clear HO2 HL2
      go_wp2_with fail
      go_ret2
      refine ⟨_, by rw [HZ.out.1]; rfl, ?_, H3.out.2⟩
      rw [HZ.out.2]
      exact H3.out.1
end Go.Proofs.YtoknolljfeaapaaDoor
