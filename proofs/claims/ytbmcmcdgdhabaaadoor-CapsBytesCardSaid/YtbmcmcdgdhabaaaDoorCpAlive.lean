/- The document's examples of layer 15 hold: alive returns true. -/
import Derived.Test.YtbmcmcdgdhabaaaDoorCpAsk
import Derived.Test.YtbmcmcdgdhabaaaDoorCpNames
import Derived.Laws.IdiomStrings
namespace Go.Proofs.YtbmcmcdgdhabaaaDoor
open Go.RowKit
theorem NsIn.new (w : World) (l : List Int) (X : Array Value) (hX : X = (inC l).toArray) (n : Nat) (hn : n = l.length) (hl : n ≤ 1000) : NsIn (w.alloc (.cells X 2)) (fun _ => True) (.slice (some ⟨w.heap.size, 0, none⟩) n n) l := by
  subst hX hn
  have h := heap_alloc_new w (.cells (inC l).toArray 2)
  refine ⟨_, _, rfl, Nat.le_refl _, by omega, by simp [inC], .inr ⟨w.heap.size, 0, rfl, trivial, heap_lt h, fun k v hv => ?_⟩⟩
  rw [Nat.zero_add, cell_of_heap h]
  simpa using hv
theorem BsIn.new (w : World) (l : List UInt8) (X : Array Value) (hX : X = (byC l).toArray) (n : Nat) (hn : n = l.length) (hl : n ≤ 1000) : BsIn (w.alloc (.cells X 5)) (fun _ => True) (.slice (some ⟨w.heap.size, 0, none⟩) n n) l := by
  subst hX hn
  have h := heap_alloc_new w (.cells (byC l).toArray 5)
  refine ⟨_, _, rfl, Nat.le_refl _, by omega, by simp [byC], .inr ⟨w.heap.size, 0, rfl, trivial, heap_lt h, fun k v hv => ?_⟩⟩
  rw [Nat.zero_add, cell_of_heap h]
  simpa using hv
theorem TxIn.new (w : World) (l : List ByteArray) (X : Array Value) (hX : X = (txC l).toArray) (n : Nat) (hn : n = l.length) (hl : n ≤ 1000) : TxIn (w.alloc (.cells X 9)) (fun _ => True) (.slice (some ⟨w.heap.size, 0, none⟩) n n) l := by
  subst hX hn
  have h := heap_alloc_new w (.cells (txC l).toArray 9)
  refine ⟨_, _, rfl, Nat.le_refl _, by omega, by simp [txC], .inr ⟨w.heap.size, 0, rfl, trivial, heap_lt h, fun k v hv => ?_⟩⟩
  rw [Nat.zero_add, cell_of_heap h]
  simpa using hv
/-- bytes that are written out as a text: their row bears the run-time's mark -/
abbrev litB (l : List UInt8) : Obj := .cells (byC l).toArray 5 (l.length, l.length + 1)
theorem conv_lit (W : World) (l : List UInt8) (n m : Nat) (hn : W.heap.size = n) (hm : m = l.length) (cs : Array Value) (hcs : cs = (byC l).toArray) : (convert 23 23 (.slice (some ⟨n, 0, none⟩) m m)).run Tryd.prog (W.alloc (.cells cs 5)) = .ok (.slice (some ⟨n, 0, none⟩) m m) (W.alloc (litB l)) := by
  subst hcs hm
  have h := Go.Joins.run_convert_bytes_const_at (P := Tryd.prog) W 23 5 (byC l).toArray l.length l.length n hn.symm Tryd.underlying23 Tryd.underlying5
  rw [h]
  simp [litB, byC_len]
theorem BsIn.lit (W : World) (l : List UInt8) (n : Nat) (hn : W.heap.size = n) (hl : l.length ≤ 9223372036854775807) : BsIn (W.alloc (litB l)) (fun _ => True) (.slice (some ⟨n, 0, none⟩) l.length l.length) l := by
  subst hn
  refine ⟨_, _, rfl, Nat.le_refl _, hl, by rw [byC_len, Nat.mul_one], .inr ⟨W.heap.size, 0, rfl, trivial, by simp, fun k v hv => ?_⟩⟩
  rw [World.cell?_alloc_mark, Nat.zero_add]
  simpa using hv
/-- a call of Ask whose answer is known -/
theorem ask_then (D D' : Nat → Prop) (VA VM : Value) (have_ n : Int) (a : List Int) (mem : List UInt8) (R : cp.Call × List UInt8 × Int) (hR : cp.ask have_ n a mem = R) (w : World) (ht : HT w) (nt : NT w) (ha : NsIn w D VA a) (hm : BsIn w D' VM mem) :
    Calls Tryd.prog 7 #[.int .i64 have_, .int .i64 n, VA, VM] w fun e w' => AskAns w w' e R := hR ▸ ask_any D D' VA VM have_ n a mem w ht nt ha hm
theorem cp.A1 : cp.ask 1 0 [2, 3, 97] [] = (⟨0, 0, 2, 3, 0, 97, 0, 0, 0⟩, [], 0) := by kernel_rfl
theorem cp.A2 : cp.ask 1 5 [1, 0, 4] [] = (⟨0, 0, 0, 0, 0, 0, 0, 0, 0⟩, [], -2) := by kernel_rfl
theorem cp.A3 : cp.ask 4 5 [0, 0, 4] [] = (⟨0, 0, 0, 0, 0, 0, 0, 0, 0⟩, [], -3) := by kernel_rfl
theorem cp.A4 : cp.ask 0 11 [1, 2] [97, 98, 99] = (⟨11, 0, 0, 0, 0, 0, 0, 0, 0⟩, [98, 99], 0) := by kernel_rfl
/-- what the variables hold -/
structure VT (w : World) : Prop where
  ht : HT w
  nt : NT w
  mt : MT w
theorem VT.below {w w' : World} (h : VT w) (hb : Below w.heap.size w w') : VT w' := ⟨h.ht.below hb, h.nt.below hb, h.mt.below hb⟩
/-- a call's box that stays -/
abbrev CB (w : World) (q : Nat) (c : cp.Call) (VB : Value) : Prop := w.heap[q]? = some (callO c VB)
set_option maxRecDepth 100000 in
set_option maxHeartbeats 3200000 in
theorem alive_any (w : World) (hv : VT w) : Calls Tryd.prog 6 #[] w fun e w' => e = .returned (.bool true) ∧ Below w.heap.size w w' := by
  have HV := Lib.hid (fun (W : World) (hb : Below w.heap.size w W) => hv.below hb)
  clear hv
  have HB0 := Lib.hid (Below.refl w.heap.size w)
  go_enter Tryd.func6, Tryd.ntmps6
  have ha1 := NsIn.new w [2, 3, 97] #[.int .i64 2, .int .i64 3, .int .i64 97] rfl 3 rfl (by decide)
  have hb1 := below_one w (.cells #[.int .i64 2, .int .i64 3, .int .i64 97] 2)
  have HAK1 := Lib.hid (ask_then _ _ _ _ 1 0 [2, 3, 97] [] _ cp.A1 (w.alloc (.cells #[.int .i64 2, .int .i64 3, .int .i64 97] 2)) (HV.out _ (HB0.out.trans (hb1.mono HB0.out.size))).ht (HV.out _ (HB0.out.trans (hb1.mono HB0.out.size))).nt ha1 (RowIn.nil _ (fun _ => True) 1))
  have HBA1 := Lib.hid (And.intro hb1 (HB0.out.trans (hb1.mono HB0.out.size)))
  clear ha1 hb1
  go_wp2_with fail
  refine HAK1.out.mono ?_
  rintro e x1 ⟨VB, rfl, hr1, hx1⟩
  obtain ⟨oB1, cB1, rfl⟩ : ∃ o c, VB = .slice o 0 c := own_slice hr1
  have hy1 := below_one x1 (callO ⟨0, 0, 2, 3, 0, 97, 0, 0, 0⟩ (.slice oB1 0 cB1))
  have hz1 := HBA1.out.1.trans ((hx1.trans (hy1.mono hx1.size)).mono HBA1.out.1.size)
  have HB1 := Lib.hid (HB0.out.trans (hz1.mono HB0.out.size))
  have HN1 := Lib.hid (heap_alloc_new x1 (callO ⟨0, 0, 2, 3, 0, 97, 0, 0, 0⟩ (.slice oB1 0 cB1)))
  clear hr1 hx1 hy1 hz1 HAK1 HBA1 HB0
  dsimp only
  go_upto_region 2 with fail
  generalize x1.alloc (callO ⟨0, 0, 2, 3, 0, 97, 0, 0, 0⟩ (.slice oB1 0 cB1)) = w1 at *
  generalize x1.heap.size = q1 at *
  have ha2 := NsIn.new w1 [1, 0, 4] #[.int .i64 1, .int .i64 0, .int .i64 4] rfl 3 rfl (by decide)
  have hb2 := below_one w1 (.cells #[.int .i64 1, .int .i64 0, .int .i64 4] 2)
  have HAK2 := Lib.hid (ask_then _ _ _ _ 1 5 [1, 0, 4] [] _ cp.A2 (w1.alloc (.cells #[.int .i64 1, .int .i64 0, .int .i64 4] 2)) (HV.out _ (HB1.out.trans (hb2.mono HB1.out.size))).ht (HV.out _ (HB1.out.trans (hb2.mono HB1.out.size))).nt ha2 (RowIn.nil _ (fun _ => True) 1))
  have HBA2 := Lib.hid (And.intro hb2 (HB1.out.trans (hb2.mono HB1.out.size)))
  clear ha2 hb2
  go_wp2_with fail
  refine HAK2.out.mono ?_
  rintro e x2 ⟨VB, rfl, hr2, hx2⟩
  obtain ⟨oB2, cB2, rfl⟩ : ∃ o c, VB = .slice o 0 c := own_slice hr2
  have hy2 := below_one x2 (callO ⟨0, 0, 0, 0, 0, 0, 0, 0, 0⟩ (.slice oB2 0 cB2))
  have hz2 := HBA2.out.1.trans ((hx2.trans (hy2.mono hx2.size)).mono HBA2.out.1.size)
  have HB2 := Lib.hid (HB1.out.trans (hz2.mono HB1.out.size))
  have HN2 := Lib.hid (heap_alloc_new x2 (callO ⟨0, 0, 0, 0, 0, 0, 0, 0, 0⟩ (.slice oB2 0 cB2)))
  replace HN1 := Lib.hid ((hz2.block _ (heap_lt HN1.out)).trans HN1.out)
  clear hr2 hx2 hy2 hz2 HAK2 HBA2 HB1
  dsimp only
  go_upto_region 3 with fail
  generalize x2.alloc (callO ⟨0, 0, 0, 0, 0, 0, 0, 0, 0⟩ (.slice oB2 0 cB2)) = w2 at *
  generalize x2.heap.size = q2 at *
  have ha3 := NsIn.new w2 [0, 0, 4] #[.int .i64 0, .int .i64 0, .int .i64 4] rfl 3 rfl (by decide)
  have hb3 := below_one w2 (.cells #[.int .i64 0, .int .i64 0, .int .i64 4] 2)
  have HAK3 := Lib.hid (ask_then _ _ _ _ 4 5 [0, 0, 4] [] _ cp.A3 (w2.alloc (.cells #[.int .i64 0, .int .i64 0, .int .i64 4] 2)) (HV.out _ (HB2.out.trans (hb3.mono HB2.out.size))).ht (HV.out _ (HB2.out.trans (hb3.mono HB2.out.size))).nt ha3 (RowIn.nil _ (fun _ => True) 1))
  have HBA3 := Lib.hid (And.intro hb3 (HB2.out.trans (hb3.mono HB2.out.size)))
  clear ha3 hb3
  go_wp2_with fail
  refine HAK3.out.mono ?_
  rintro e x3 ⟨VB, rfl, hr3, hx3⟩
  obtain ⟨oB3, cB3, rfl⟩ : ∃ o c, VB = .slice o 0 c := own_slice hr3
  have hy3 := below_one x3 (callO ⟨0, 0, 0, 0, 0, 0, 0, 0, 0⟩ (.slice oB3 0 cB3))
  have hz3 := HBA3.out.1.trans ((hx3.trans (hy3.mono hx3.size)).mono HBA3.out.1.size)
  have HB3 := Lib.hid (HB2.out.trans (hz3.mono HB2.out.size))
  have HN3 := Lib.hid (heap_alloc_new x3 (callO ⟨0, 0, 0, 0, 0, 0, 0, 0, 0⟩ (.slice oB3 0 cB3)))
  replace HN1 := Lib.hid ((hz3.block _ (heap_lt HN1.out)).trans HN1.out)
  replace HN2 := Lib.hid ((hz3.block _ (heap_lt HN2.out)).trans HN2.out)
  clear hr3 hx3 hy3 hz3 HAK3 HBA3 HB2
  dsimp only
  go_upto_region 4 with fail
  generalize x3.alloc (callO ⟨0, 0, 0, 0, 0, 0, 0, 0, 0⟩ (.slice oB3 0 cB3)) = w3 at *
  generalize x3.heap.size = q3 at *
  have ha4 := NsIn.new w3 [1, 2] #[.int .i64 1, .int .i64 2] rfl 2 rfl (by decide)
  have hb4 := below_one w3 (.cells #[.int .i64 1, .int .i64 2] 2)
  have hm4 := show BsIn ((w3.alloc (.cells #[.int .i64 1, .int .i64 2] 2)).alloc (litB [97, 98, 99])) (fun _ => True) (.slice (some ⟨w3.heap.size + 1, 0, none⟩) 3 3) [97, 98, 99] from BsIn.lit (w3.alloc (.cells #[.int .i64 1, .int .i64 2] 2)) [97, 98, 99] (w3.heap.size + 1) (World.size_alloc _ _) (by decide)
  have hbm4 := hb4.trans ((below_one (w3.alloc (.cells #[.int .i64 1, .int .i64 2] 2)) (litB [97, 98, 99])).mono hb4.size)
  have kc : (convert 23 23 (.slice (some ⟨w3.heap.size + 1, 0, none⟩) 3 3)).run Tryd.prog ((w3.alloc (.cells #[.int .i64 1, .int .i64 2] 2)).alloc (.cells #[.int .u8 97, .int .u8 98, .int .u8 99] 5)) = .ok (.slice (some ⟨w3.heap.size + 1, 0, none⟩) 3 3) ((w3.alloc (.cells #[.int .i64 1, .int .i64 2] 2)).alloc (litB [97, 98, 99])) := conv_lit (w3.alloc (.cells #[.int .i64 1, .int .i64 2] 2)) [97, 98, 99] (w3.heap.size + 1) 3 (World.size_alloc _ _) rfl #[.int .u8 97, .int .u8 98, .int .u8 99] rfl
  have HAK4 := Lib.hid (ask_then _ _ _ _ 0 11 [1, 2] [97, 98, 99] _ cp.A4 ((w3.alloc (.cells #[.int .i64 1, .int .i64 2] 2)).alloc (litB [97, 98, 99])) (HV.out _ (HB3.out.trans (hbm4.mono HB3.out.size))).ht (HV.out _ (HB3.out.trans (hbm4.mono HB3.out.size))).nt (RowIn.below ha4 (below_one _ _)) hm4)
  have HBA4 := Lib.hid (And.intro hbm4 (HB3.out.trans (hbm4.mono HB3.out.size)))
  clear ha4 hb4 hm4 hbm4
  go_wp2_with fail
  refine HAK4.out.mono ?_
  rintro e x4 ⟨VB, rfl, hr4, hx4⟩
  obtain ⟨oB4, cB4, rfl⟩ : ∃ o c, VB = .slice o 2 c := own_slice hr4
  have hy4 := below_one x4 (callO ⟨11, 0, 0, 0, 0, 0, 0, 0, 0⟩ (.slice oB4 2 cB4))
  have hz4 := HBA4.out.1.trans ((hx4.trans (hy4.mono hx4.size)).mono HBA4.out.1.size)
  have HB4 := Lib.hid (HB3.out.trans (hz4.mono HB3.out.size))
  have HN4 := Lib.hid (heap_alloc_new x4 (callO ⟨11, 0, 0, 0, 0, 0, 0, 0, 0⟩ (.slice oB4 2 cB4)))
  have HR4 := Lib.hid (row_below hr4 hy4)
  replace HN1 := Lib.hid ((hz4.block _ (heap_lt HN1.out)).trans HN1.out)
  replace HN2 := Lib.hid ((hz4.block _ (heap_lt HN2.out)).trans HN2.out)
  replace HN3 := Lib.hid ((hz4.block _ (heap_lt HN3.out)).trans HN3.out)
  clear hr4 hx4 hy4 hz4 HAK4 HBA4 HB3 kc
  dsimp only
  go_upto_region 5 with fail
  generalize x4.alloc (callO ⟨11, 0, 0, 0, 0, 0, 0, 0, 0⟩ (.slice oB4 2 cB4)) = w4 at *
  generalize x4.heap.size = q4 at *
  have a2 : w4.cell? ⟨q1, 2, none⟩ = some (.int .i64 2) := (cell_of_heap HN1.out).trans rfl
  have a3 : w4.cell? ⟨q1, 3, none⟩ = some (.int .i64 3) := (cell_of_heap HN1.out).trans rfl
  have a5 : w4.cell? ⟨q1, 5, none⟩ = some (.int .i32 97) := (cell_of_heap HN1.out).trans rfl
  have d9 : w4.cell? ⟨q4, 9, none⟩ = some (.slice oB4 2 cB4) := (cell_of_heap HN4.out).trans rfl
  have hl1 := heap_lt HN1.out
  have hl4 := heap_lt HN4.out
  have hr4 : BR w4 _ (.slice oB4 2 cB4) [98, 99] := HR4.out
  obtain ⟨b4, off4, e4, -, -, hc4⟩ := RowIn.at_ (RowIn.of_own hr4 (by simp [byC]) (fun _ => True) (fun _ _ => trivial)) 0 (by decide)
  subst e4
  have kc : (convert 23 9 (.slice (some ⟨b4, off4, none⟩) 2 cB4)).run Tryd.prog w4 = .ok (.string ⟨#[98, 99]⟩) w4 :=
    run_convert_bytes_back (P := Tryd.prog) w4 23 9 5 ⟨b4, off4, none⟩ cB4 [98, 99] Tryd.underlying23 Tryd.underlying5 Tryd.underlying9 (fun j hj => by
      rw [addr_plain]
      exact hc4 j _ (by
        have : j = 0 ∨ j = 1 := by simp at hj; omega
        rcases this with rfl | rfl <;> rfl))
  have HNE : Hid (Calls Tryd.prog 9 #[.int .i64 9] w4 fun e w' => e = .returned (.int .i64 32) ∧ w' = w4) := Lib.hid (needs_any 9 w4 (HV.out w4 HB4.out).nt)
  have HGR : Hid (Calls Tryd.prog 8 #[.int .i64 1, .int .i64 2] w4 fun e w' => e = .returned (.int .i64 3) ∧ w' = w4) := Lib.hid (by
    have := grant_any 1 2 w4
    rwa [show cp.grant 1 2 = 3 by decide] at this)
  have HNA := Lib.hid (names5_any w4 (HV.out w4 HB4.out).mt)
  clear hr4 hc4 HR4
  go_wp2_with fail
  refine HNE.out.mono ?_
  rintro e w' ⟨rfl, hw⟩
  replace hw := hw.symm
  subst hw
  go_wp2_with fail
  refine HGR.out.mono ?_
  rintro e w' ⟨rfl, hw⟩
  replace hw := hw.symm
  subst hw
  go_wp2_with fail
  refine HNA.out.mono ?_
  rintro e w5 ⟨V5, rfl, hr5, hb5⟩
  obtain ⟨o5, c5, rfl⟩ := own_slice hr5
  have hb6 := below_one w5 (.cells #[.string ⟨#[100, 114, 97, 119]⟩, .string ⟨#[116, 121, 112, 101]⟩] 9)
  have HST := Lib.hid (sameTexts_eq _ _ _ _ (cp.pre 6) (w5.alloc (.cells #[.string ⟨#[100, 114, 97, 119]⟩, .string ⟨#[116, 121, 112, 101]⟩] 9)) (RowIn.below (show TxIn w5 (fun _ => True) (.slice o5 2 c5) (cp.pre 6) from RowIn.of_own hr5 (by simp [txC, cp.pre]) _ (fun _ _ => trivial)) hb6) (TxIn.new w5 (cp.pre 6) #[.string ⟨#[100, 114, 97, 119]⟩, .string ⟨#[116, 121, 112, 101]⟩] rfl 2 rfl (by decide)))
  have HB6 := Lib.hid (HB4.out.trans ((hb5.trans (hb6.mono hb5.size)).mono HB4.out.size))
  clear hr5 hb5 hb6 HB4 HNE HGR HNA a2 a3 a5 d9 hl1 hl4 kc
  go_wp2_with fail
  refine HST.out.mono ?_
  rintro e w7 ⟨rfl, hb7⟩
  have HB7 := Lib.hid (HB6.out.trans (hb7.mono HB6.out.size))
  clear hb7 HST HB6
  go_wp2_with fail
  go_ret
  exact ⟨rfl, HB7.out⟩
end Go.Proofs.YtbmcmcdgdhabaaaDoor
