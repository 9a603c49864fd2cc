/- The document's examples of layer 13 hold: alive returns true. -/
import Derived.Test.YtoknolljfeaapaaDoorCkLaw
namespace Go.Proofs.YtoknolljfeaapaaDoor
open Go.RowKit
theorem InsIn.new (w : World) (l : List md.Ins) (X : Array Value) (hX : X = (codeC l).toArray) (n : Nat) (hn : n = l.length) (hl : n ≤ 1000) : InsIn (w.alloc (.cells X 59)) (fun k => k < (w.alloc (.cells X 59)).heap.size) (.slice (some ⟨w.heap.size, 0, none⟩) n n) l := by
  subst hX hn
  have h := heap_alloc_new w (.cells (codeC l).toArray 59)
  refine ⟨_, _, rfl, Nat.le_refl _, by omega, codeC_len l, .inr ⟨w.heap.size, 0, rfl, heap_lt h, heap_lt h, fun k v hv => ?_⟩⟩
  rw [Nat.zero_add, cell_of_heap h]
  simpa using hv
theorem NsIn.new (w : World) (l : List Int) (X : Array Value) (hX : X = (inC l).toArray) (n : Nat) (hn : n = l.length) (hl : n ≤ 1000) : NsIn (w.alloc (.cells X 3)) (fun _ => True) (.slice (some ⟨w.heap.size, 0, none⟩) n n) l := by
  subst hX hn
  have h := heap_alloc_new w (.cells (inC l).toArray 3)
  refine ⟨_, _, rfl, Nat.le_refl _, by omega, by simp [inC], .inr ⟨w.heap.size, 0, rfl, trivial, heap_lt h, fun k v hv => ?_⟩⟩
  rw [Nat.zero_add, cell_of_heap h]
  simpa using hv
theorem ck.mone_i64 {l : List md.Ins} (h : md.codeI l) : md.fnsI (ck.mone l).funcs := by
  intro f hf
  simp [ck.mone] at hf
  subst hf
  exact h
theorem mod_then (l : List md.Ins) (o : Option Addr) (n cap : Nat) (w : World) (h : InsIn w (fun k => k < w.heap.size) (.slice o n cap) l) : Calls Tryd.prog 27 #[.slice o n cap] w fun e w' => ModAns w w' e l := mod13_any _ l w h
/-- a call of Check whose answer is known -/
theorem check_then (l : List md.Ins) (X : ck.Flaw) (hX : ck.check (ck.mone l) = X) (of : Option Addr) (w : World) (h : ModIn w (fun k => k < w.heap.size) (.slice none 0 0) (.slice of 1 1) (ck.mone l)) (ht : HT w) (hi : md.codeI l) :
    Calls Tryd.prog 10 #[.agg #[.int .i64 0, .slice none 0 0, .slice of 1 1]] w fun e w' => FlawAns w w' e X := by
  subst hX
  exact check_any _ (ck.mone l) _ _ w h ht (fun k hk => hk) (ck.mone_i64 hi)
theorem heights_then (l : List md.Ins) (X : List Int) (hX : ck.heightsOf (ck.mone l) 0 = X) (of : Option Addr) (w : World) (h : ModIn w (fun k => k < w.heap.size) (.slice none 0 0) (.slice of 1 1) (ck.mone l)) (ht : HT w) (hi : md.codeI l) :
    Calls Tryd.prog 12 #[.agg #[.int .i64 0, .slice none 0 0, .slice of 1 1], .int .i64 0] w fun e w' => IntsAns w w' e X := by
  subst hX
  exact heightsOf_any _ (ck.mone l) _ _ 0 w h ht (fun k hk => hk) (ck.mone_i64 hi)
theorem effect_then (l : List md.Ins) (X : Int × Int × Bool) (op n : Int) (hX : ck.effect (ck.mone l) 0 ⟨op, n⟩ = X) (of : Option Addr) (w : World) (h : ModIn w (fun k => k < w.heap.size) (.slice none 0 0) (.slice of 1 1) (ck.mone l)) (ht : HT w) :
    Calls Tryd.prog 29 #[.agg #[.int .i64 0, .slice none 0 0, .slice of 1 1], .int .i64 0, .agg #[.int .i64 op, .int .i64 n]] w fun e w' => EffAns w w' e X := by
  subst hX
  exact effect_any _ (ck.mone l) _ _ 0 op n w h ht
theorem ModIn.now {w w' : World} {VD VF : Value} {m : md.Mod} (h : ModIn w (fun k => k < w.heap.size) VD VF m) (hb : Below w.heap.size w w') : ModIn w' (fun k => k < w'.heap.size) VD VF m :=
  h.keep (fun k _ hk => hb.block k hk) hb.size fun _ _ hk => Nat.lt_of_lt_of_le hk hb.size
theorem sameInts_eq (D D' : Nat → Prop) (V V' : Value) (xs : List Int) (w : World) (hx : NsIn w D V xs) (hy : NsIn w D' V' xs) : Calls Tryd.prog 14 #[V, V'] w fun e w' => BoolAns w w' e true := by
  have h := sameInts_any D D' V V' xs xs w hx hy
  rw [decide_eq_true rfl] at h
  exact h

def ck.codeA : List md.Ins := [⟨1, 1⟩, ⟨1, 2⟩, ⟨7, 0⟩, ⟨2, 0⟩, ⟨27, 0⟩]
theorem ck.flA : ck.check (ck.mone ck.codeA) = ⟨0, 0, 0⟩ := by kernel_rfl
theorem ck.i64A : md.codeI ck.codeA := by
  intro i hi
  simp [ck.codeA] at hi
  rcases hi with rfl | rfl | rfl | rfl | rfl <;> exact ⟨by decide, by decide⟩
def ck.codeB : List md.Ins := [⟨1, 1⟩, ⟨27, 0⟩]
theorem ck.flB : ck.check (ck.mone ck.codeB) = ⟨0, -1, 130⟩ := by kernel_rfl
theorem ck.i64B : md.codeI ck.codeB := by
  intro i hi
  simp [ck.codeB] at hi
  rcases hi with rfl | rfl <;> exact ⟨by decide, by decide⟩
def ck.codeC : List md.Ins := [⟨24, 0⟩]
theorem ck.flC : ck.check (ck.mone ck.codeC) = ⟨0, 0, 0⟩ := by kernel_rfl
theorem ck.i64C : md.codeI ck.codeC := by
  intro i hi
  simp [ck.codeC] at hi
  subst hi <;> exact ⟨by decide, by decide⟩
def ck.codeD : List md.Ins := [⟨5, 4⟩, ⟨29, 0⟩]
theorem ck.flD : ck.check (ck.mone ck.codeD) = ⟨0, 0, 130⟩ := by kernel_rfl
theorem ck.i64D : md.codeI ck.codeD := by
  intro i hi
  simp [ck.codeD] at hi
  rcases hi with rfl | rfl <;> exact ⟨by decide, by decide⟩
theorem ck.hsA : ck.heightsOf (ck.mone ck.codeA) 0 = [0, 1, 2, 1, 0] := by kernel_rfl
theorem ck.efA : ck.effect (ck.mone ck.codeA) 0 ⟨28, 5⟩ = (3, 1, true) := by kernel_rfl
set_option maxRecDepth 100000 in
set_option maxHeartbeats 3200000 in
theorem alive13_any (w : World) (ht : HT w) : Calls Tryd.prog 9 #[] w fun e w' => e = .returned (.bool true) ∧ Below w.heap.size w w' := by
  have HTT := Lib.hid (fun (W : World) (hb : Below w.heap.size w W) => ht.below hb)
  have HB0 := Lib.hid (Below.refl w.heap.size w)
  clear ht
  go_enter Tryd.func9, Tryd.ntmps9
  go_wp2_with fail
  refine (ins13_any 1 1 _).mono ?_
  rintro e w1 ⟨rfl, hb1⟩
  have HB1 := Lib.hid (HB0.out.trans (hb1.mono HB0.out.size))
  clear hb1 HB0
  go_wp2_with fail
  refine (ins13_any 1 2 _).mono ?_
  rintro e w2 ⟨rfl, hb2⟩
  have HB2 := Lib.hid (HB1.out.trans (hb2.mono HB1.out.size))
  clear hb2 HB1
  go_wp2_with fail
  refine (ins13_any 7 0 _).mono ?_
  rintro e w3 ⟨rfl, hb3⟩
  have HB3 := Lib.hid (HB2.out.trans (hb3.mono HB2.out.size))
  clear hb3 HB2
  go_wp2_with fail
  refine (ins13_any 2 0 _).mono ?_
  rintro e w4 ⟨rfl, hb4⟩
  have HB4 := Lib.hid (HB3.out.trans (hb4.mono HB3.out.size))
  clear hb4 HB3
  go_wp2_with fail
  refine (ins13_any 27 0 _).mono ?_
  rintro e w5 ⟨rfl, hb5⟩
  have HB5 := Lib.hid (HB4.out.trans (hb5.mono HB4.out.size))
  clear hb5 HB4
  have hbl6 := below_one w5 (.cells #[.int .i64 1, .int .i64 1, .int .i64 1, .int .i64 2, .int .i64 7, .int .i64 0, .int .i64 2, .int .i64 0, .int .i64 27, .int .i64 0] 59)
  have hml6 := mod_then ck.codeA _ 5 5 _ (InsIn.new w5 ck.codeA #[.int .i64 1, .int .i64 1, .int .i64 1, .int .i64 2, .int .i64 7, .int .i64 0, .int .i64 2, .int .i64 0, .int .i64 27, .int .i64 0] rfl 5 rfl (by decide))
  have HML6 := Lib.hid hml6
  have HBL6 := Lib.hid hbl6
  clear hml6 hbl6
  go_wp2_with fail
  refine HML6.out.mono ?_
  rintro e w6 ⟨ofA, rfl, hm6, hb6⟩
  have hbb6 := HBL6.out.trans (hb6.mono HBL6.out.size)
  have HB6 := Lib.hid (HB5.out.trans (hbb6.mono HB5.out.size))
  have HMA := Lib.hid hm6
  clear hb6 hbb6 HB5 HML6 HBL6 hm6
  have hb7 := below_one w6 (.cells #[.int .i64 0, .slice none 0 0, .slice ofA 1 1] 25)
  have HX7 := Lib.hid (heap_alloc_new w6 (.cells #[.int .i64 0, .slice none 0 0, .slice ofA 1 1] 25))
  have HB7 := Lib.hid (HB6.out.trans (hb7.mono HB6.out.size))
  have HMA7 := Lib.hid (HMA.out.now hb7)
  clear hb7 HB6 HMA
  go_upto_region 2 with fail
  generalize w6.alloc (.cells #[.int .i64 0, .slice none 0 0, .slice ofA 1 1] 25) = w7 at *
  generalize w6.heap.size = q at *
  have x0 : w7.cell? ⟨q, 0, none⟩ = some (.int .i64 0) := (cell_of_heap HX7.out).trans rfl
  have x1 : w7.cell? ⟨q, 1, none⟩ = some (.slice none 0 0) := (cell_of_heap HX7.out).trans rfl
  have x2 : w7.cell? ⟨q, 2, none⟩ = some (.slice ofA 1 1) := (cell_of_heap HX7.out).trans rfl
  have hlx := heap_lt HX7.out
  go_cut [2, 3, 4] from 12 to 18 (fun s2 s3 s4 wx => s2 = .int .i64 3 ∧ s3 = .int .i64 1 ∧ s4 = .bool true ∧ Hid (wx.heap[q]? = some (.cells #[.int .i64 0, .slice none 0 0, .slice ofA 1 1] 25 (0, 0)) ∧ ModIn wx (fun k => k < wx.heap.size) (.slice none 0 0) (.slice ofA 1 1) (ck.mone ck.codeA) ∧ Below w.heap.size w wx))
  case first =>
    go_region_law (first
      | (go_simp; go_at_call 28; refine (ins13_any 28 5 w7.drew).mono ?_; rintro e w2 ⟨rfl, hb2⟩; have hb2' : Below w7.heap.size w7 w2 := ⟨hb2.os, hb2.tape, hb2.output, hb2.size, hb2.block⟩; have HQ := Lib.hid (And.intro ((hb2'.block _ (heap_lt HX7.out)).trans HX7.out) (And.intro (HMA7.out.now hb2') (HB7.out.trans (hb2'.mono HB7.out.size)))); have y0 : w2.cell? ⟨q, 0, none⟩ = some (.int .i64 0) := (cell_of_heap HQ.out.1).trans rfl; have y1 : w2.cell? ⟨q, 1, none⟩ = some (.slice none 0 0) := (cell_of_heap HQ.out.1).trans rfl; have y2 : w2.cell? ⟨q, 2, none⟩ = some (.slice ofA 1 1) := (cell_of_heap HQ.out.1).trans rfl; have hly := heap_lt HQ.out.1; clear hb2 hb2')
      | (go_simp; go_at_call 29; refine (effect_then ck.codeA (3, 1, true) 28 5 ck.efA ofA _ HQ.out.2.1 (HTT.out _ HQ.out.2.2)).mono ?_; rintro e w3 ⟨rfl, hb3⟩; have HQ3 := Lib.hid (And.intro ((hb3.block _ (heap_lt HQ.out.1)).trans HQ.out.1) (And.intro (HQ.out.2.1.now hb3) (HQ.out.2.2.trans (hb3.mono HQ.out.2.2.size)))); clear hb3))
    all_goals
      go_wp2_with fail
      go_meet
      exact ⟨rfl, rfl, rfl, HQ3⟩
  case rest =>
  obtain ⟨rfl, rfl, rfl, HQ⟩ := hcut
  clear x0 x1 x2 hlx HX7 HMA7 HB7
  have x0 : wc.cell? ⟨q, 0, none⟩ = some (.int .i64 0) := (cell_of_heap HQ.out.1).trans rfl
  have x1 : wc.cell? ⟨q, 1, none⟩ = some (.slice none 0 0) := (cell_of_heap HQ.out.1).trans rfl
  have x2 : wc.cell? ⟨q, 2, none⟩ = some (.slice ofA 1 1) := (cell_of_heap HQ.out.1).trans rfl
  have hlx := heap_lt HQ.out.1
  have HCA := Lib.hid (check_then ck.codeA _ ck.flA ofA wc HQ.out.2.1 (HTT.out _ HQ.out.2.2) ck.i64A)
  go_wp2_with fail
  refine HCA.out.mono ?_
  rintro e v1 ⟨rfl, hb⟩
  have HQ1 := Lib.hid (And.intro ((hb.block _ (heap_lt HQ.out.1)).trans HQ.out.1) (And.intro (HQ.out.2.1.now hb) (HQ.out.2.2.trans (hb.mono HQ.out.2.2.size))))
  clear hb HQ HCA x0 x1 x2 hlx
  dsimp only
  have x0 : v1.cell? ⟨q, 0, none⟩ = some (.int .i64 0) := (cell_of_heap HQ1.out.1).trans rfl
  have x1 : v1.cell? ⟨q, 1, none⟩ = some (.slice none 0 0) := (cell_of_heap HQ1.out.1).trans rfl
  have x2 : v1.cell? ⟨q, 2, none⟩ = some (.slice ofA 1 1) := (cell_of_heap HQ1.out.1).trans rfl
  have hlx := heap_lt HQ1.out.1
  have HCA := Lib.hid (heights_then ck.codeA _ ck.hsA ofA v1 HQ1.out.2.1 (HTT.out _ HQ1.out.2.2) ck.i64A)
  go_wp2_with fail
  refine HCA.out.mono ?_
  rintro e v2 ⟨V, rfl, hr, hb⟩
  obtain ⟨ao, cap, rfl⟩ : ∃ ao cap, V = .slice ao 5 cap := own_slice hr
  have hbl := below_one v2 (.cells #[.int .i64 0, .int .i64 1, .int .i64 2, .int .i64 1, .int .i64 0] 3)
  have HSI := Lib.hid (sameInts_eq (fun _ => True) _ _ _ [0, 1, 2, 1, 0] _ (RowIn.below (RowIn.of_own hr (by simp [inC]) _ (fun _ _ => trivial)) hbl) (NsIn.new v2 [0, 1, 2, 1, 0] #[.int .i64 0, .int .i64 1, .int .i64 2, .int .i64 1, .int .i64 0] rfl 5 rfl (by decide)))
  have HBV2 := Lib.hid (HQ1.out.2.2.trans ((hb.trans (hbl.mono hb.size)).mono HQ1.out.2.2.size))
  clear hr hb hbl HQ1 HCA x0 x1 x2 hlx
  go_wp2_with fail
  refine HSI.out.mono ?_
  rintro e v3 ⟨rfl, hb⟩
  have HBV3 := Lib.hid (HBV2.out.trans (hb.mono HBV2.out.size))
  clear hb HSI HBV2
  go_wp2_with fail
  refine (ins13_any 1 1 _).mono ?_
  rintro e w8 ⟨rfl, hb8⟩
  have HB8 := Lib.hid (HBV3.out.trans (hb8.mono HBV3.out.size))
  clear hb8 HBV3
  go_wp2_with fail
  refine (ins13_any 27 0 _).mono ?_
  rintro e w9 ⟨rfl, hb9⟩
  have HB9 := Lib.hid (HB8.out.trans (hb9.mono HB8.out.size))
  clear hb9 HB8
  have hbl10 := below_one w9 (.cells #[.int .i64 1, .int .i64 1, .int .i64 27, .int .i64 0] 59)
  have hml10 := mod_then ck.codeB _ 2 2 _ (InsIn.new w9 ck.codeB #[.int .i64 1, .int .i64 1, .int .i64 27, .int .i64 0] rfl 2 rfl (by decide))
  have HML10 := Lib.hid hml10
  have HBL10 := Lib.hid hbl10
  clear hml10 hbl10
  go_wp2_with fail
  refine HML10.out.mono ?_
  rintro e w10 ⟨ofB, rfl, hm10, hb10⟩
  have hbb10 := HBL10.out.trans (hb10.mono HBL10.out.size)
  have HB10 := Lib.hid (HB9.out.trans (hbb10.mono HB9.out.size))
  have HMB := Lib.hid hm10
  clear hb10 hbb10 HB9 HML10 HBL10 hm10
  have HCK11 := Lib.hid (check_then ck.codeB _ ck.flB ofB w10 HMB.out (HTT.out _ HB10.out) ck.i64B)
  go_wp2_with fail
  refine HCK11.out.mono ?_
  rintro e w11 ⟨rfl, hb11⟩
  have HB11 := Lib.hid (HB10.out.trans (hb11.mono HB10.out.size))
  clear hb11 HCK11 HB10 HMB
  dsimp only
  go_wp2_with fail
  refine (ins13_any 24 0 _).mono ?_
  rintro e w12 ⟨rfl, hb12⟩
  have HB12 := Lib.hid (HB11.out.trans (hb12.mono HB11.out.size))
  clear hb12 HB11
  have hbl13 := below_one w12 (.cells #[.int .i64 24, .int .i64 0] 59)
  have hml13 := mod_then ck.codeC _ 1 1 _ (InsIn.new w12 ck.codeC #[.int .i64 24, .int .i64 0] rfl 1 rfl (by decide))
  have HML13 := Lib.hid hml13
  have HBL13 := Lib.hid hbl13
  clear hml13 hbl13
  go_wp2_with fail
  refine HML13.out.mono ?_
  rintro e w13 ⟨ofC, rfl, hm13, hb13⟩
  have hbb13 := HBL13.out.trans (hb13.mono HBL13.out.size)
  have HB13 := Lib.hid (HB12.out.trans (hbb13.mono HB12.out.size))
  have HMC := Lib.hid hm13
  clear hb13 hbb13 HB12 HML13 HBL13 hm13
  have HCK14 := Lib.hid (check_then ck.codeC _ ck.flC ofC w13 HMC.out (HTT.out _ HB13.out) ck.i64C)
  go_wp2_with fail
  refine HCK14.out.mono ?_
  rintro e w14 ⟨rfl, hb14⟩
  have HB14 := Lib.hid (HB13.out.trans (hb14.mono HB13.out.size))
  clear hb14 HCK14 HB13 HMC
  dsimp only
  go_wp2_with fail
  refine (ins13_any 5 4 _).mono ?_
  rintro e w15 ⟨rfl, hb15⟩
  have HB15 := Lib.hid (HB14.out.trans (hb15.mono HB14.out.size))
  clear hb15 HB14
  go_wp2_with fail
  refine (ins13_any 29 0 _).mono ?_
  rintro e w16 ⟨rfl, hb16⟩
  have HB16 := Lib.hid (HB15.out.trans (hb16.mono HB15.out.size))
  clear hb16 HB15
  have hbl17 := below_one w16 (.cells #[.int .i64 5, .int .i64 4, .int .i64 29, .int .i64 0] 59)
  have hml17 := mod_then ck.codeD _ 2 2 _ (InsIn.new w16 ck.codeD #[.int .i64 5, .int .i64 4, .int .i64 29, .int .i64 0] rfl 2 rfl (by decide))
  have HML17 := Lib.hid hml17
  have HBL17 := Lib.hid hbl17
  clear hml17 hbl17
  go_wp2_with fail
  refine HML17.out.mono ?_
  rintro e w17 ⟨ofD, rfl, hm17, hb17⟩
  have hbb17 := HBL17.out.trans (hb17.mono HBL17.out.size)
  have HB17 := Lib.hid (HB16.out.trans (hbb17.mono HB16.out.size))
  have HMD := Lib.hid hm17
  clear hb17 hbb17 HB16 HML17 HBL17 hm17
  have HCK18 := Lib.hid (check_then ck.codeD _ ck.flD ofD w17 HMD.out (HTT.out _ HB17.out) ck.i64D)
  go_wp2_with fail
  refine HCK18.out.mono ?_
  rintro e w18 ⟨rfl, hb18⟩
  have HB18 := Lib.hid (HB17.out.trans (hb18.mono HB17.out.size))
  clear hb18 HCK18 HB17 HMD
  dsimp only
  go_wp2_with fail
  go_ret
  exact ⟨rfl, HB18.out⟩
end Go.Proofs.YtoknolljfeaapaaDoor
