/- Decode. -/
import Derived.Test.YtibpbnffennmeaaMdMod
namespace Go.Proofs.Ytibpbnffennmeaa
open Go.RowKit
theorem results_two_cells {P : Program} {fn : Func} {p u : Tmp} {ty tz : TypeId} (h : fn.results = #[.cell p ty, .cell u tz]) (tmps : Array Value) (w : World) (g k : Nat) (t t' : TypeId) (cs ds : Array Value) (fr fr' : Nat × Nat) (d d' : TypeDesc)
    (hp : tmps.getD p undef = .pointer (some ⟨g, 0, none⟩)) (hg : w.heap[g]? = some (.cells cs t fr)) (hu : P.underlying ty = some d) (hd : (match d with | .struct _ | .array _ _ => true | _ => false) = true) (hi : (P.info? ty).map (·.size) = some cs.size)
    (hp' : tmps.getD u undef = .pointer (some ⟨k, 0, none⟩)) (hg' : w.heap[k]? = some (.cells ds t' fr')) (hu' : P.underlying tz = some d') (hd' : (match d' with | .struct _ | .array _ _ => true | _ => false) = true) (hi' : (P.info? tz).map (·.size) = some ds.size) :
    (results fn tmps).run P w = .ok (.tuple #[.agg cs, .agg ds]) w := by
  have e : (results fn tmps).run P w = ((asAddr (tmps.getD p undef)).run P w).andThen fun a w₁ => ((loadVar ty a).run P w₁).andThen fun v w₂ => ((asAddr (tmps.getD u undef)).run P w₂).andThen fun b w₃ => ((loadVar tz b).run P w₃).andThen fun x w₄ => .ok (.tuple #[v, x]) w₄ := by
    simp only [results, h]
    simp [Sem.run_bind, Result.andThen]
  rw [e, hp, hp']
  simp [asAddr, run_loadVar_row w g t ty cs fr d hg hu hd hi, run_loadVar_row w k t' tz ds fr' d' hg' hu' hd' hi', Result.andThen]
abbrev fltZ : Obj := .cells #[.int .i64 0, .int .i64 0] 29
abbrev setMod (X : World) (b : Nat) (a0 a1 a2 : Value) : World := ((X.setCell ⟨b, 0, none⟩ a0).setCell ⟨b, 1, none⟩ a1).setCell ⟨b, 2, none⟩ a2
abbrev setFlt (X : World) (b : Nat) (c x : Int) : World := (X.setCell ⟨b, 0, none⟩ (.int .i64 c)).setCell ⟨b, 1, none⟩ (.int .i64 x)
theorem setMod_far (X : World) (b : Nat) (a0 a1 a2 : Value) (k : Nat) (hk : k ≠ b) : (setMod X b a0 a1 a2).heap[k]? = X.heap[k]? :=
  (Below.heap_setCell _ ⟨b, 2, none⟩ a2 k hk).trans ((Below.heap_setCell _ ⟨b, 1, none⟩ a1 k hk).trans (Below.heap_setCell X ⟨b, 0, none⟩ a0 k hk))
theorem setFlt_far (X : World) (b : Nat) (c x : Int) (k : Nat) (hk : k ≠ b) : (setFlt X b c x).heap[k]? = X.heap[k]? :=
  (Below.heap_setCell _ ⟨b, 1, none⟩ _ k hk).trans (Below.heap_setCell X ⟨b, 0, none⟩ _ k hk)
/-- the two boxes of an answer, filled -/
theorem fill_two {w X : World} {z m : Nat} (hzm : z ≠ m) (hz : X.heap[z]? = some modZ) (hm : X.heap[m]? = some fltZ) (hf : Below w.heap.size w X) (h1 : w.heap.size ≤ z) (h2 : w.heap.size ≤ m) (a0 a1 a2 : Value) (c x : Int) :
    (setFlt (setMod X z a0 a1 a2) m c x).heap[z]? = some (.cells #[a0, a1, a2] 26 (0, 0)) ∧ (setFlt (setMod X z a0 a1 a2) m c x).heap[m]? = some (.cells #[.int .i64 c, .int .i64 x] 29 (0, 0)) ∧ Below w.heap.size w (setFlt (setMod X z a0 a1 a2) m c x) := by
  refine ⟨(setFlt_far _ m c x z hzm).trans (store3 hz a0 a1 a2), store2 ((setMod_far X z a0 a1 a2 m (Ne.symm hzm)).trans hm) _ _, ?_⟩
  exact ((((hf.setCell h1 _).setCell h1 _).setCell h1 _).setCell h2 _).setCell h2 _
theorem ModO.away {w w' : World} {B : Nat} {VD VF : Value} {m : md.Mod} (h : ModO w B VD VF m) (hk : ∀ (g : Nat) (cur : Array Value) (T : TypeId), T ≠ 26 → T ≠ 29 → w.heap[g]? = some (.cells cur T (0, 0)) → w'.heap[g]? = w.heap[g]?) : ModO w' B VD VF m := by
  obtain ⟨hd, cs, hr, hf⟩ := h
  exact ⟨own_keep hd (fun g cur _ _ _ hc => hk g cur _ (by decide) (by decide) hc), cs, own_keep hr (fun g cur _ _ _ hc => hk g cur _ (by decide) (by decide) hc), FnsO.keep (Nat.le_refl _) (fun k cur _ hc => hk k cur _ (by decide) (by decide) hc) _ _ hf⟩
/-- what Decode answers -/
def DecAns (w w' : World) (b : List UInt8) (e : Ending) : Prop := ∃ VD VF, e = .returned (.tuple #[modV (md.dec b) VD VF, .agg #[.int .i64 (md.code b : Nat), .int .i64 (md.place b : Nat)]]) ∧ ModO w' w.heap.size VD VF (md.dec b) ∧ Below w.heap.size w w'
set_option maxRecDepth 100000 in
set_option maxHeartbeats 3200000 in
theorem decode_any (D : Nat → Prop) (V : Value) (b : List UInt8) (w : World) (h : BsIn w D V b) :
    Calls Try.prog 5 #[V] w fun e w' => DecAns w w' b e := by
  obtain ⟨o, cap, rfl, hl1, hl2, -⟩ := id h
  unfold DecAns
  have hb1 := below_one w modZ
  have hn1 := heap_alloc_new w modZ
  have hs1 := World.size_alloc w modZ
  have hb2 := below_one (w.alloc modZ) fltZ
  have hn2 := heap_alloc_new (w.alloc modZ) fltZ
  have hs2 := World.size_alloc (w.alloc modZ) fltZ
  rw [hs1] at hn2
  have HBB : Hid (Below w.heap.size w ((w.alloc modZ).alloc fltZ)) := Lib.hid (hb1.trans (hb2.mono (by simp)))
  have HZ : Hid (((w.alloc modZ).alloc fltZ).heap[w.heap.size]? = some modZ ∧ ((w.alloc modZ).alloc fltZ).heap[w.heap.size + 1]? = some fltZ) := Lib.hid ⟨(hb2.block _ (by simp)).trans hn1, hn2⟩
  have hin := RowIn.below (RowIn.below h hb1) hb2
  have HIN := Lib.hid (show BsIn ((w.alloc modZ).alloc fltZ) (fun k => k < w.heap.size + 2) (.slice o b.length cap) b from by
    obtain ⟨o', cap', e, g1, g2, g3, g4⟩ := hin
    refine ⟨o', cap', e, g1, g2, g3, g4.imp id ?_⟩
    rintro ⟨bb, off, e1, -, hlt, hc⟩
    refine ⟨bb, off, e1, ?_, hlt, hc⟩
    rw [hs2, hs1] at hlt
    exact hlt)
  have HSZ : Hid (((w.alloc modZ).alloc fltZ).heap.size = w.heap.size + 2) := Lib.hid (by rw [hs2, hs1])
  clear hb1 hn1 hs1 hb2 hn2 hs2 hin h
  go_enter Try.func5, Try.ntmps5
  go_upto_region 1 with fail
  generalize (w.alloc modZ).alloc fltZ = w2 at *
  by_cases hlong : 4096 < b.length
  · have hli : (4096 : Int) < (b.length : Int) := by omega
    have HC : Hid (md.code b = 2 ∧ md.place b = 0 ∧ md.dec b = md.zero) := Lib.hid (by
      have e1 : md.code b = 2 := by unfold md.code; rw [if_pos hlong]
      refine ⟨e1, by unfold md.place; rw [if_pos hlong], ?_⟩
      unfold md.dec
      rw [e1]
      rfl)
    have hz := HZ.out.1
    have hm := HZ.out.2
    have d0 : w2.cell? ⟨w.heap.size, 0, none⟩ = some (.int .i64 0) := (cell_of_heap hz).trans rfl
    have d1 : w2.cell? ⟨w.heap.size, 1, none⟩ = some (.slice none 0 0) := (cell_of_heap hz).trans rfl
    have d2 : w2.cell? ⟨w.heap.size, 2, none⟩ = some (.slice none 0 0) := (cell_of_heap hz).trans rfl
    have e0 := thaw (k := 0) hz
    have e1 := thaw (k := 1) hz
    have e2 := thaw (k := 2) hz
    have d3 : w2.cell? ⟨w.heap.size + 1, 0, none⟩ = some (.int .i64 0) := (cell_of_heap hm).trans rfl
    have d4 : w2.cell? ⟨w.heap.size + 1, 1, none⟩ = some (.int .i64 0) := (cell_of_heap hm).trans rfl
    have e3 := thaw (k := 0) hm
    have e4 := thaw (k := 1) hm
    have hlt2 := heap_lt hm
    have HF := Lib.hid (fill_two (Nat.ne_of_lt (Nat.lt_succ_self w.heap.size)) hz hm HBB.out (Nat.le_refl _) (Nat.le_succ _) (.int .i64 0) (.slice none 0 0) (.slice none 0 0) 2 0)
    clear hz hm HZ HIN hl1 hlong
    generalize b.length = n at *
    go_wp2_with fail
    refine bodyPost_ret (results_two_cells rfl _ _ w.heap.size (w.heap.size + 1) 26 29 _ _ (0, 0) (0, 0) _ _ rfl HF.out.1 Try.underlying26 rfl (by kernel_rfl) rfl HF.out.2.1 Try.underlying29 rfl (by kernel_rfl)) rfl ?_
    rw [HC.out.1, HC.out.2.1, HC.out.2.2]
    exact ⟨_, _, rfl, ModO.zero _ _, HF.out.2.2⟩
  · have hli : ¬ (4096 : Int) < (b.length : Int) := by omega
    have hb3 := below_one w2 (.cells #[.slice o b.length cap, .bool false] 43)
    have hn3 := heap_alloc_new w2 (.cells #[.slice o b.length cap, .bool false] 43)
    have hs3 := World.size_alloc w2 (.cells #[.slice o b.length cap, .bool false] 43)
    rw [HSZ.out] at hn3 hs3
    have hrd : RdAt (w2.alloc (.cells #[.slice o b.length cap, .bool false] 43)) (w.heap.size + 2) ⟨b, false⟩ := ⟨o, cap, hn3, RowIn.below HIN.out hb3⟩
    have H3 := Lib.hid (And.intro ((hb3.block _ (heap_lt HZ.out.1)).trans HZ.out.1) (And.intro ((hb3.block _ (heap_lt HZ.out.2)).trans HZ.out.2) (HBB.out.trans (hb3.mono HBB.out.size))))
    have HS3 := Lib.hid hs3
    have HMOD := Lib.hid (module_any (w.heap.size + 2) ⟨b, false⟩ _ hrd)
    have HCC := Lib.hid (show md.code b = (if md.flaw b = true then 120 else 0) by unfold md.code; rw [if_neg hlong])
    have HPP := Lib.hid (show md.place b = (if md.flaw b = true then b.length - (md.module_ ⟨b, false⟩).2.rest.length else 0) by unfold md.place; rw [if_neg hlong])
    have HFL : Hid (md.flaw b = ((md.module_ ⟨b, false⟩).2.bad || decide (0 < (md.module_ ⟨b, false⟩).2.rest.length))) := Lib.hid rfl
    have HDD : Hid (md.dec b = if md.code b = 0 then (md.module_ ⟨b, false⟩).1 else md.zero) := Lib.hid rfl
    have HSUF := Lib.hid (md.Good.module_.suf ⟨b, false⟩).length_le
    generalize md.module_ ⟨b, false⟩ = Y at *
    obtain ⟨m, ⟨rest, bad⟩⟩ := Y
    dsimp only at HMOD HFL HPP HDD HSUF
    have hw2 : w2.heap.size = w.heap.size + 2 := HSZ.out
    clear hb3 hn3 hrd HZ HIN HBB HSZ hs3
    go_upto_region 4 with fail
    generalize w2.alloc (.cells #[.slice o b.length cap, .bool false] 43) = w3 at *
    go_wp2_with fail
    refine HMOD.out.mono ?_
    rintro e w4 ⟨VD, VF, rfl, hm4, hr4, hf4⟩
    have b0 := (hf4.block _ (heap_lt H3.out.1) (show ¬ _ = w.heap.size + 2 by omega)).trans H3.out.1
    have b1 := (hf4.block _ (heap_lt H3.out.2.1) (show ¬ _ = w.heap.size + 2 by omega)).trans H3.out.2.1
    have hbl4 : Below w.heap.size w w4 := H3.out.2.2.trans (hf4.to_below w.heap.size H3.out.2.2.size (fun k hk => show ¬ k = w.heap.size + 2 by omega))
    have hm4' : ModO w4 w.heap.size VD VF m := hm4.base (by rw [HS3.out]; omega)
    obtain ⟨cs, hr, -⟩ := hm4'.fns
    obtain ⟨ao, ac, rfl⟩ := own_slice hr
    obtain ⟨aoD, acD, rfl⟩ := own_slice hm4'.data
    obtain ⟨mem, d, fs⟩ := m
    dsimp only at hr hm4'
    have hb5 := below_one w4 (.cells #[.int .i64 mem, .slice aoD d.length acD, .slice ao fs.length ac] 26)
    have hn5 := heap_alloc_new w4 (.cells #[.int .i64 mem, .slice aoD d.length acD, .slice ao fs.length ac] 26)
    have H5 := Lib.hid (And.intro ((hb5.block _ (heap_lt b0)).trans b0) (And.intro ((hb5.block _ (heap_lt b1)).trans b1) (And.intro hn5 (And.intro (hr4.below hb5) (And.intro (hm4'.below hb5) (hbl4.trans (hb5.mono hbl4.size)))))))
    have hs4 : w.heap.size + 2 < w4.heap.size := hr4.lt
    clear b0 b1 hbl4 hm4 hm4' hr hr4 hf4 hb5 hn5 HMOD H3 HS3 cs hw2
    go_upto_region 5 with fail
    generalize w4.alloc (.cells #[.int .i64 mem, .slice aoD d.length acD, .slice ao fs.length ac] 26) = w5 at *
    generalize w4.heap.size = q at *
    obtain ⟨or, cr, hrb, -⟩ := H5.out.2.2.2.1.ex
    dsimp only at hrb
    have r0 : w5.cell? ⟨w.heap.size + 2, 0, none⟩ = some (.slice or rest.length cr) := (cell_of_heap hrb).trans rfl
    have r1 : w5.cell? ⟨w.heap.size + 2, 1, none⟩ = some (.bool bad) := (cell_of_heap hrb).trans rfl
    have hlr := heap_lt hrb
    clear hrb
    have hz := H5.out.1
    have hm := H5.out.2.1
    have d0 : w5.cell? ⟨w.heap.size, 0, none⟩ = some (.int .i64 0) := (cell_of_heap hz).trans rfl
    have d1 : w5.cell? ⟨w.heap.size, 1, none⟩ = some (.slice none 0 0) := (cell_of_heap hz).trans rfl
    have d2 : w5.cell? ⟨w.heap.size, 2, none⟩ = some (.slice none 0 0) := (cell_of_heap hz).trans rfl
    have e0 := thaw (k := 0) hz
    have e1 := thaw (k := 1) hz
    have e2 := thaw (k := 2) hz
    have d3 : w5.cell? ⟨w.heap.size + 1, 0, none⟩ = some (.int .i64 0) := (cell_of_heap hm).trans rfl
    have d4 : w5.cell? ⟨w.heap.size + 1, 1, none⟩ = some (.int .i64 0) := (cell_of_heap hm).trans rfl
    have e3 := thaw (k := 0) hm
    have e4 := thaw (k := 1) hm
    have hlt2 := heap_lt hm
    have HAW : ∀ (X : World) (m0 m1 m2 : Value) (c x : Int), X.heap = w5.heap → ∀ (g : Nat) (cur : Array Value) (T : TypeId), T ≠ 26 → T ≠ 29 → w5.heap[g]? = some (.cells cur T (0, 0)) → (setFlt (setMod X w.heap.size m0 m1 m2) (w.heap.size + 1) c x).heap[g]? = w5.heap[g]? := fun X m0 m1 m2 c x hX g cur T hT1 hT2 hc => by
      rw [setFlt_far _ _ _ _ g (by rintro rfl; rw [hm] at hc; injection hc with hc; injection hc with _ e2; exact hT2 e2.symm), setMod_far _ _ _ _ _ g (by rintro rfl; rw [hz] at hc; injection hc with hc; injection hc with _ e2; exact hT1 e2.symm), hX]
    cases hfl : md.flaw b with
    | false =>
      have hboth := HFL.out.symm.trans hfl
      rw [Bool.or_eq_false_iff, decide_eq_false_iff_not] at hboth
      obtain ⟨hb0, hr0⟩ := hboth
      have hrl : rest.length = 0 := by omega
      have HC : Hid (md.code b = 0 ∧ md.place b = 0 ∧ md.dec b = ⟨mem, d, fs⟩) := Lib.hid (by
        have c0 : md.code b = 0 := by rw [HCC.out, hfl]; rfl
        refine ⟨c0, by rw [HPP.out, hfl]; rfl, ?_⟩
        rw [HDD.out, if_pos c0])
      rw [hrl] at r0
      rw [hb0] at r1
      have k0 : w5.cell? ⟨q, 0, none⟩ = some (.int .i64 mem) := (cell_of_heap H5.out.2.2.1).trans rfl
      have k1 : w5.cell? ⟨q, 1, none⟩ = some (.slice aoD d.length acD) := (cell_of_heap H5.out.2.2.1).trans rfl
      have k2 : w5.cell? ⟨q, 2, none⟩ = some (.slice ao fs.length ac) := (cell_of_heap H5.out.2.2.1).trans rfl
      have hq5 := heap_lt H5.out.2.2.1
      have HF := Lib.hid (And.intro (fill_two (Nat.ne_of_lt (Nat.lt_succ_self w.heap.size)) hz hm H5.out.2.2.2.2.2 (Nat.le_refl _) (Nat.le_succ _) (.int .i64 mem) (.slice aoD d.length acD) (.slice ao fs.length ac) 0 0) (H5.out.2.2.2.2.1.away (HAW w5 (.int .i64 mem) (.slice aoD d.length acD) (.slice ao fs.length ac) 0 0 rfl)))
      clear hz hm HAW HFL HCC HPP HDD HSUF hfl hb0 hr0 hrl H5
      go_wp2_with fail
      refine bodyPost_ret (results_two_cells rfl _ _ w.heap.size (w.heap.size + 1) 26 29 _ _ (0, 0) (0, 0) _ _ rfl HF.out.1.1 Try.underlying26 rfl (by kernel_rfl) rfl HF.out.1.2.1 Try.underlying29 rfl (by kernel_rfl)) rfl ?_
      rw [HC.out.1, HC.out.2.1, HC.out.2.2]
      exact ⟨_, _, rfl, HF.out.2, HF.out.1.2.2⟩
    | true =>
      have hboth := HFL.out.symm.trans hfl
      have HC : Hid (md.code b = 120 ∧ md.place b = b.length - rest.length ∧ md.dec b = md.zero) := Lib.hid (by
        have c0 : md.code b = 120 := by rw [HCC.out, hfl]; rfl
        refine ⟨c0, by rw [HPP.out, hfl]; rfl, ?_⟩
        rw [HDD.out, c0]
        rfl)
      have hsuf := HSUF.out
      have hw1 : IntKind.i64.wrap ((b.length : Int) - (rest.length : Int)) = ((b.length - rest.length : Nat) : Int) := by rw [IntKind.wrap_i64]; omega
      have hft := fill_two (Nat.ne_of_lt (Nat.lt_succ_self w.heap.size)) hz hm H5.out.2.2.2.2.2 (Nat.le_refl _) (Nat.le_succ _) (.int .i64 0) (.slice none 0 0) (.slice none 0 0) 120 ((b.length - rest.length : Nat) : Int)
      have HF : Hid ((setFlt (setMod w5 w.heap.size (.int .i64 0) (.slice none 0 0) (.slice none 0 0)) (w.heap.size + 1) 120 ((b.length - rest.length : Nat) : Int)).drew.heap[w.heap.size]? = some (.cells #[.int .i64 0, .slice none 0 0, .slice none 0 0] 26 (0, 0)) ∧ (setFlt (setMod w5 w.heap.size (.int .i64 0) (.slice none 0 0) (.slice none 0 0)) (w.heap.size + 1) 120 ((b.length - rest.length : Nat) : Int)).drew.heap[w.heap.size + 1]? = some (.cells #[.int .i64 120, .int .i64 ((b.length - rest.length : Nat) : Int)] 29 (0, 0)) ∧ Below w.heap.size w (setFlt (setMod w5 w.heap.size (.int .i64 0) (.slice none 0 0) (.slice none 0 0)) (w.heap.size + 1) 120 ((b.length - rest.length : Nat) : Int)).drew) :=
        Lib.hid ⟨hft.1, hft.2.1, below_dN hft.2.2 1⟩
      clear hft
      clear hz hm HAW HFL HCC HPP HDD HSUF hfl H5
      generalize b.length - rest.length = place at *
      generalize rest.length = nr at *
      generalize b.length = nb at *
      cases bad with
      | true =>
        clear hboth
        go_upto_region 6 with fail
        go_region
        all_goals
          go_wp2_with fail
          refine bodyPost_ret (results_two_cells rfl _ _ w.heap.size (w.heap.size + 1) 26 29 _ _ (0, 0) (0, 0) _ _ rfl HF.out.1 Try.underlying26 rfl (by kernel_rfl) rfl HF.out.2.1 Try.underlying29 rfl (by kernel_rfl)) rfl ?_
          rw [HC.out.1, HC.out.2.1, HC.out.2.2]
          exact ⟨_, _, rfl, ModO.zero _ _, HF.out.2.2⟩
      | false =>
        have hr0 : 0 < nr := by simpa using hboth
        have hri : (0 : Int) < (nr : Int) := by omega
        clear hboth
        go_upto_region 6 with fail
        go_region
        all_goals
          go_wp2_with fail
          refine bodyPost_ret (results_two_cells rfl _ _ w.heap.size (w.heap.size + 1) 26 29 _ _ (0, 0) (0, 0) _ _ rfl HF.out.1 Try.underlying26 rfl (by kernel_rfl) rfl HF.out.2.1 Try.underlying29 rfl (by kernel_rfl)) rfl ?_
          rw [HC.out.1, HC.out.2.1, HC.out.2.2]
          exact ⟨_, _, rfl, ModO.zero _ _, HF.out.2.2⟩
end Go.Proofs.Ytibpbnffennmeaa
