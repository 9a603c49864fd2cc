/- The document's Encode. -/
import Derived.Test.YtoknolljfeaapaaDoorMdRefR
import Derived.Test.YtoknolljfeaapaaDoorMdRefB
namespace Go.Proofs.YtoknolljfeaapaaDoor
open Go.RowKit
set_option maxRecDepth 100000 in
set_option maxHeartbeats 1600000 in
theorem rencode_any (D : Nat → Prop) (m : md.Mod) (VD VF : Value) (w : World) (hs : ModIn w D VD VF m) (hD : ∀ k, D k → k < w.heap.size) (hi : md.fnsI m.funcs) :
    Calls Tryd.prog 32 #[modV m VD VF] w fun e w' => EncAns w w' m e := by
  obtain ⟨od, cd, of, cf, rfl, rfl, hd1, hd2, hf1, hf2⟩ := hs.slices
  have hb0 := below_one w (modO m (.slice od m.data.length cd) (.slice of m.funcs.length cf))
  have hs1 := hs.below hb0
  have HB := Lib.hid (And.intro hb0 (heap_alloc_new w (modO m (.slice od m.data.length cd) (.slice of m.funcs.length cf))))
  have HR := Lib.hid (rright_any D m _ _ _ hs1)
  have HE : Hid (md.right m = false → md.err m = 1 ∧ md.enc m = []) := Lib.hid (fun h => by
    have e1 : md.err m = 1 := by unfold md.err; rw [h]; rfl
    exact ⟨e1, by unfold md.enc; rw [e1]; rfl⟩)
  have HL : Hid (md.right m = true → 4096 < (md.write m).length → md.err m = 2 ∧ md.enc m = []) := Lib.hid (fun h h2 => by
    have e1 : md.err m = 2 := by unfold md.err; rw [if_pos h, if_pos h2]
    exact ⟨e1, by unfold md.enc; rw [e1]; rfl⟩)
  have HO : Hid (md.right m = true → ¬ 4096 < (md.write m).length → md.err m = 0 ∧ md.enc m = md.write m) := Lib.hid (fun h h2 => by
    have e1 : md.err m = 0 := by unfold md.err; rw [if_pos h, if_neg h2]
    exact ⟨e1, by unfold md.enc; rw [e1]; rfl⟩)
  have HWR := Lib.hid (fun (hr : md.right m = true) W h2 h3 => rbytes_any D m (.slice od m.data.length cd) (.slice of m.funcs.length cf) W h2 h3 hr hi)
  have HS1 := Lib.hid hs1
  clear hs hs1 hb0
  unfold EncAns
  obtain ⟨mem, d, fs⟩ := m
  dsimp only at hd1 hf1
  generalize md.right ⟨mem, d, fs⟩ = R at *
  go_enter Tryd.func32, Tryd.ntmps32
  go_wp2_with fail
  refine HR.out.mono ?_
  rintro e w2 ⟨rfl, hb2⟩
  have HB2 := Lib.hid (And.intro (HB.out.1.trans (hb2.mono HB.out.1.size)) ((hb2.block _ (heap_lt HB.out.2)).trans HB.out.2))
  have HS2 := Lib.hid (HS1.out.below hb2)
  clear hb2 HR HS1 HB
  cases R with
  | false =>
    have h2 := HE.out rfl
    have HZ := Lib.hid h2
    clear h2 HE HL HO HWR
    go_wp2_with fail
    go_ret2
    refine ⟨.slice none 0 0, by rw [HZ.out.1]; rfl, ?_, HB2.out.1⟩
    rw [HZ.out.2]
    exact World.ownsRow_nil _ _ _ _
  | true =>
    have k0 : w2.cell? ⟨w.heap.size, 0, none⟩ = some (.int .i64 mem) := (cell_of_heap HB2.out.2).trans rfl
    have k1 : w2.cell? ⟨w.heap.size, 1, none⟩ = some (.slice od d.length cd) := (cell_of_heap HB2.out.2).trans rfl
    have k2 : w2.cell? ⟨w.heap.size, 2, none⟩ = some (.slice of fs.length cf) := (cell_of_heap HB2.out.2).trans rfl
    have hlt := heap_lt HB2.out.2
    go_wp2_with fail
    refine (HWR.out trivial w2 HS2.out (fun k hk => Nat.lt_trans (hD k hk) hlt)).mono ?_
    rintro e w3 ⟨v3, rfl, r1, r2⟩
    have H3 := Lib.hid (And.intro (own_base r1 (Nat.le_of_lt hlt)) (HB2.out.1.trans (r2.mono (Nat.le_of_lt hlt))))
    have HL2 := Lib.hid (HL.out trivial)
    have HO2 := Lib.hid (HO.out trivial)
    clear r1 r2 HE HL HO HWR k0 k1 k2
    generalize md.write ⟨mem, d, fs⟩ = WR at *
    obtain ⟨ao, ac, rfl⟩ := own_slice H3.out.1
    by_cases hl : 4096 < WR.length
    · have hli : (4096 : Int) < (WR.length : Int) := by omega
      have HZ := Lib.hid (HL2.out hl)
      clear HO2 HL2
      go_wp2_with fail
      go_ret2
      refine ⟨.slice none 0 0, by rw [HZ.out.1]; rfl, ?_, H3.out.2⟩
      rw [HZ.out.2]
      exact World.ownsRow_nil _ _ _ _
    · have hli : ¬ (4096 : Int) < (WR.length : Int) := by omega
      have HZ := Lib.hid (HO2.out hl)
      clear HO2 HL2
      go_wp2_with fail
      go_ret2
      refine ⟨_, by rw [HZ.out.1]; rfl, ?_, H3.out.2⟩
      rw [HZ.out.2]
      exact H3.out.1
end Go.Proofs.YtoknolljfeaapaaDoor
