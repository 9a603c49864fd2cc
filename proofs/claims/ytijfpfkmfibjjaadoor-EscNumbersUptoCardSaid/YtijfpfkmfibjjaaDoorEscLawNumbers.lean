/- A control sequence that was made is one Csi of its numbers, whatever text stands around it, and its bytes are as the document says: for every two bytes, and every slice of numbers and slice of bytes that hold together at most 1048576 values. -/
import Derived.Test.YtijfpfkmfibjjaaDoorEscNumbers
import Derived.Test.YtijfpfkmfibjjaaDoorEscLift
namespace Go.Proofs.YtijfpfkmfibjjaaDoor
open Go.ChangeShapes Go.WideShapes Go.ChangeAt Go.RowKit Go.Joins

theorem escNumbers_tabs {W : World} (h : laidMetH Tryd.prog Rows.escNumbersUptoRow.laid W) : UTabs W ∧ PTab W :=
  ⟨tabs_of_reads (Lib.laidMet.reads h (by simp [Rows.escNumbersUptoRow])) (Lib.laidMet.reads h (by simp [Rows.escNumbersUptoRow])), ptab_of_reads (Lib.laidMet.reads h (by simp [Rows.escNumbersUptoRow]))⟩
set_option maxRecDepth 100000 in
theorem escNumbers_met (os : Os) : laidMet Tryd.prog Rows.escNumbersUptoRow.laid ((laidWorld os).forCall (fun _ _ => 0) ⟨#[], #[.int .u8 0, .slice none 0 0, .int .u8 0, .slice none 0 0], []⟩).memory :=
  laidMet_of_run' 8 (by kernel_rfl) (by kernel_rfl)
set_option maxRecDepth 100000 in
theorem escNumbers_reads (os : Os) {H : Type} (enc : TypeId × Value → H) : ∃ places, DataW.whole enc Tryd.prog ((laidWorld os).forCall (fun _ _ => 0) ⟨#[], #[.int .u8 0, .slice none 0 0, .int .u8 0, .slice none 0 0], []⟩).memory Tryd.f6.params.toList Rows.escNumbersSpec.vars false (#[.int .u8 0, .slice none 0 0, .int .u8 0, .slice none 0 0] : Array Value).toList 8 = some ([.lit (.int .u8 0), .nil, .lit (.int .u8 0), .nil], [], places) :=
  ⟨[], by kernel_rfl⟩
set_option maxRecDepth 100000 in
theorem escNumbers_lifted (os : Os) (started : os.Started) (H : Type) (enc : TypeId × Value → H) (F : Stop.Interp) :
    ReturnsInHanded {} Tryd.checked os 6 .any ((Rows.OpenSpec.upto Rows.escNumbersSpec).preRow enc Tryd.prog Tryd.f6 Rows.escNumbersUptoRow.domain false Rows.escNumbersUptoRow.laid) (((Rows.OpenSpec.upto Rows.escNumbersSpec).at F).post enc Tryd.prog Tryd.f6 false true false false) := by
  obtain ⟨places, hx⟩ := escNumbers_reads os enc
  refine returnsInHanded_of_row (C := Tryd.checked) (s := (Rows.OpenSpec.upto Rows.escNumbersSpec)) own started (by kernel_rfl) Tryd.func6
    (witness_row_at (enc := enc) (C := Tryd.checked) false (laidWorld os) #[.int .u8 0, .slice none 0 0, .int .u8 0, .slice none 0 0] rfl (by kernel_rfl) (by kernel_rfl) (by kernel_rfl)
      (OpenSpec.preRow_of_cond 8 hx (by kernel_rfl) (fun k hk => by cases hk; kernel_rfl) (by kernel_rfl) (escNumbers_met os))) ?_
  intro W base args ds gs before hval0 hW _ hcond hreach hL _ _
  have hval : ∀ (j : Nat) t v, Tryd.f6.params[j]? = some t → args[j]? = some v → Value.okWide Tryd.prog W .any base t v := hval0
  have hW' := hW
  obtain ⟨p, q, hA0, hV, rfl, hfz, hnd⟩ := hW
  have hA : DataW.TrodAll enc Tryd.prog W 0 (fun _ => true) true Tryd.f6.params.toList args.toList ds p := hA0
  obtain ⟨rfl, rfl⟩ := trodVars_none hV
  simp only [List.append_nil] at hW'
  have hlt : ∀ x ∈ p, x.block < W.heap.size := fun x hx => by simpa using hW'.lt x hx
  rw [Tryd.params6] at hA hval
  have hk := hcond _ rfl
  rw [List.append_nil] at hk
  have hargs := fun W' (hb : Below W.heap.size W W') => args_below (enc := enc) hb _ _ _ _ (show TsOk [5, 43, 5, 34] from ⟨okByte, ⟨okInts, ⟨okByte, ⟨okBytes, trivial⟩⟩⟩⟩) hlt hA
  obtain ⟨v0, vs0, d0, ds0, p0, q0, hargs0, rfl, rfl, h0, r0⟩ := trodAll_cons hA
  obtain ⟨v1, vs1, d1, ds1, p1, q1, rfl, rfl, rfl, h1, r1⟩ := trodAll_cons r0
  obtain ⟨v2, vs2, d2, ds2, p2, q2, rfl, rfl, rfl, h2, r2⟩ := trodAll_cons r1
  obtain ⟨v3, vs3, d3, ds3, p3, q3, rfl, rfl, rfl, h3, r3⟩ := trodAll_cons r2
  obtain ⟨rfl, rfl, rfl⟩ := trodAll_nil r3
  obtain rfl : args = #[v0, v1, v2, v3] := by cases args; simp_all
  obtain ⟨a0, rfl⟩ := open_u8 (hval 0 5 v0 rfl rfl) h0
  obtain ⟨o1, n1, cap1, zs1, rfl, sz1, ln1⟩ := open_ints_in (hval 1 43 v1 rfl rfl) h1
  have bn1 : n1 ≤ 1048576 := ln1 ▸ len_upto hk (by simp)
  obtain ⟨a2, rfl⟩ := open_u8 (hval 2 5 v2 rfl rfl) h2
  obtain ⟨o3, n3, cap3, zs3, rfl, sz3, ln3⟩ := open_bytes_in (hval 3 34 v3 rfl rfl) h3
  have bn3 : n3 ≤ 1048576 := ln3 ▸ len_upto hk (by simp)
  clear hA0 hval0
  refine (numbers_any a0 o1 n1 cap1 zs1 a2 o3 n3 cap3 zs3 W (escNumbers_tabs hL) sz1 sz3 bn1 bn3).mono fun e W' ⟨he, hb⟩ => ?_
  subst he
  exact ⟨_, rfl, _, _, _, [], _, [], hW', trodAll_mk1 (shut_bool Tryd.underlying4 _), hargs W' hb, rfl, hb.frame _, fun h => by cases h⟩

theorem escNumbers_holds : Rows.EscNumbersUptoSaid :=
  OpenClaim.holds_of_cond 6 Tryd.f6 rfl rfl rfl rfl rfl rfl rfl ⟨rfl, rfl, rfl, rfl, rfl⟩ rfl rfl rfl rfl rfl (by kernel_rfl) Tryd.func6 (by kernel_rfl)
    (of_decide_eq_true (by kernel_rfl)) (by unfold Func.isWrapper; first | (rw [if_pos (by decide +kernel)]; kernel_rfl) | (rw [if_neg (by decide +kernel)]; exact ⟨rfl, rfl⟩))
    (fun os started H enc _ F => by rw [OpenClaim.pre_eq_preRow]; exact escNumbers_lifted os started H enc F)
theorem escNumbers_plain (f : FuncId) (fn : Func) (hf : Tryd.pinned.checked.prog.funcNamed "casement/casementlaw04.EscNumbers" = some f) (hfn : Tryd.pinned.checked.prog.funcs[f]? = some fn) :
    false = Tryd.pinned.checked.prog.looks [] ∧ ∀ (j : Nat) t, fn.params[j]? = some t → Tryd.pinned.checked.prog.wantsStandIn t = false := by
  obtain rfl : f = 6 := Option.some.inj ((show Tryd.prog.funcNamed "casement/casementlaw04.EscNumbers" = some 6 by kernel_rfl).symm.trans hf) |>.symm
  obtain rfl : fn = Tryd.f6 := (Option.some.inj (Tryd.func6.symm.trans hfn)).symm
  refine ⟨by kernel_rfl, fun j t ht => ?_⟩
  rw [Tryd.params6] at ht
  have hm : t ∈ [5, 43, 5, 34] := by simpa using Array.mem_of_getElem? ht
  have hall : ([5, 43, 5, 34].all fun u => !Tryd.prog.wantsStandIn u) = true := by kernel_rfl
  exact (show Tryd.prog.wantsStandIn t = false by simpa using List.all_eq_true.1 hall t hm)
/-- the tied card -/
theorem escNumbers_card : Rows.EscNumbersUptoCardSaid :=
  Claim7.holds_tied_plain_at .later [] _ _ _ _ escNumbers_holds (fun _ h => by cases h) (by kernel_rfl) (fun _ h => by cases h) escNumbersUpto_row_tie rfl ⟨rfl, rfl⟩ (by kernel_rfl) rfl escNumbers_plain (by kernel_rfl)

end Go.Proofs.YtijfpfkmfibjjaaDoor
