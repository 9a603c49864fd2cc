/- However bytes are cut, all pieces together say what the bytes say at once: for every slice of bytes and every slice of cuts that hold together at most 1048576 values. -/
import Derived.Test.YtijfpfkmfibjjaaDoorEscParts
import Derived.Test.YtijfpfkmfibjjaaDoorEscLift
namespace Go.Proofs.YtijfpfkmfibjjaaDoor
open Go.ChangeShapes Go.WideShapes Go.ChangeAt Go.RowKit Go.Joins

theorem escParts_tabs {W : World} (h : laidMetH Tryd.prog Rows.escPartsUptoRow.laid W) : UTabs W ∧ PTab W :=
  ⟨tabs_of_reads (Lib.laidMet.reads h (by simp [Rows.escPartsUptoRow])) (Lib.laidMet.reads h (by simp [Rows.escPartsUptoRow])), ptab_of_reads (Lib.laidMet.reads h (by simp [Rows.escPartsUptoRow]))⟩
set_option maxRecDepth 100000 in
theorem escParts_met (os : Os) : laidMet Tryd.prog Rows.escPartsUptoRow.laid ((laidWorld os).forCall (fun _ _ => 0) ⟨#[], #[.slice none 0 0, .slice none 0 0], []⟩).memory :=
  laidMet_of_run' 8 (by kernel_rfl) (by kernel_rfl)
set_option maxRecDepth 100000 in
theorem escParts_reads (os : Os) {H : Type} (enc : TypeId × Value → H) : ∃ places, DataW.whole enc Tryd.prog ((laidWorld os).forCall (fun _ _ => 0) ⟨#[], #[.slice none 0 0, .slice none 0 0], []⟩).memory Tryd.f4.params.toList Rows.escPartsSpec.vars false (#[.slice none 0 0, .slice none 0 0] : Array Value).toList 8 = some ([.nil, .nil], [], places) :=
  ⟨[], by kernel_rfl⟩
set_option maxRecDepth 100000 in
theorem escParts_lifted (os : Os) (started : os.Started) (H : Type) (enc : TypeId × Value → H) (F : Stop.Interp) :
    ReturnsInHanded {} Tryd.checked os 4 .any ((Rows.OpenSpec.upto Rows.escPartsSpec).preRow enc Tryd.prog Tryd.f4 Rows.escPartsUptoRow.domain false Rows.escPartsUptoRow.laid) (((Rows.OpenSpec.upto Rows.escPartsSpec).at F).post enc Tryd.prog Tryd.f4 false true false false) := by
  obtain ⟨places, hx⟩ := escParts_reads os enc
  refine returnsInHanded_of_row (C := Tryd.checked) (s := (Rows.OpenSpec.upto Rows.escPartsSpec)) own started (by kernel_rfl) Tryd.func4
    (witness_row_at (enc := enc) (C := Tryd.checked) false (laidWorld os) #[.slice none 0 0, .slice none 0 0] rfl (by kernel_rfl) (by kernel_rfl) (by kernel_rfl)
      (OpenSpec.preRow_of_cond 8 hx (by kernel_rfl) (fun k hk => by cases hk; kernel_rfl) (by kernel_rfl) (escParts_met os))) ?_
  intro W base args ds gs before hval0 hW _ hcond hreach hL _ _
  have hval : ∀ (j : Nat) t v, Tryd.f4.params[j]? = some t → args[j]? = some v → Value.okWide Tryd.prog W .any base t v := hval0
  have hW' := hW
  obtain ⟨p, q, hA0, hV, rfl, hfz, hnd⟩ := hW
  have hA : DataW.TrodAll enc Tryd.prog W 0 (fun _ => true) true Tryd.f4.params.toList args.toList ds p := hA0
  obtain ⟨rfl, rfl⟩ := trodVars_none hV
  simp only [List.append_nil] at hW'
  have hlt : ∀ x ∈ p, x.block < W.heap.size := fun x hx => by simpa using hW'.lt x hx
  rw [Tryd.params4] at hA hval
  have hk := hcond _ rfl
  rw [List.append_nil] at hk
  have hargs := fun W' (hb : Below W.heap.size W W') => args_below (enc := enc) hb _ _ _ _ (show TsOk [34, 43] from ⟨okBytes, ⟨okInts, trivial⟩⟩) hlt hA
  obtain ⟨v0, vs0, d0, ds0, p0, q0, hargs0, rfl, rfl, h0, r0⟩ := trodAll_cons hA
  obtain ⟨v1, vs1, d1, ds1, p1, q1, rfl, rfl, rfl, h1, r1⟩ := trodAll_cons r0
  obtain ⟨rfl, rfl, rfl⟩ := trodAll_nil r1
  obtain rfl : args = #[v0, v1] := by cases args; simp_all
  obtain ⟨o0, n0, cap0, zs0, rfl, sz0, ln0⟩ := open_bytes_in (hval 0 34 v0 rfl rfl) h0
  have bn0 : n0 ≤ 1048576 := ln0 ▸ len_upto hk (by simp)
  obtain ⟨o1, n1, cap1, zs1, rfl, sz1, ln1⟩ := open_ints_in (hval 1 43 v1 rfl rfl) h1
  have bn1 : n1 ≤ 1048576 := ln1 ▸ len_upto hk (by simp)
  clear hA0 hval0
  refine (parts_any o0 n0 cap0 zs0 o1 n1 cap1 zs1 W (escParts_tabs hL) sz0 sz1 bn0 bn1).mono fun e W' ⟨he, hb⟩ => ?_
  subst he
  exact ⟨_, rfl, _, _, _, [], _, [], hW', trodAll_mk1 (shut_bool Tryd.underlying4 _), hargs W' hb, rfl, hb.frame _, fun h => by cases h⟩

theorem escParts_holds : Rows.EscPartsUptoSaid :=
  OpenClaim.holds_of_cond 4 Tryd.f4 rfl rfl rfl rfl rfl rfl rfl ⟨rfl, rfl, rfl, rfl, rfl⟩ rfl rfl rfl rfl rfl (by kernel_rfl) Tryd.func4 (by kernel_rfl)
    (of_decide_eq_true (by kernel_rfl)) (by unfold Func.isWrapper; first | (rw [if_pos (by decide +kernel)]; kernel_rfl) | (rw [if_neg (by decide +kernel)]; exact ⟨rfl, rfl⟩))
    (fun os started H enc _ F => by rw [OpenClaim.pre_eq_preRow]; exact escParts_lifted os started H enc F)
theorem escParts_plain (f : FuncId) (fn : Func) (hf : Tryd.pinned.checked.prog.funcNamed "casement/casementlaw04.EscParts" = some f) (hfn : Tryd.pinned.checked.prog.funcs[f]? = some fn) :
    false = Tryd.pinned.checked.prog.looks [] ∧ ∀ (j : Nat) t, fn.params[j]? = some t → Tryd.pinned.checked.prog.wantsStandIn t = false := by
  obtain rfl : f = 4 := Option.some.inj ((show Tryd.prog.funcNamed "casement/casementlaw04.EscParts" = some 4 by kernel_rfl).symm.trans hf) |>.symm
  obtain rfl : fn = Tryd.f4 := (Option.some.inj (Tryd.func4.symm.trans hfn)).symm
  refine ⟨by kernel_rfl, fun j t ht => ?_⟩
  rw [Tryd.params4] at ht
  have hm : t ∈ [34, 43] := by simpa using Array.mem_of_getElem? ht
  have hall : ([34, 43].all fun u => !Tryd.prog.wantsStandIn u) = true := by kernel_rfl
  exact (show Tryd.prog.wantsStandIn t = false by simpa using List.all_eq_true.1 hall t hm)
/-- the tied card -/
theorem escParts_card : Rows.EscPartsUptoCardSaid :=
  Claim7.holds_tied_plain_at .later [] _ _ _ _ escParts_holds (fun _ h => by cases h) (by kernel_rfl) (fun _ h => by cases h) escPartsUpto_row_tie rfl ⟨rfl, rfl⟩ (by kernel_rfl) rfl escParts_plain (by kernel_rfl)

end Go.Proofs.YtijfpfkmfibjjaaDoor
