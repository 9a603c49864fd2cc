/- An escape, at most two bytes from 32 to 47, and one from 48 to 126 say just that, unless they begin something longer: for every slice of bytes and every byte. -/
import Derived.Test.YtijfpfkmfibjjaaDoorEscSimple
import Derived.Test.YtijfpfkmfibjjaaDoorEscLift
namespace Go.Proofs.YtijfpfkmfibjjaaDoor
open Go.ChangeShapes Go.WideShapes Go.ChangeAt Go.RowKit Go.Joins

theorem escSimple_tabs {W : World} (h : laidMetH Tryd.prog Rows.escSimpleRow.laid W) : UTabs W ∧ PTab W :=
  ⟨tabs_of_reads (Lib.laidMet.reads h (by simp [Rows.escSimpleRow])) (Lib.laidMet.reads h (by simp [Rows.escSimpleRow])), ptab_of_reads (Lib.laidMet.reads h (by simp [Rows.escSimpleRow]))⟩
set_option maxRecDepth 100000 in
theorem escSimple_met (os : Os) : laidMet Tryd.prog Rows.escSimpleRow.laid ((laidWorld os).forCall (fun _ _ => 0) ⟨#[], #[.slice none 0 0, .int .u8 0], []⟩).memory :=
  laidMet_of_run' 8 (by kernel_rfl) (by kernel_rfl)
set_option maxRecDepth 100000 in
theorem escSimple_reads (os : Os) {H : Type} (enc : TypeId × Value → H) : ∃ places, DataW.whole enc Tryd.prog ((laidWorld os).forCall (fun _ _ => 0) ⟨#[], #[.slice none 0 0, .int .u8 0], []⟩).memory Tryd.f9.params.toList Rows.escSimpleSpec.vars false (#[.slice none 0 0, .int .u8 0] : Array Value).toList 8 = some ([.nil, .lit (.int .u8 0)], [], places) :=
  ⟨[], by kernel_rfl⟩
set_option maxRecDepth 100000 in
theorem escSimple_lifted (os : Os) (started : os.Started) (H : Type) (enc : TypeId × Value → H) (F : Stop.Interp) :
    ReturnsInHanded {} Tryd.checked os 9 .any ((OpenSpec.ofChange Rows.escSimpleSpec).preRow enc Tryd.prog Tryd.f9 Rows.escSimpleRow.domain false Rows.escSimpleRow.laid) (((OpenSpec.ofChange Rows.escSimpleSpec).at F).post enc Tryd.prog Tryd.f9 false true false false) := by
  obtain ⟨places, hx⟩ := escSimple_reads os enc
  refine returnsInHanded_of_row (C := Tryd.checked) (s := (OpenSpec.ofChange Rows.escSimpleSpec)) own started (by kernel_rfl) Tryd.func9
    (witness_row_at (enc := enc) (C := Tryd.checked) false (laidWorld os) #[.slice none 0 0, .int .u8 0] rfl (by kernel_rfl) (by kernel_rfl) (by kernel_rfl)
      (OpenSpec.preRow_of_cond 8 hx (by kernel_rfl) (fun k hk => by cases hk) (by kernel_rfl) (escSimple_met os))) ?_
  intro W base args ds gs before hval0 hW _ hcond hreach hL _ _
  have hval : ∀ (j : Nat) t v, Tryd.f9.params[j]? = some t → args[j]? = some v → Value.okWide Tryd.prog W .any base t v := hval0
  have hW' := hW
  obtain ⟨p, q, hA0, hV, rfl, hfz, hnd⟩ := hW
  have hA : DataW.TrodAll enc Tryd.prog W 0 (fun _ => true) true Tryd.f9.params.toList args.toList ds p := hA0
  obtain ⟨rfl, rfl⟩ := trodVars_none hV
  simp only [List.append_nil] at hW'
  have hlt : ∀ x ∈ p, x.block < W.heap.size := fun x hx => by simpa using hW'.lt x hx
  rw [Tryd.params9] at hA hval
  rw [Tryd.params9] at hreach
  rw [List.append_nil] at hreach
  have hargs := fun W' (hb : Below W.heap.size W W') => args_below (enc := enc) hb _ _ _ _ (show TsOk [34, 5] from ⟨okBytes, ⟨okByte, trivial⟩⟩) hlt hA
  obtain ⟨v0, vs0, d0, ds0, p0, q0, hargs0, rfl, rfl, h0, r0⟩ := trodAll_cons hA
  obtain ⟨v1, vs1, d1, ds1, p1, q1, rfl, rfl, rfl, h1, r1⟩ := trodAll_cons r0
  obtain ⟨rfl, rfl, rfl⟩ := trodAll_nil r1
  obtain rfl : args = #[v0, v1] := by cases args; simp_all
  obtain ⟨o0, n0, cap0, zs0, rfl, sz0, ln0⟩ := open_bytes_in (hval 0 34 v0 rfl rfl) h0
  have bn0 := len_sized hreach (j := 0) (d := d0) (t := 34) (e := 5) rfl rfl Tryd.underlying34
  rw [ln0] at bn0
  obtain ⟨a1, rfl⟩ := open_u8 (hval 1 5 v1 rfl rfl) h1
  clear hA0 hval0
  refine (simple_any o0 n0 cap0 zs0 a1 W (escSimple_tabs hL) sz0 bn0).mono fun e W' ⟨he, hb⟩ => ?_
  subst he
  exact ⟨_, rfl, _, _, _, [], _, [], hW', trodAll_mk1 (shut_bool Tryd.underlying4 _), hargs W' hb, rfl, hb.frame _, fun h => by cases h⟩

theorem escSimple_holds : Rows.EscSimpleSaid :=
  OpenClaim.holds_of_cond 9 Tryd.f9 rfl rfl rfl rfl rfl rfl rfl ⟨rfl, rfl, rfl, rfl, rfl⟩ rfl rfl rfl rfl rfl (by kernel_rfl) Tryd.func9 (by kernel_rfl)
    (of_decide_eq_true (by kernel_rfl)) (by unfold Func.isWrapper; first | (rw [if_pos (by decide +kernel)]; kernel_rfl) | (rw [if_neg (by decide +kernel)]; exact ⟨rfl, rfl⟩))
    (fun os started H enc _ F => by rw [OpenClaim.pre_eq_preRow]; exact escSimple_lifted os started H enc F)
theorem escSimple_plain (f : FuncId) (fn : Func) (hf : Tryd.pinned.checked.prog.funcNamed "casement/casementlaw04.EscSimple" = some f) (hfn : Tryd.pinned.checked.prog.funcs[f]? = some fn) :
    false = Tryd.pinned.checked.prog.looks [] ∧ ∀ (j : Nat) t, fn.params[j]? = some t → Tryd.pinned.checked.prog.wantsStandIn t = false := by
  obtain rfl : f = 9 := Option.some.inj ((show Tryd.prog.funcNamed "casement/casementlaw04.EscSimple" = some 9 by kernel_rfl).symm.trans hf) |>.symm
  obtain rfl : fn = Tryd.f9 := (Option.some.inj (Tryd.func9.symm.trans hfn)).symm
  refine ⟨by kernel_rfl, fun j t ht => ?_⟩
  rw [Tryd.params9] at ht
  have hm : t ∈ [34, 5] := by simpa using Array.mem_of_getElem? ht
  have hall : ([34, 5].all fun u => !Tryd.prog.wantsStandIn u) = true := by kernel_rfl
  exact (show Tryd.prog.wantsStandIn t = false by simpa using List.all_eq_true.1 hall t hm)
/-- the tied card -/
theorem escSimple_card : Rows.EscSimpleCardSaid :=
  Claim7.holds_tied_plain_at .later [] _ _ _ _ escSimple_holds (fun _ h => by cases h) (by kernel_rfl) (fun _ h => by cases h) escSimple_row_tie rfl ⟨rfl, rfl⟩ (by kernel_rfl) rfl escSimple_plain (by kernel_rfl)

end Go.Proofs.YtijfpfkmfibjjaaDoor
