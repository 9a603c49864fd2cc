/- A control sequence that is spoiled says nothing; the rune behind it is said; control bytes within it are said: for every slice of numbers, every number and every two bytes. -/
import Derived.Test.YtijfpfkmfibjjaaDoorEscSpoils
import Derived.Test.YtijfpfkmfibjjaaDoorEscLift
namespace Go.Proofs.YtijfpfkmfibjjaaDoor
open Go.ChangeShapes Go.WideShapes Go.ChangeAt Go.RowKit Go.Joins

theorem escSpoils_tabs {W : World} (h : laidMetH Tryd.prog Rows.escSpoilsRow.laid W) : UTabs W ∧ PTab W :=
  ⟨tabs_of_reads (Lib.laidMet.reads h (by simp [Rows.escSpoilsRow])) (Lib.laidMet.reads h (by simp [Rows.escSpoilsRow])), ptab_of_reads (Lib.laidMet.reads h (by simp [Rows.escSpoilsRow]))⟩
set_option maxRecDepth 100000 in
theorem escSpoils_met (os : Os) : laidMet Tryd.prog Rows.escSpoilsRow.laid ((laidWorld os).forCall (fun _ _ => 0) ⟨#[], #[.slice none 0 0, .int .i64 0, .int .u8 0, .int .u8 0], []⟩).memory :=
  laidMet_of_run' 8 (by kernel_rfl) (by kernel_rfl)
set_option maxRecDepth 100000 in
theorem escSpoils_reads (os : Os) {H : Type} (enc : TypeId × Value → H) : ∃ places, DataW.whole enc Tryd.prog ((laidWorld os).forCall (fun _ _ => 0) ⟨#[], #[.slice none 0 0, .int .i64 0, .int .u8 0, .int .u8 0], []⟩).memory Tryd.f8.params.toList Rows.escSpoilsSpec.vars false (#[.slice none 0 0, .int .i64 0, .int .u8 0, .int .u8 0] : Array Value).toList 8 = some ([.nil, .lit (.int .i64 0), .lit (.int .u8 0), .lit (.int .u8 0)], [], places) :=
  ⟨[], by kernel_rfl⟩
set_option maxRecDepth 100000 in
theorem escSpoils_lifted (os : Os) (started : os.Started) (H : Type) (enc : TypeId × Value → H) (F : Stop.Interp) :
    ReturnsInHanded {} Tryd.checked os 8 .any ((OpenSpec.ofChange Rows.escSpoilsSpec).preRow enc Tryd.prog Tryd.f8 Rows.escSpoilsRow.domain false Rows.escSpoilsRow.laid) (((OpenSpec.ofChange Rows.escSpoilsSpec).at F).post enc Tryd.prog Tryd.f8 false true false false) := by
  obtain ⟨places, hx⟩ := escSpoils_reads os enc
  refine returnsInHanded_of_row (C := Tryd.checked) (s := (OpenSpec.ofChange Rows.escSpoilsSpec)) own started (by kernel_rfl) Tryd.func8
    (witness_row_at (enc := enc) (C := Tryd.checked) false (laidWorld os) #[.slice none 0 0, .int .i64 0, .int .u8 0, .int .u8 0] rfl (by kernel_rfl) (by kernel_rfl) (by kernel_rfl)
      (OpenSpec.preRow_of_cond 8 hx (by kernel_rfl) (fun k hk => by cases hk) (by kernel_rfl) (escSpoils_met os))) ?_
  intro W base args ds gs before hval0 hW _ hcond hreach hL _ _
  have hval : ∀ (j : Nat) t v, Tryd.f8.params[j]? = some t → args[j]? = some v → Value.okWide Tryd.prog W .any base t v := hval0
  have hW' := hW
  obtain ⟨p, q, hA0, hV, rfl, hfz, hnd⟩ := hW
  have hA : DataW.TrodAll enc Tryd.prog W 0 (fun _ => true) true Tryd.f8.params.toList args.toList ds p := hA0
  obtain ⟨rfl, rfl⟩ := trodVars_none hV
  simp only [List.append_nil] at hW'
  have hlt : ∀ x ∈ p, x.block < W.heap.size := fun x hx => by simpa using hW'.lt x hx
  rw [Tryd.params8] at hA hval
  rw [Tryd.params8] at hreach
  rw [List.append_nil] at hreach
  have hargs := fun W' (hb : Below W.heap.size W W') => args_below (enc := enc) hb _ _ _ _ (show TsOk [43, 3, 5, 5] from ⟨okInts, ⟨okInt, ⟨okByte, ⟨okByte, trivial⟩⟩⟩⟩) hlt hA
  obtain ⟨v0, vs0, d0, ds0, p0, q0, hargs0, rfl, rfl, h0, r0⟩ := trodAll_cons hA
  obtain ⟨v1, vs1, d1, ds1, p1, q1, rfl, rfl, rfl, h1, r1⟩ := trodAll_cons r0
  obtain ⟨v2, vs2, d2, ds2, p2, q2, rfl, rfl, rfl, h2, r2⟩ := trodAll_cons r1
  obtain ⟨v3, vs3, d3, ds3, p3, q3, rfl, rfl, rfl, h3, r3⟩ := trodAll_cons r2
  obtain ⟨rfl, rfl, rfl⟩ := trodAll_nil r3
  obtain rfl : args = #[v0, v1, v2, v3] := by cases args; simp_all
  obtain ⟨o0, n0, cap0, zs0, rfl, sz0, ln0⟩ := open_ints_in (hval 0 43 v0 rfl rfl) h0
  have bn0 := len_sized hreach (j := 0) (d := d0) (t := 43) (e := 3) rfl rfl Tryd.underlying43
  rw [ln0] at bn0
  obtain ⟨a1, rfl, i1⟩ := open_i64 (hval 1 3 v1 rfl rfl) h1
  obtain ⟨a2, rfl⟩ := open_u8 (hval 2 5 v2 rfl rfl) h2
  obtain ⟨a3, rfl⟩ := open_u8 (hval 3 5 v3 rfl rfl) h3
  clear hA0 hval0
  refine (spoils_any o0 n0 cap0 zs0 a1 a2 a3 W (escSpoils_tabs hL) sz0 i1 bn0).mono fun e W' ⟨he, hb⟩ => ?_
  subst he
  exact ⟨_, rfl, _, _, _, [], _, [], hW', trodAll_mk1 (shut_bool Tryd.underlying4 _), hargs W' hb, rfl, hb.frame _, fun h => by cases h⟩

theorem escSpoils_holds : Rows.EscSpoilsSaid :=
  OpenClaim.holds_of_cond 8 Tryd.f8 rfl rfl rfl rfl rfl rfl rfl ⟨rfl, rfl, rfl, rfl, rfl⟩ rfl rfl rfl rfl rfl (by kernel_rfl) Tryd.func8 (by kernel_rfl)
    (of_decide_eq_true (by kernel_rfl)) (by unfold Func.isWrapper; first | (rw [if_pos (by decide +kernel)]; kernel_rfl) | (rw [if_neg (by decide +kernel)]; exact ⟨rfl, rfl⟩))
    (fun os started H enc _ F => by rw [OpenClaim.pre_eq_preRow]; exact escSpoils_lifted os started H enc F)
theorem escSpoils_plain (f : FuncId) (fn : Func) (hf : Tryd.pinned.checked.prog.funcNamed "casement/casementlaw04.EscSpoils" = some f) (hfn : Tryd.pinned.checked.prog.funcs[f]? = some fn) :
    false = Tryd.pinned.checked.prog.looks [] ∧ ∀ (j : Nat) t, fn.params[j]? = some t → Tryd.pinned.checked.prog.wantsStandIn t = false := by
  obtain rfl : f = 8 := Option.some.inj ((show Tryd.prog.funcNamed "casement/casementlaw04.EscSpoils" = some 8 by kernel_rfl).symm.trans hf) |>.symm
  obtain rfl : fn = Tryd.f8 := (Option.some.inj (Tryd.func8.symm.trans hfn)).symm
  refine ⟨by kernel_rfl, fun j t ht => ?_⟩
  rw [Tryd.params8] at ht
  have hm : t ∈ [43, 3, 5, 5] := by simpa using Array.mem_of_getElem? ht
  have hall : ([43, 3, 5, 5].all fun u => !Tryd.prog.wantsStandIn u) = true := by kernel_rfl
  exact (show Tryd.prog.wantsStandIn t = false by simpa using List.all_eq_true.1 hall t hm)
/-- the tied card -/
theorem escSpoils_card : Rows.EscSpoilsCardSaid :=
  Claim7.holds_tied_plain_at .later [] _ _ _ _ escSpoils_holds (fun _ h => by cases h) (by kernel_rfl) (fun _ h => by cases h) escSpoils_row_tie rfl ⟨rfl, rfl⟩ (by kernel_rfl) rfl escSpoils_plain (by kernel_rfl)

end Go.Proofs.YtijfpfkmfibjjaaDoor
