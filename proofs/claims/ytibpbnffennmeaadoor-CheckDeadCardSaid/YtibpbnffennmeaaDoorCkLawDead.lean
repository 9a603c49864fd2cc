/- CheckDead returns true at every input, from any world in which the tables of check and module stand -/
import Derived.Test.YtibpbnffennmeaaDoorCkDead
import Derived.Test.YtibpbnffennmeaaDoorCkLift
import Derived.SizedLaws
namespace Go.Proofs.YtibpbnffennmeaaDoor
open Go.ChangeShapes Go.WideShapes Go.ChangeAt Go.RowKit Go.Joins

theorem code_sized {H : Type} {ts : List TypeId} {ds : List (DataW H)} (h : (DataW.weightsEach Tryd.prog ts ds).all (· ≤ reachBytes) = true) {j : Nat} {d : DataW H} (ht : ts[j]? = some 40) (hd : ds[j]? = some d) : sliceLen d * 16 ≤ reachBytes := by
  have hb : Tryd.prog.bytesOf 46 = 16 := by kernel_rfl
  cases d with
  | slice el sp =>
    have := sized_slice h ht hd Tryd.underlying40
    rw [hb] at this
    show el.length * 16 ≤ _
    omega
  | _ => simp [sliceLen]
theorem checkDead_tt {W : World} (h : laidMetH Tryd.prog Rows.checkDeadRow.laid W) : HT W :=
  ht_of_reads (Lib.laidMet.reads h (by simp [Rows.checkDeadRow]))
set_option maxRecDepth 100000 in
theorem checkDead_met (os : Os) : laidMet Tryd.prog Rows.checkDeadRow.laid ((laidWorld os).forCall (fun _ _ => 0) ⟨#[], #[.agg #[.int .i64 0, .slice none 0 0, .slice none 0 0], .slice none 0 0, .int .i64 0], []⟩).memory :=
  laidMet_of_run' 8 (by kernel_rfl) (by kernel_rfl)
set_option maxRecDepth 100000 in
theorem checkDead_reads (os : Os) {H : Type} (enc : TypeId × Value → H) : ∃ places, DataW.whole enc Tryd.prog ((laidWorld os).forCall (fun _ _ => 0) ⟨#[], #[.agg #[.int .i64 0, .slice none 0 0, .slice none 0 0], .slice none 0 0, .int .i64 0], []⟩).memory Tryd.f6.params.toList Rows.checkDeadSpec.vars false (#[.agg #[.int .i64 0, .slice none 0 0, .slice none 0 0], .slice none 0 0, .int .i64 0] : Array Value).toList 8 = some ([.agg [.lit (.int .i64 0), .nil, .nil], .nil, .lit (.int .i64 0)], [], places) :=
  ⟨[], by kernel_rfl⟩
set_option maxRecDepth 100000 in
theorem checkDead_lifted (os : Os) (started : os.Started) (H : Type) (enc : TypeId × Value → H) (F : Stop.Interp) :
    ReturnsInHanded {} Tryd.checked os 6 .any ((OpenSpec.ofChange Rows.checkDeadSpec).preRow enc Tryd.prog Tryd.f6 Rows.checkDeadRow.domain false Rows.checkDeadRow.laid) (((OpenSpec.ofChange Rows.checkDeadSpec).at F).post enc Tryd.prog Tryd.f6 false true false false) := by
  obtain ⟨places, hx⟩ := checkDead_reads os enc
  refine returnsInHanded_of_row (C := Tryd.checked) (s := (OpenSpec.ofChange Rows.checkDeadSpec)) own started (by kernel_rfl) Tryd.func6
    (witness_row_at (enc := enc) (C := Tryd.checked) false (laidWorld os) #[.agg #[.int .i64 0, .slice none 0 0, .slice none 0 0], .slice none 0 0, .int .i64 0] rfl (by kernel_rfl) (by kernel_rfl) (by kernel_rfl)
      (OpenSpec.preRow_of_cond 8 hx (by kernel_rfl) (fun k hk => by cases hk) (by kernel_rfl) (checkDead_met os))) ?_
  intro W base args ds gs before hval0 hW _ hcond hreach hL _ _
  have hval : ∀ (j : Nat) t v, Tryd.f6.params[j]? = some t → args[j]? = some v → Value.okWide Tryd.prog W .any base t v := hval0
  have hW' := hW
  obtain ⟨p, q, hA0, hV, rfl, hfz, hnd⟩ := hW
  have hA : DataW.TrodAll enc Tryd.prog W 0 (fun _ => true) true Tryd.f6.params.toList args.toList ds p := hA0
  obtain ⟨rfl, rfl⟩ := trodVars_none hV
  simp only [List.append_nil] at hW'
  have hlt : ∀ x ∈ p, x.block < W.heap.size := fun x hx => by simpa using hW'.lt x hx
  rw [Tryd.params6] at hA hval
  rw [Tryd.params6] at hreach
  rw [List.append_nil] at hreach
  have hargs := fun W' (hb : Below W.heap.size W W') => args_below (enc := enc) hb _ _ _ _ (show TsOk [25, 40, 3] from ⟨okMod, ⟨okCode, ⟨okInt, trivial⟩⟩⟩) hlt hA
  obtain ⟨v0, vs0, d0, ds0, p0, q0, hargs0, rfl, rfl, h0, r0⟩ := trodAll_cons hA
  obtain ⟨v1, vs1, d1, ds1, p1, q1, rfl, rfl, rfl, h1, r1⟩ := trodAll_cons r0
  obtain ⟨v2, vs2, d2, ds2, p2, q2, rfl, rfl, rfl, h2, r2⟩ := trodAll_cons r1
  obtain ⟨rfl, rfl, rfl⟩ := trodAll_nil r2
  obtain rfl : args = #[v0, v1, v2] := by cases args; simp_all
  obtain ⟨m0, VD0, VF0, rfl, mi0, mf0⟩ := open_mod (hval 0 25 v0 rfl rfl) h0
  obtain ⟨l1, bs1, bi1⟩ := open_code (hval 1 40 v1 rfl rfl) h1
  obtain ⟨o1, k1, rfl, -⟩ := id bs1
  have ln1 := sliceLen_Trod Tryd.underlying40 h1
  have bn1 := code_sized hreach (j := 1) (d := d1) rfl rfl
  rw [ln1] at bn1
  have rb1 : reachBytes = 140737488351232 := rfl
  obtain ⟨a2, rfl, w2⟩ := open_i64 (hval 2 3 v2 rfl rfl) h2
  clear hA0 hval0
  refine (dead_any m0 VD0 VF0 _ l1 a2 W (checkDead_tt hL) mi0 mf0 bs1 bi1 (by omega)).mono fun e W' ⟨he, hb⟩ => ?_
  subst he
  exact ⟨_, rfl, _, _, _, [], _, [], hW', trodAll_mk1 (shut_bool Tryd.underlying4 _), hargs W' hb, rfl, hb.frame _, fun h => by cases h⟩

theorem checkDead_holds : Rows.CheckDeadSaid :=
  OpenClaim.holds_of_cond 6 Tryd.f6 rfl rfl rfl rfl rfl rfl rfl ⟨rfl, rfl, rfl, rfl, rfl⟩ rfl rfl rfl rfl rfl (by kernel_rfl) Tryd.func6 (by kernel_rfl)
    (of_decide_eq_true (by kernel_rfl)) (by unfold Func.isWrapper; first | (rw [if_pos (by decide +kernel)]; kernel_rfl) | (rw [if_neg (by decide +kernel)]; exact ⟨rfl, rfl⟩))
    (fun os started H enc _ F => by rw [OpenClaim.pre_eq_preRow]; exact checkDead_lifted os started H enc F)
theorem checkDead_plain (f : FuncId) (fn : Func) (hf : Tryd.pinned.checked.prog.funcNamed "casement/casementlaw13.CheckDead" = some f) (hfn : Tryd.pinned.checked.prog.funcs[f]? = some fn) :
    false = Tryd.pinned.checked.prog.looks [] ∧ ∀ (j : Nat) t, fn.params[j]? = some t → Tryd.pinned.checked.prog.wantsStandIn t = false := by
  obtain rfl : f = 6 := Option.some.inj ((show Tryd.prog.funcNamed "casement/casementlaw13.CheckDead" = some 6 by kernel_rfl).symm.trans hf) |>.symm
  obtain rfl : fn = Tryd.f6 := (Option.some.inj (Tryd.func6.symm.trans hfn)).symm
  refine ⟨by kernel_rfl, fun j t ht => ?_⟩
  rw [Tryd.params6] at ht
  have hm : t ∈ [25, 40, 3] := by simpa using Array.mem_of_getElem? ht
  have hall : ([25, 40, 3].all fun u => !Tryd.prog.wantsStandIn u) = true := by kernel_rfl
  exact (show Tryd.prog.wantsStandIn t = false by simpa using List.all_eq_true.1 hall t hm)
/-- the tied card -/
theorem checkDead_card : Rows.CheckDeadCardSaid :=
  Claim7.holds_tied_plain_at .later [] _ _ _ _ checkDead_holds (fun _ h => by cases h) (by kernel_rfl) (fun _ h => by cases h) checkDead_row_tie rfl ⟨rfl, rfl⟩ (by kernel_rfl) rfl checkDead_plain (by kernel_rfl)

end Go.Proofs.YtibpbnffennmeaaDoor
