/- The document's reader: a State as a value; one. -/
import Derived.Test.YtibpbnffennmeaaMdSame
import Derived.Test.YtibpbnffennmeaaMdDecode
namespace Go.Proofs.Ytibpbnffennmeaa
open Go.RowKit
theorem results_tmp_row {P : Program} {fn : Func} {u p : Tmp} {ty : TypeId} (h : fn.results = #[.tmp u, .cell p ty]) (tmps : Array Value) (w : World) (g : Nat) (t : TypeId) (cs : Array Value) (fr : Nat × Nat) (d : TypeDesc)
    (hp : tmps.getD p undef = .pointer (some ⟨g, 0, none⟩)) (hg : w.heap[g]? = some (.cells cs t fr)) (hu : P.underlying ty = some d) (hd : (match d with | .struct _ | .array _ _ => true | _ => false) = true) (hi : (P.info? ty).map (·.size) = some cs.size) :
    (results fn tmps).run P w = .ok (.tuple #[tmps.getD u undef, .agg cs]) w := by
  have e : (results fn tmps).run P w = ((asAddr (tmps.getD p undef)).run P w).andThen fun b w₃ => ((loadVar ty b).run P w₃).andThen fun x w₄ => .ok (.tuple #[tmps.getD u undef, x]) w₄ := by
    simp only [results, h]
    simp [Sem.run_bind, Result.andThen]
  rw [e, hp]
  simp [asAddr, run_loadVar_row w g t ty cs fr d hg hu hd hi, Result.andThen]
abbrev stV (o : Option Addr) (n cap : Nat) (a : Nat) (ok : Bool) : Value := .agg #[.slice o n cap, .int .i64 a, .bool ok]
abbrev stO (o : Option Addr) (n cap : Nat) (a : Nat) (ok : Bool) : Obj := .cells #[.slice o n cap, .int .i64 a, .bool ok] 46
abbrev stZ : Obj := .cells #[.slice none 0 0, .int .i64 0, .bool false] 46
theorem fill_one {w X : World} {q : Nat} (hq : X.heap[q]? = some stZ) (hf : Below w.heap.size w X) (h1 : w.heap.size ≤ q) (a0 a1 a2 : Value) :
    (setMod X q a0 a1 a2).drew.heap[q]? = some (.cells #[a0, a1, a2] 46 (0, 0)) ∧ Below w.heap.size w (setMod X q a0 a1 a2).drew :=
  ⟨store3 hq a0 a1 a2, below_dN (((hf.setCell h1 _).setCell h1 _).setCell h1 _) 1⟩
theorem md.one_bad (l : List UInt8) (lo hi : Nat) : md.one lo hi ⟨l, true⟩ = (0, ⟨l, true⟩) := by cases l <;> rfl
theorem md.one_end (b : List UInt8) (lo hi a : Nat) (h : b.length ≤ a) : md.one lo hi ⟨b.drop a, false⟩ = (0, ⟨b.drop a, true⟩) := by
  rw [List.drop_eq_nil_of_le h]
  rfl
theorem md.one_at (b : List UInt8) (lo hi a : Nat) (h : a < b.length) : md.one lo hi ⟨b.drop a, false⟩ = if md.fits lo hi b[a].toNat = true then (b[a].toNat, ⟨b.drop (a + 1), false⟩) else (0, ⟨b.drop a, true⟩) := by
  rw [List.drop_eq_getElem_cons h]
  unfold md.one md.bnd md.next md.ret
  simp only
  split <;> rfl
/-- what a reader of a State answers -/
def StAns (o : Option Addr) (cap : Nat) (b : List UInt8) (w w' : World) (e : Ending) (v : Value) (s : md.St) : Prop :=
  ∃ a : Nat, e = .returned (.tuple #[v, stV o b.length cap a (!s.bad)]) ∧ a ≤ b.length ∧ s.rest = b.drop a ∧ Below w.heap.size w w'

set_option maxRecDepth 100000 in
set_option maxHeartbeats 3200000 in
theorem rone_any (D : Nat → Prop) (o : Option Addr) (cap : Nat) (b : List UInt8) (lo hi a : Nat) (bad : Bool) (w : World) (hin : BsIn w D (.slice o b.length cap) b) (ha : a ≤ b.length) :
    Calls Try.prog 11 #[stV o b.length cap a (!bad), .int .i64 lo, .int .i64 hi] w fun e w' => StAns o cap b w w' e (.int .i64 ((md.one lo hi ⟨b.drop a, bad⟩).1 : Nat)) (md.one lo hi ⟨b.drop a, bad⟩).2 := by
  unfold StAns
  obtain ⟨hc1, hc2⟩ := (RowIn.lens hin).2
  have hx := two_new w (stO o b.length cap a (!bad)) stZ
  have HX := Lib.hid hx
  have HIN := Lib.hid hin
  have HB := Lib.hid (md.one_bad (b.drop a) lo hi)
  have HE := Lib.hid (md.one_end b lo hi a)
  have HAT := Lib.hid (md.one_at b lo hi a)
  clear hx hin
  go_enter Try.func11, Try.ntmps11
  go_upto_region 1 with fail
  generalize (w.alloc (stO o b.length cap a (!bad))).alloc stZ = w2 at *
  obtain ⟨p, hp⟩ : ∃ p, w.heap.size = p := ⟨_, rfl⟩
  rw [hp] at HX ⊢
  have HP := Lib.hid hp
  clear hp
  have k0 : w2.cell? ⟨p, 0, none⟩ = some (.slice o b.length cap) := (cell_of_heap HX.out.1).trans rfl
  have k1 : w2.cell? ⟨p, 1, none⟩ = some (.int .i64 a) := (cell_of_heap HX.out.1).trans rfl
  have k2 : w2.cell? ⟨p, 2, none⟩ = some (.bool (!bad)) := (cell_of_heap HX.out.1).trans rfl
  have f1 := thaw (k := 1) HX.out.1
  have f2 := thaw (k := 2) HX.out.1
  have hlp := heap_lt HX.out.1
  cases bad with
  | true =>
    have HZ := Lib.hid HB.out
    clear HB HE HAT
    have s1 := heap_setCell_same w2 p 2 _ _ (.bool false) HX.out.1
    have s2 := heap_set_other w2 ⟨p, 2, none⟩ (.bool false) (show p + 1 ≠ p by omega) HX.out.2.1
    have s3 : Below w.heap.size w (w2.setCell ⟨p, 2, none⟩ (.bool false)) := (show Below w.heap.size w w2 by rw [HP.out]; exact HX.out.2.2).setCell (by rw [HP.out]; exact Nat.le_refl _) _
    have HF := Lib.hid (fill_one s2 s3 (by rw [HP.out]; omega) (.slice o b.length cap) (.int .i64 a) (.bool false))
    have HS := Lib.hid (And.intro s1 s2)
    clear s1 s2 s3
    go_upto_region 3 with fail
    clear k0 k1 k2 f1 f2 hlp HX
    generalize w2.setCell ⟨p, 2, none⟩ (.bool false) = w3 at *
    have k0 : w3.cell? ⟨p, 0, none⟩ = some (.slice o b.length cap) := (cell_of_heap HS.out.1).trans rfl
    have k1 : w3.cell? ⟨p, 1, none⟩ = some (.int .i64 a) := (cell_of_heap HS.out.1).trans rfl
    have k2 : w3.cell? ⟨p, 2, none⟩ = some (.bool false) := (cell_of_heap HS.out.1).trans rfl
    have d0 : w3.cell? ⟨p + 1, 0, none⟩ = some (.slice none 0 0) := (cell_of_heap HS.out.2).trans rfl
    have d1 : w3.cell? ⟨p + 1, 1, none⟩ = some (.int .i64 0) := (cell_of_heap HS.out.2).trans rfl
    have d2 : w3.cell? ⟨p + 1, 2, none⟩ = some (.bool false) := (cell_of_heap HS.out.2).trans rfl
    have e0 := thaw (k := 0) HS.out.2
    have e1 := thaw (k := 1) HS.out.2
    have e2 := thaw (k := 2) HS.out.2
    have hl3 := heap_lt HS.out.2
    have hl4 := heap_lt HS.out.1
    go_region
    all_goals
      go_wp2_with fail
      refine bodyPost_ret (results_tmp_row rfl _ _ (p + 1) 46 _ (0, 0) _ rfl HF.out.1 Try.underlying46 rfl (by kernel_rfl)) rfl ?_
      rw [HZ.out]
      exact ⟨a, rfl, ha, rfl, HF.out.2⟩
  | false =>
    by_cases hn : a < b.length
    case neg =>
      have HZ := Lib.hid (HE.out (by omega))
      clear HB HE HAT
      have hni : ¬ (a : Int) < (b.length : Int) := by omega
      have s1 := heap_setCell_same w2 p 2 _ _ (.bool false) HX.out.1
      have s2 := heap_set_other w2 ⟨p, 2, none⟩ (.bool false) (show p + 1 ≠ p by omega) HX.out.2.1
      have s3 : Below w.heap.size w (w2.setCell ⟨p, 2, none⟩ (.bool false)) := (show Below w.heap.size w w2 by rw [HP.out]; exact HX.out.2.2).setCell (by rw [HP.out]; exact Nat.le_refl _) _
      have HF := Lib.hid (fill_one s2 s3 (by rw [HP.out]; omega) (.slice o b.length cap) (.int .i64 a) (.bool false))
      have HS := Lib.hid (And.intro s1 s2)
      clear s1 s2 s3
      go_upto_region 3 with fail
      clear k0 k1 k2 f1 f2 hlp HX
      generalize w2.setCell ⟨p, 2, none⟩ (.bool false) = w3 at *
      have k0 : w3.cell? ⟨p, 0, none⟩ = some (.slice o b.length cap) := (cell_of_heap HS.out.1).trans rfl
      have k1 : w3.cell? ⟨p, 1, none⟩ = some (.int .i64 a) := (cell_of_heap HS.out.1).trans rfl
      have k2 : w3.cell? ⟨p, 2, none⟩ = some (.bool false) := (cell_of_heap HS.out.1).trans rfl
      have d0 : w3.cell? ⟨p + 1, 0, none⟩ = some (.slice none 0 0) := (cell_of_heap HS.out.2).trans rfl
      have d1 : w3.cell? ⟨p + 1, 1, none⟩ = some (.int .i64 0) := (cell_of_heap HS.out.2).trans rfl
      have d2 : w3.cell? ⟨p + 1, 2, none⟩ = some (.bool false) := (cell_of_heap HS.out.2).trans rfl
      have e0 := thaw (k := 0) HS.out.2
      have e1 := thaw (k := 1) HS.out.2
      have e2 := thaw (k := 2) HS.out.2
      have hl3 := heap_lt HS.out.2
      have hl4 := heap_lt HS.out.1
      go_region
      all_goals
        go_wp2_with fail
        refine bodyPost_ret (results_tmp_row rfl _ _ (p + 1) 46 _ (0, 0) _ rfl HF.out.1 Try.underlying46 rfl (by kernel_rfl)) rfl ?_
        rw [HZ.out]
        exact ⟨a, rfl, ha, rfl, HF.out.2⟩
    case pos =>
      have hni : (a : Int) < (b.length : Int) := by omega
      have hat := HAT.out hn
      obtain ⟨g, off, rfl, hg, q0⟩ := BsIn.cell HIN.out a hn
      rw [HP.out] at hg
      replace q0 : w2.cell? ⟨g, off + a, none⟩ = _ := (cell_of_eq (HX.out.2.2.block g hg) _).trans q0
      have hg2 : g < w2.heap.size := by omega
      have hc := b[a].toNat_lt
      generalize b[a].toNat = c at *
      by_cases hlo : c < lo
      case pos =>
        have HZ := Lib.hid (show md.one lo hi ⟨b.drop a, false⟩ = (0, ⟨b.drop a, true⟩) by rw [hat, if_neg (by unfold md.fits; simp; omega)])
        have hli : (c : Int) < (lo : Int) := by omega
        clear HB HE HAT hat
        have s1 := heap_setCell_same w2 p 2 _ _ (.bool false) HX.out.1
        have s2 := heap_set_other w2 ⟨p, 2, none⟩ (.bool false) (show p + 1 ≠ p by omega) HX.out.2.1
        have s3 : Below w.heap.size w (w2.setCell ⟨p, 2, none⟩ (.bool false)) := (show Below w.heap.size w w2 by rw [HP.out]; exact HX.out.2.2).setCell (by rw [HP.out]; exact Nat.le_refl _) _
        have HF := Lib.hid (fill_one s2 s3 (by rw [HP.out]; omega) (.slice (some ⟨g, off, none⟩) b.length cap) (.int .i64 a) (.bool false))
        have HS := Lib.hid (And.intro s1 s2)
        clear s1 s2 s3
        go_upto_region 3 with fail
        clear k0 k1 k2 f1 f2 hlp HX
        generalize w2.setCell ⟨p, 2, none⟩ (.bool false) = w3 at *
        have k0 : w3.cell? ⟨p, 0, none⟩ = some (.slice (some ⟨g, off, none⟩) b.length cap) := (cell_of_heap HS.out.1).trans rfl
        have k1 : w3.cell? ⟨p, 1, none⟩ = some (.int .i64 a) := (cell_of_heap HS.out.1).trans rfl
        have k2 : w3.cell? ⟨p, 2, none⟩ = some (.bool false) := (cell_of_heap HS.out.1).trans rfl
        have d0 : w3.cell? ⟨p + 1, 0, none⟩ = some (.slice none 0 0) := (cell_of_heap HS.out.2).trans rfl
        have d1 : w3.cell? ⟨p + 1, 1, none⟩ = some (.int .i64 0) := (cell_of_heap HS.out.2).trans rfl
        have d2 : w3.cell? ⟨p + 1, 2, none⟩ = some (.bool false) := (cell_of_heap HS.out.2).trans rfl
        have e0 := thaw (k := 0) HS.out.2
        have e1 := thaw (k := 1) HS.out.2
        have e2 := thaw (k := 2) HS.out.2
        have hl3 := heap_lt HS.out.2
        have hl4 := heap_lt HS.out.1
        go_region
        all_goals
          go_wp2_with fail
          refine bodyPost_ret (results_tmp_row rfl _ _ (p + 1) 46 _ (0, 0) _ rfl HF.out.1 Try.underlying46 rfl (by kernel_rfl)) rfl ?_
          rw [HZ.out]
          exact ⟨a, rfl, ha, rfl, HF.out.2⟩
      by_cases hhi : hi < c
      case pos =>
        have HZ := Lib.hid (show md.one lo hi ⟨b.drop a, false⟩ = (0, ⟨b.drop a, true⟩) by rw [hat, if_neg (by unfold md.fits; simp; omega)])
        have hli : ¬ (c : Int) < (lo : Int) := by omega
        have hhi2 : (hi : Int) < (c : Int) := by omega
        clear HB HE HAT hat
        have s1 := heap_setCell_same w2 p 2 _ _ (.bool false) HX.out.1
        have s2 := heap_set_other w2 ⟨p, 2, none⟩ (.bool false) (show p + 1 ≠ p by omega) HX.out.2.1
        have s3 : Below w.heap.size w (w2.setCell ⟨p, 2, none⟩ (.bool false)) := (show Below w.heap.size w w2 by rw [HP.out]; exact HX.out.2.2).setCell (by rw [HP.out]; exact Nat.le_refl _) _
        have HF := Lib.hid (fill_one s2 s3 (by rw [HP.out]; omega) (.slice (some ⟨g, off, none⟩) b.length cap) (.int .i64 a) (.bool false))
        have HS := Lib.hid (And.intro s1 s2)
        clear s1 s2 s3
        go_upto_region 3 with fail
        clear k0 k1 k2 f1 f2 hlp HX
        generalize w2.setCell ⟨p, 2, none⟩ (.bool false) = w3 at *
        have k0 : w3.cell? ⟨p, 0, none⟩ = some (.slice (some ⟨g, off, none⟩) b.length cap) := (cell_of_heap HS.out.1).trans rfl
        have k1 : w3.cell? ⟨p, 1, none⟩ = some (.int .i64 a) := (cell_of_heap HS.out.1).trans rfl
        have k2 : w3.cell? ⟨p, 2, none⟩ = some (.bool false) := (cell_of_heap HS.out.1).trans rfl
        have d0 : w3.cell? ⟨p + 1, 0, none⟩ = some (.slice none 0 0) := (cell_of_heap HS.out.2).trans rfl
        have d1 : w3.cell? ⟨p + 1, 1, none⟩ = some (.int .i64 0) := (cell_of_heap HS.out.2).trans rfl
        have d2 : w3.cell? ⟨p + 1, 2, none⟩ = some (.bool false) := (cell_of_heap HS.out.2).trans rfl
        have e0 := thaw (k := 0) HS.out.2
        have e1 := thaw (k := 1) HS.out.2
        have e2 := thaw (k := 2) HS.out.2
        have hl3 := heap_lt HS.out.2
        have hl4 := heap_lt HS.out.1
        go_region
        all_goals
          go_wp2_with fail
          refine bodyPost_ret (results_tmp_row rfl _ _ (p + 1) 46 _ (0, 0) _ rfl HF.out.1 Try.underlying46 rfl (by kernel_rfl)) rfl ?_
          rw [HZ.out]
          exact ⟨a, rfl, ha, rfl, HF.out.2⟩
      have HZ := Lib.hid (show md.one lo hi ⟨b.drop a, false⟩ = (c, ⟨b.drop (a + 1), false⟩) by rw [hat, if_pos (by unfold md.fits; simp; omega)])
      have hli : ¬ (c : Int) < (lo : Int) := by omega
      have hhi2 : ¬ (hi : Int) < (c : Int) := by omega
      clear HB HE HAT hat
      have q1 : (w2.setCell ⟨p, 1, none⟩ (.int .i64 ((a : Int) + 1))).cell? ⟨g, off + a, none⟩ = some (.int .u8 (c : Nat)) := (cell_of_eq (Below.heap_setCell w2 ⟨p, 1, none⟩ _ g (show g ≠ p by omega)) _).trans q0
      have s1 := heap_setCell_same w2 p 1 _ _ (.int .i64 ((a : Int) + 1)) HX.out.1
      have s2 := heap_set_other w2 ⟨p, 1, none⟩ (.int .i64 ((a : Int) + 1)) (show p + 1 ≠ p by omega) HX.out.2.1
      have s3 : Below w.heap.size w (w2.setCell ⟨p, 1, none⟩ (.int .i64 ((a : Int) + 1))) := (show Below w.heap.size w w2 by rw [HP.out]; exact HX.out.2.2).setCell (by rw [HP.out]; exact Nat.le_refl _) _
      have HF := Lib.hid (fill_one s2 s3 (by rw [HP.out]; omega) (.slice (some ⟨g, off, none⟩) b.length cap) (.int .i64 ((a : Int) + 1)) (.bool true))
      have HS := Lib.hid (And.intro s1 (And.intro s2 q1))
      clear s1 s2 s3 q1
      go_upto_region 5 with fail
      clear k0 k1 k2 f1 f2 HX q0 hg2
      generalize w2.setCell ⟨p, 1, none⟩ (.int .i64 ((a : Int) + 1)) = w3 at *
      have k0 : w3.cell? ⟨p, 0, none⟩ = some (.slice (some ⟨g, off, none⟩) b.length cap) := (cell_of_heap HS.out.1).trans rfl
      have k1 : w3.cell? ⟨p, 1, none⟩ = some (.int .i64 ((a : Int) + 1)) := (cell_of_heap HS.out.1).trans rfl
      have k2 : w3.cell? ⟨p, 2, none⟩ = some (.bool true) := (cell_of_heap HS.out.1).trans rfl
      have d0 : w3.cell? ⟨p + 1, 0, none⟩ = some (.slice none 0 0) := (cell_of_heap HS.out.2.1).trans rfl
      have d1 : w3.cell? ⟨p + 1, 1, none⟩ = some (.int .i64 0) := (cell_of_heap HS.out.2.1).trans rfl
      have d2 : w3.cell? ⟨p + 1, 2, none⟩ = some (.bool false) := (cell_of_heap HS.out.2.1).trans rfl
      have e0 := thaw (k := 0) HS.out.2.1
      have e1 := thaw (k := 1) HS.out.2.1
      have e2 := thaw (k := 2) HS.out.2.1
      have q1 := HS.out.2.2
      have hl3 := heap_lt HS.out.2.1
      have hl4 := heap_lt HS.out.1
      have hg3 : g < w3.heap.size := by omega
      go_region
      all_goals
        go_wp2_with fail
        refine bodyPost_ret (results_tmp_row rfl _ _ (p + 1) 46 _ (0, 0) _ rfl HF.out.1 Try.underlying46 rfl (by kernel_rfl)) rfl ?_
        rw [HZ.out]
        exact ⟨a + 1, rfl, hn, rfl, HF.out.2⟩
end Go.Proofs.Ytibpbnffennmeaa
