/- slices.Delete of an event: the first of a queue. -/
import Derived.Test.YtgegphciaejkiaaBuPut
import Derived.Lib.SliceRun
import Derived.Deep.RegionLaw
namespace Go.Proofs.Ytgegphciaejkiaa
open Go.RowKit
def setMany (cur : Array Value) : Nat → List Value → Array Value
  | _, [] => cur
  | o, v :: r => setMany (cur.setIfInBounds o v) (o + 1) r
theorem setMany_size : ∀ (vs : List Value) (cur : Array Value) (o : Nat), (setMany cur o vs).size = cur.size
  | [], _, _ => rfl
  | v :: r, cur, o => (setMany_size r _ (o + 1)).trans (by simp)
theorem setMany_out : ∀ (vs : List Value) (cur : Array Value) (o k : Nat), (k < o ∨ o + vs.length ≤ k) → (setMany cur o vs)[k]? = cur[k]?
  | [], _, _, _, _ => rfl
  | v :: r, cur, o, k, h => by
    have hk : k < o + 1 ∨ o + 1 + r.length ≤ k := by simp only [List.length_cons] at h; omega
    show (setMany (cur.setIfInBounds o v) (o + 1) r)[k]? = _
    rw [setMany_out r _ (o + 1) k hk, Array.getElem?_setIfInBounds, if_neg (by simp only [List.length_cons] at h; omega)]
theorem setMany_in : ∀ (vs : List Value) (cur : Array Value) (o j : Nat), j < vs.length → o + vs.length ≤ cur.size → (setMany cur o vs)[o + j]? = vs[j]?
  | [], _, _, j, h, _ => by simp at h
  | v :: r, cur, o, 0, h, hs => by
    show (setMany (cur.setIfInBounds o v) (o + 1) r)[o + 0]? = _
    rw [setMany_out r _ (o + 1) (o + 0) (.inl (by omega)), Array.getElem?_setIfInBounds]
    simp only [List.length_cons] at hs
    rw [if_pos (by omega), if_pos (by omega)]
    rfl
  | v :: r, cur, o, j + 1, h, hs => by
    show (setMany (cur.setIfInBounds o v) (o + 1) r)[o + (j + 1)]? = _
    rw [show o + (j + 1) = o + 1 + j by omega, setMany_in r _ (o + 1) j (by simpa using h) (by simp only [List.length_cons] at hs; simp; omega)]
    rfl
theorem heap_setCells (g : Nat) (t : TypeId) : ∀ (vs : List Value) (o : Nat) (w : World) (cur : Array Value), w.heap[g]? = some (.cells cur t (0, 0)) → (w.setCells g o vs).heap[g]? = some (.cells (setMany cur o vs) t (0, 0))
  | [], _, _, _, h => h
  | v :: r, o, w, _, h => heap_setCells g t r (o + 1) _ _ (heap_setCell_same w g o _ _ v h)
theorem fr_setCells (g : Nat) : ∀ (vs : List Value) (o : Nat) {a w : World}, Fr (· = g) a w → Fr (· = g) a (w.setCells g o vs)
  | [], _, _, _, h => h
  | v :: r, o, _, _, h => fr_setCells g r (o + 1) (h.setCell ⟨g, o, none⟩ v (.inr rfl))
def evZ : List Value := [.int .i64 0, .int .i64 0, .int .i64 0, .string ⟨#[]⟩]
theorem zero_ev (w : World) : (zeroValue 31).run Try.prog w = .ok (.agg #[.int .i64 0, .int .i64 0, .int .i64 0, .string ⟨#[]⟩]) w := by kernel_rfl
set_option maxRecDepth 100000 in
/-- clear(s), s one event -/
theorem run_clear_ev (w : World) (ty : TypeId) (b o c : Nat) (hc : ∀ j, j < 4 → (w.cell? ⟨b, o + j, none⟩).isSome = true) (hf : ∀ j, j < 4 → w.frozen? ⟨b, o + j, none⟩ = false) :
    (Builtin.clear_ #[37] ty #[.slice (some ⟨b, o, none⟩) 1 c]).run Try.prog w = .ok (.tuple #[]) (w.setCells b o evZ) := by
  have hst := run_storeCells_cells (P := Try.prog) b o evZ 0 w (fun j hj => by simp [evZ] at hj; simpa using hc j hj) (fun j hj => by simp [evZ] at hj; simpa using hf j hj) (by intro v hv'; simp [evZ] at hv'; rcases hv' with rfl | rfl | rfl <;> rfl)
  simp only [Nat.add_zero] at hst
  have hzc : (Builtin.zeroCells (Value.agg #[.int .i64 0, .int .i64 0, .int .i64 0, .string ⟨#[]⟩]).cells 1).toList = evZ := by kernel_rfl
  simp [Builtin.clear_, run_underlying Try.underlying37, hzc, hst]
set_option maxRecDepth 100000 in
theorem run_elo (o : Addr) (n cap : Nat) (h1 : 1 ≤ n) (wx : World) : (Instr.slice 37 (.slice (some o) n cap) (some (.int .i64 1)) none none).run Try.prog wx = .ok (.slice (some (if cap = 1 then o else o.add 4)) (n - 1) (cap - 1)) wx := by
  rw [run_slice_l wx 37 (some o) n cap Try.underlying37 .i64 1 (by omega) (by omega)]
  have hz : (sizeOf (Try.prog.elem 37)).run Try.prog wx = .ok 4 wx := by kernel_rfl
  rw [hz]
  by_cases e : cap = 1
  · simp [Result.andThen, sliced, e]
  · simp [Result.andThen, sliced, e]
set_option maxRecDepth 100000 in
theorem run_eh0 (o : Addr) (n cap : Nat) (wx : World) : (Instr.slice 37 (.slice (some o) n cap) none (some (.int .i64 0)) none).run Try.prog wx = .ok (.slice (some o) 0 cap) wx := by
  rw [run_slice_h wx 37 (some o) n cap Try.underlying37 .i64 0 (by omega) (by omega)]
  have hz : (sizeOf (Try.prog.elem 37)).run Try.prog wx = .ok 4 wx := by kernel_rfl
  rw [hz]
  have e : o.add 0 = o := by unfold Addr.add; split <;> simp_all
  simp [Result.andThen, sliced, e]
set_option maxRecDepth 100000 in
theorem run_elh (g n cap : Nat) (hc : n + 1 ≤ cap) (wx : World) : (Instr.slice 37 (.slice (some ⟨g, 0, none⟩) n cap) (some (.int .i64 (n : Int))) (some (.int .i64 ((n : Int) + 1))) none).run Try.prog wx = .ok (.slice (some ⟨g, n * 4, none⟩) 1 (cap - n)) wx := by
  rw [show ((n : Int) + 1) = ((n + 1 : Nat) : Int) from rfl, run_slice_lh wx 37 (some ⟨g, 0, none⟩) n cap Try.underlying37 .i64 .i64 n ((n + 1 : Nat) : Int) (by omega) (by omega) (by omega)]
  have hz : (sizeOf (Try.prog.elem 37)).run Try.prog wx = .ok 4 wx := by kernel_rfl
  rw [hz]
  have : ¬ cap = n := by omega
  have e2 : ((n + 1 : Nat) : Int).toNat = n + 1 := Int.toNat_natCast _
  simp [Result.andThen, sliced, this, addr_b0]
theorem del_row {w : World} {B g cap : Nat} {e : bu.Ev} {l : List bu.Ev} (h : EvRow w B (.slice (some ⟨g, 0, none⟩) (l.length + 1) cap) (e :: l)) :
    EvRow ((w.setCells g 0 (evsC l)).setCells g (l.length * 4) evZ) B (.slice (some ⟨g, 0, none⟩) l.length cap) l := by
  rcases h.2 with ⟨h1, -⟩ | ⟨g', cap', cur, h1, hB, hg, hc, hm, hs, ht⟩
  · cases h1
  · injection h1 with a1 a2 a3
    injection a1 with a1
    injection a1 with a1
    subst a1 a3
    have hcl : (evsC l).length = l.length * 4 := evsC_len l
    have hlen : (l.length + 1) * 4 ≤ cur.size := by
      have := congrArg List.length ht
      rw [List.length_take, evsC_len, Array.length_toList] at this
      have hz : (e :: l).length = l.length + 1 := rfl
      omega
    refine ⟨evsC_len l, .inr ⟨g, cap, _, rfl, hB, heap_setCells g _ _ _ _ _ (heap_setCells g _ _ _ _ _ hg), by simp only [List.length_cons] at hc; omega, hm, by rw [setMany_size, setMany_size]; exact hs, ?_⟩⟩
    apply List.ext_getElem?
    intro k
    rw [List.getElem?_take]
    by_cases hk : k < l.length * 4
    · rw [if_pos hk, Array.getElem?_toList, setMany_out _ _ _ _ (.inl hk)]
      have := setMany_in (evsC l) cur 0 k (by omega) (by omega)
      rwa [Nat.zero_add] at this
    · rw [if_neg hk, List.getElem?_eq_none (by omega)]
set_option maxRecDepth 100000 in
set_option maxHeartbeats 3200000 in
theorem del_any (w : World) (B g cap : Nat) (e : bu.Ev) (l : List bu.Ev) (h : EvRow w B (.slice (some ⟨g, 0, none⟩) (l.length + 1) cap) (e :: l)) (hl : l.length ≤ 1000) :
    Calls Try.prog 36 #[.slice (some ⟨g, 0, none⟩) (l.length + 1) cap, .int .i64 0, .int .i64 1] w fun e' w' => e' = .returned (.slice (some ⟨g, 0, none⟩) l.length cap) ∧ EvRow w' B (.slice (some ⟨g, 0, none⟩) l.length cap) l ∧ Fr (· = g) w w' := by
  have HD : Hid (∀ k, EvRow (((w.drewN k).setCells g 0 (evsC l)).setCells g (l.length * 4) evZ) B (.slice (some ⟨g, 0, none⟩) l.length cap) l) := Lib.hid (fun k => del_row (w := w.drewN k) h)
  have HFR : Hid (∀ k, Fr (· = g) w (((w.drewN k).setCells g 0 (evsC l)).setCells g (l.length * 4) evZ)) := Lib.hid (fun k => fr_setCells g _ _ (fr_setCells g _ _ ((Fr.refl _ w).drewN k)))
  obtain ⟨hc, hm, hsp, hcells⟩ : l.length + 1 ≤ cap ∧ cap ≤ 9223372036854775807 ∧ (∃ cur : Array Value, w.heap[g]? = some (.cells cur 31 (0, 0)) ∧ (l.length + 1) * 4 ≤ cur.size) ∧ (∀ j u, (evsC (e :: l))[j]? = some u → w.cell? ⟨g, j, none⟩ = some u) := by
    have hin := RowIn.of_own h (evsC_len _) (fun _ => True) (fun _ _ => trivial)
    obtain ⟨b, off, e1, -, -, hcc⟩ := RowIn.at_ hin 0 (by simp)
    injection e1 with e1
    injection e1 with e1 e2
    subst e1 e2
    rcases h.2 with ⟨h1, -⟩ | ⟨g', cap', cur, h1, hB, hg, hc, hm, hs, ht⟩
    · cases h1
    · injection h1 with a1 a2 a3
      injection a1 with a1
      injection a1 with a1
      subst a1 a3
      refine ⟨by simpa using hc, by unfold maxLen at hm; omega, ⟨cur, hg, ?_⟩, fun j u hu => by simpa using hcc j u hu⟩
      have := congrArg List.length ht
      rw [List.length_take, evsC_len, Array.length_toList] at this
      have hz : (e :: l).length = l.length + 1 := rfl
      omega
  obtain ⟨cur, hg, hcur⟩ := hsp
  have hA : ∀ X : World, (∀ x : Addr, X.cell? x = w.cell? x) → ∀ j u, (evsC l)[j]? = some u → X.cell? ((if cap = 1 then (⟨g, 0, none⟩ : Addr) else (⟨g, 0, none⟩ : Addr).add 4).add j) = some u := fun X hX j u hu => by
    have hj := (List.getElem?_eq_some_iff.1 hu).1
    rw [evsC_len] at hj
    rw [if_neg (by omega), addr_b0, addr_plain, hX]
    refine hcells (4 + j) u ?_
    rw [show evsC (e :: l) = evC e ++ evsC l from rfl, List.getElem?_append_right (show (evC e).length ≤ 4 + j by show 4 ≤ 4 + j; omega)]
    show (evsC l)[4 + j - 4]? = _
    rw [Nat.add_sub_cancel_left]
    exact hu
  have hsome : ∀ j, j < (l.length + 1) * 4 → (w.cell? ⟨g, j, none⟩).isSome = true ∧ w.frozen? ⟨g, j, none⟩ = false := fun j hj => ⟨by rw [cell_of_heap hg, Array.getElem?_eq_getElem (by omega)]; rfl, thaw hg⟩
  obtain ⟨i0, hi0, hz0, hz1, hz2⟩ := info_parts infoEv
  have HK := Lib.hid (And.intro hA hsome)
  have hcl : ∀ (k : Nat) ty, (Builtin.clear_ #[37] ty #[.slice (some ⟨g, l.length * 4, none⟩) 1 (cap - l.length)]).run Try.prog ((w.drewN k).setCells g 0 (evsC l)) = .ok (.tuple #[]) (((w.drewN k).setCells g 0 (evsC l)).setCells g (l.length * 4) evZ) := fun k ty => by
    have hh := heap_setCells g 31 (evsC l) 0 (w.drewN k) cur hg
    exact run_clear_ev _ ty g (l.length * 4) _ (fun j hj => by rw [cell_of_heap hh, Array.getElem?_eq_getElem (by rw [setMany_size]; omega)]; rfl) (fun j hj => thaw hh)
  have HCL := Lib.hid hcl
  have hlo := run_elo ⟨g, 0, none⟩ (l.length + 1) cap (by omega)
  have hh0 := run_eh0 ⟨g, 0, none⟩ (l.length + 1) cap
  have hlh := run_elh g l.length cap hc
  have hcap1 : 1 ≤ cap := by omega
  rw [Nat.add_sub_cancel] at hlo
  clear h hcells hg hA hsome hcl hcur
  have HN : Hid ((evsC l).length = l.length * 4) := Lib.hid (evsC_len l)
  have HO := Lib.hid (evsC_one l)
  obtain ⟨A, hAe⟩ : ∃ A, (if cap = 1 then (⟨g, 0, none⟩ : Addr) else (⟨g, 0, none⟩ : Addr).add 4) = A := ⟨_, rfl⟩
  rw [hAe] at HK hlo
  clear hAe
  generalize evsC l = news at *
  generalize l.length = n at *
  go_enter Try.func36, Try.ntmps36
  go_upto_region 5 with fail
  have hcd : ∀ ty, (Builtin.clear_ #[37] ty #[.slice (some ⟨g, n * 4, none⟩) 1 (cap - n)]).run Try.prog (w.drew.setCells g 0 news) = .ok (.tuple #[]) ((w.drew.setCells g 0 news).setCells g (n * 4) evZ) := HCL.out 1
  have HFIN : Hid (EvRow ((w.drew.setCells g 0 news).setCells g (n * 4) evZ) B (.slice (some ⟨g, 0, none⟩) n cap) l ∧ Fr (· = g) w ((w.drew.setCells g 0 news).setCells g (n * 4) evZ)) := Lib.hid ⟨HD.out 1, HFR.out 1⟩
  obtain ⟨W1, hW1⟩ : ∃ W1, w.drew.setCells g 0 news = W1 := ⟨_, rfl⟩
  rw [hW1] at hcd HFIN
  have HW1 := Lib.hid hW1
  clear hW1 HCL HD HFR
  go_region_law (refine step_append_room rfl (.tmp 22) (.tmp 25) 37 rfl 31 i0 4 Try.underlying37 hi0 hz1 g 0 0 cap (by simp [Act.eval, Act.put]) A n (cap - 1) news (by simp [Act.eval, Act.put]) HN.out (HK.out.1 _ (fun _ => rfl)) HO.out (by omega) (fun j hj => by rw [Nat.zero_mul, Nat.add_zero, Nat.zero_add]; exact HK.out.2 j (by have := HN.out; omega)) ?_; rw [Nat.zero_mul, Nat.add_zero, HW1.out, Nat.zero_add])
  all_goals
    go_wp2_with fail
    go_ret
    exact ⟨rfl, HFIN.out⟩
end Go.Proofs.Ytgegphciaejkiaa
